import PyProof.Rows.All
import Wide.All
import OpenK.AllK
import Wide.FinOn
import Lean
import PyProof.EqAt
import PyProof.EqKinds
import PyProof.TupleCall
import PyProof.SetRoads
import PyProof.Rows.SetFrom
import PyProof.StrWalks
import PyProof.FactsAll.set
import PyProof.FactsAll.subtypes_3
import PyProof.CollectWalk
import PyProof.CollectStr
import PyProof.StationsW
import PyProof.RulesAs
import KE.KTryMore
import PyProof.NsDelKeeps
import PyProof.ListStr
import PyProof.TupleOfStr
import PyProof.ConsumeS
import KE.KEqDict
import PyProof.DictWalks
import PyProof.DictUpdate
import KE.KLam
import OpenK.KCell
import KE.KMinKey
import PyProof.Rows.StrInSeq3
import PyProof.DictDisplay
import PyProof.ListRange
import PyProof.Rows.StrNews2
import KE.KRevIter
import KE.KDictList
import PySem.Challenge.RW_lackword_k83_shelf_refuses_and_copies
set_option autoImplicit true
set_option relaxedAutoImplicit true
abbrev AA:=List (PySem.Addr×PySem.Obj)
abbrev AB:=PySem.Str->Option PySem.Value
abbrev AC:=List PySem.Value
abbrev AD:=PySem.Addr
abbrev AE:=PySem.Shared
abbrev AF:=PySem.FuncData
abbrev AG:=PySem.Program
abbrev AH:=PySem.Around
abbrev AI:=PySem.World
abbrev AJ:=List PySem.Str
abbrev Q11:=List Nat
abbrev Q22:=List (List Nat)
abbrev Q33:=PySem.Value->PySem.Shared->Prop
abbrev Q4:=PySem.W.Frag
set_option Elab.async false
set_option linter.all false
def YAA:=@PySem.wpAny_bind
def YAB:=@PySem.Heap.get?_push_of_some
def YAC:=@Bool.false_ne_true
def YAD:=@List.length_map
def YAE:=@List.mem_cons
def YAF:=@PySem.wpAny_pure
def YAG:=@List.mem_singleton
def YAH:=@List.length_append
def YAI:=@if_neg
def YAJ:=@List.size_toArray
def YAK:=@Nat.le_trans
def YAL:=@PySem.Heap.lt_size
def YAM:=@if_pos
def YAN:=@List.getElem?_eq_getElem
def YAO:=@PyProof.Rows.wpS_bind
def YAP:=@Bool.and_eq_true
def YAQ:=@PySem.Heap.get?_push_size
def YAR:=@Array.length_toList
def YAS:=@Nat.le_refl
def YAT:=@List.not_mem_nil
def YAU:=@PySem.W.mg_of
def YAV:=@List.mem_append
def YAW:=@PyProof.Rows.wpS_pure
def YAX:=@List.mem_cons_of_mem
def YAY:=@List.getD_eq_getElem?_getD
def YAZ:=@List.contains_cons
def YAa:=@List.length_take
def YAb:=@List.mem_of_mem_drop
def YAc:=@List.map_cons
def YAd:=@List.length_singleton
def YAe:=@List.mem_of_mem_take
def YAf:=@Nat.ne_of_lt
def YAg:=@List.mem_cons_self
def YAh:=@Ne.symm
def YAi:=@List.getElem?_map
def YAj:=@List.getElem?_eq_some_iff
def YAk:=@List.length_drop
def YAl:=@List.length_cons
def YAm:=@PySem.Heap.SameBut.update
def YAn:=@Nat.lt_of_lt_of_le
def YAo:=@Array.getElem?_toList
def YAp:=@List.take_of_length_le
def YAq:=@List.mem_of_getElem?
def YAr:=@List.append_assoc
def YAs:=@List.take_append_drop
def YAt:=@List.mem_map
def YAu:=@List.map_map
def YAv:=@Nat.lt_irrefl
def YAw:=@PySem.Heap.get?_update_other
def YAx:=@Nat.zero_le
def YAy:=@List.map_append
def YAz:=@PySem.wpAny_holding
def YBA:=@List.mem_range
def YBB:=@List.length_filter_le
def YBC:=@List.pairwise_cons
def YBD:=@List.all_eq_true
def YBE:=@List.mem_map_of_mem
def YBF:=@List.pairwise_append
def YBG:=@Array.toList_extract
def YBH:=@List.getElem?_append_right
def YBI:=@PySem.wpAny_mono
def YBJ:=@PySem.PassesOwn.never
def YBK:=@List.getElem?_append_left
def YBL:=@Array.toList_append
def YBM:=@PySem.W.kia_one
def YBN:=@List.mem_append_right
def YBO:=@PySem.Heap.get?_update_self
def YBP:=@List.pairwise_map
def YBQ:=@List.length_dropLast
def YBR:=@PySem.W.mg_none_of
def YBS:=@PyProof.Rows.wpS_forRange
def YBT:=@List.mem_filter
def YBU:=@Bool.eq_iff_iff
def YBV:=@List.drop_zero
def YBW:=@PySem.Heap.size_push
def YBX:=@PySem.wpAny_loadPart_at
def YBY:=@Array.toList_push
def YBZ:=@Bool.false_and
def YBa:=@List.mem_reverse
def YBb:=@List.lookup_cons
def YBc:=@List.length_pos_iff
def YBd:=@List.length_range
def YBe:=@List.getElem?_eq_none
def YBf:=@PySem.wpAny_setField
def YBg:=@PySem.wpAny_Call_Name_kw
def YBh:=@PySem.F.plainAttrs_list
def YBi:=@Int.emod_lt_of_pos
def YBj:=@PySem.W.looks_findIn
def YBk:=@PySem.wpAny_newObj_type
def YBl:=@PySem.mem_of_lookup
def YBm:=@List.flatten_cons
def YBn:=@Int.emod_nonneg
def YBo:=@PySem.W.callWith_K
def YBp:=@Bool.false_eq_true
def YBq:=@Option.bind_some
def YBr:=@List.getElem_mem
def YBs:=@PySem.Around.under_plainId
def YBt:=@Bool.true_and
def YBu:=@Bool.eq_false_iff
def YBv:=@Nat.min_eq_left
def YBw:=@List.nodup_cons
def YBx:=@List.map_congr_left
def YBy:=@PyProof.Rows.wpS_mono
def YBz:=@Array.getElem?_eq_some_iff
def YCA:=@Nat.succ_le_succ
def YCB:=@PySem.W.methodCall_KW
def YCC:=@Nat.le_of_eq
def YCD:=@List.drop_eq_getElem_cons
def YCE:=@Bool.and_false
def YCF:=@PyProof.Rows.wpS_modify
def YCG:=@PySem.wpAny_truthy_bool
def YCH:=@PySem.wpAny_rule
def YCI:=@PySem.wpAny_call
def YCJ:=@PySem.F.type_list_append
def YCK:=@PySem.F.slot_list_append
def YCL:=@List.range_succ
def YCM:=@Nat.le_of_lt
def YCN:=@List.getElem_of_mem
def YCO:=@PySem.W.any_some
def YCP:=@List.getLast?_eq_some_getLast
def YCQ:=@List.ext_getElem
def YCR:=@List.drop_append_of_le_length
def YCS:=@List.take_take
def YCT:=@PySem.F.plainAttrs_str
def YCU:=@List.drop_eq_nil_of_le
def YCV:=@Nat.lt_of_le_of_lt
def YCW:=@PySem.wpAny_passesOwn
def YCX:=@Nat.le_succ
def YCY:=@List.foldl_cons
def YCZ:=@PySem.wpAny_setState_of
def YCa:=@PySem.wpAny_attempt
def YCb:=@List.take_sublist
def YCc:=@Int.toNat_natCast
def YCd:=@Array.perm_iff_toList_perm
def YCe:=@List.dropLast_concat
def YCf:=@Array.toArray_toList
def YCg:=@List.drop_drop
def YCh:=@PySem.Calls.call_function_entry
def YCi:=@PySem.wpAny_call_entry
def YCj:=@PySem.wpAny_askSetting
def YCk:=@List.cons_append
def YCl:=@PySem.wpAny_isSubtype_exc
def YCm:=@PySem.wpAny_execs_nil
def YCn:=@PySem.Obj.data_mapFields
def YCo:=@List.length_nil
def YCp:=@List.length_eq_zero_iff
def YCq:=@List.getElem?_take
def YCr:=@List.getElem?_drop
def YCs:=@List.find?_cons
def YCt:=@List.filter_append
def YCu:=@PySem.Calls.spliced_cons
def YCv:=@Bool.not_true
def YCw:=@Option.map_eq_some_iff
def YCx:=@Nat.lt_succ_of_lt
def YCy:=@List.nodup_append
def YCz:=@List.ext_getElem?
def YDA:=@PyProof.Rows.callWith_builtin1
def YDB:=@List.dropLast_eq_take
def YDC:=@List.take_length
def YDD:=@List.eq_nil_of_length_eq_zero
def YDE:=@PySem.F.excBase_ValueError
def YDF:=@PySem.wpAny_standAt
def YDG:=@List.dropLast_concat_getLast
def YDH:=@PyProof.Rows.wpS_get
def YDI:=@PySem.W.looks_mroIn
def YDJ:=@PyProof.Rows.callWith_type1
def YDK:=@Option.map_some
def YDL:=@List.filter_eq_self
def YDM:=@List.filterMap_cons
def YDN:=@List.append_nil
def YDO:=@List.length_eraseIdx_of_lt
def YDP:=@Array.toList_setIfInBounds
def YDQ:=@List.map_nil
def YDR:=@List.pairwise_iff_getElem
def YDS:=@List.Perm.refl
def YDT:=@PySem.wpAny_pyIter_list
set_option maxRecDepth 100000
namespace L2
open PySem PySem.Spec PyProof.Rows
abbrev Key:=Sum Int Str
def ZeW:Key->Value->Bool
 | .inl k,v=>Value.isInt k v
 | .inr x,v=>Value.isStrOf x v
def keyH (w:AI):Key->Int
 | .inl k=>hashInt k
 | .inr x=>hashStr w x
theorem Za0:∀ {k:Key} {v:Value},ZeW k v=true->(∃i t,k=Sum.inl i/\v=Value.int i t)\/(∃x t,k=Sum.inr x/\v=Value.str x t)
 | .inl i,v,h=>by
  obtain⟨t,e⟩:=Value.isInt_shape (k:=i) (v:=v) h;exact .inl ⟨i,t,rfl,e⟩
 | .inr x,v,h=>by obtain⟨t,e⟩:=Value.isStrOf_shape (x:=x) (v:=v) h;exact .inr ⟨x,t,rfl,e⟩
theorem Zjc (i:Int)(t:Tok):ZeW (.inl i) (.int i t)=true:=by simp[ZeW,Value.isInt]
theorem Zjb (x:Str)(t:Tok):ZeW (.inr x) (.str x t)=true:=by simp[ZeW,Value.isStrOf]
theorem Zoe (a b:Int):decide ((Sum.inl a:Key)=Sum.inl b)=(a == b):=by
 by_cases e:a=b
 .subst e;simp
 .have h:¬(Sum.inl a:Key)=Sum.inl b:=λq=>e (Sum.inl.inj q);rw[decide_eq_false h];exact(beq_eq_false_iff_ne.mpr e).symm
theorem Zob (a b:Str):decide ((Sum.inr a:Key)=Sum.inr b)=decide (a=b):=by
 by_cases e:a=b
 .subst e;simp
 .have h:¬(Sum.inr a:Key)=Sum.inr b:=λq=>e (Sum.inr.inj q);rw[decide_eq_false h,decide_eq_false e]
theorem Zod (a:Int)(b:Str):decide ((Sum.inl a:Key)=Sum.inr b)=false:=decide_eq_false (λq=>nomatch q)
theorem Zoc (a:Str)(b:Int):decide ((Sum.inr a:Key)=Sum.inl b)=false:=decide_eq_false (λq=>nomatch q)
def ZaD (prog:AG)(w:AI):PySem.KeyKind prog w Key where
 is:=ZeW
 hash:=keyH w
 inj:=λv a b ha hb=>by
  rcases Za0 ha with⟨i,t,rfl,rfl⟩|⟨x,t,rfl,rfl⟩
  .rcases Za0 hb with⟨j,u,rfl,e⟩|⟨y,u,rfl,e⟩
   .injection e with e1 _;rw[e1]
   .exact nomatch e
  .rcases Za0 hb with⟨j,u,rfl,e⟩|⟨y,u,rfl,e⟩
   .exact nomatch e
   .injection e with e1 _;rw[e1]
 byValue:=λk v h=>by rcases Za0 h with⟨i,t,rfl,rfl⟩|⟨x,t,rfl,rfl⟩<;>rfl
 pyHash:=λhv h=>by
  rcases Za0 hv with⟨i,t,rfl,rfl⟩|⟨x,t,rfl,rfl⟩
  .exact wpAny_pyHash_int h
  .exact wpAny_pyHash_str h
 eqBool:=λhu hv h=>by
  rcases Za0 hu with⟨i,t,rfl,rfl⟩|⟨x,t,rfl,rfl⟩
  .rcases Za0 hv with⟨j,u,rfl,rfl⟩|⟨y,u,rfl,rfl⟩
   .rw[Zoe]at h;exact wpAny_eqBool_int h
   .rw[Zod]at h;exact SeqAt.EqAt.int_str i t y u _ _ _ _ h
  .rcases Za0 hv with⟨j,u,rfl,rfl⟩|⟨y,u,rfl,rfl⟩
   .rw[Zoc]at h;exact SeqAt.EqAt.str_int x t j u _ _ _ _ h
   .rw[Zob]at h;exact wpAny_eqBool_str h
 «strs»:=λk x t v h=>by
  rcases Za0 h with⟨i,u,rfl,e⟩|⟨y,u,rfl,e⟩
  .exact nomatch e
  .injection e with e1 _;subst e1;cases v<;>rfl
theorem Zgq (prog:AG)(w:AI)(i:Int)(t:Tok):(ZaD prog w).is (.inl i) (.int i t)=true:=Zjc i t
theorem ZdK (prog:AG)(w:AI)(x:Str)(t:Tok):(ZaD prog w).is (.inr x) (.str x t)=true:=Zjb x t
inductive V where
 | non | bl (b:Bool) | int (i:Int) | str (x:Str) | byt (b:Array UInt8) | flt (b:UInt64) | ref (a:AD) | ty (n:String)
 deriving DecidableEq
def RelV:V->Value->Prop
 | .non,u=>u=Value.none
 | .bl b,u=>u=Value.bool b
 | .int i,u=>∃t,u=Value.int i t
 | .str x,u=>∃t,u=Value.str x t
 | .byt b,u=>∃t,u=Value.bytes b t
 | .flt b,u=>∃t,u=Value.float b t
 | .ref a,u=>u=Value.ref a
 | .ty n,u=>u=Value.type n
abbrev Vals:List V->AC->Prop:=Paired RelV
theorem Vals.length (r:Vals xs us):xs.length=us.length:=Paired.length r
theorem Vals.get:∀ {xs:List V} {us:AC} {i:Nat} {x:V},Vals xs us->xs[i]?=some x->∃u,us[i]?=some u/\RelV x u
 | _,_,_,_,.nil,e=>by simp at e
 | _,_,0,_,.cons r _,e=>by simp at e;subst e;exact⟨_,rfl,r⟩
 | _,_,i+1,x,.cons _ t,e=>by obtain⟨u,h1,h2⟩:=Vals.get (i:=i) (x:=x) t (by simpa using e);exact⟨u,by simpa using h1,h2⟩
theorem Vals.append:∀ {xs ys:List V} {us ws:AC},Vals xs us->Vals ys ws->Vals (xs++ys) (us++ws)
 | _,_,_,_,.nil,s=>s
 | _,_,_,_,.cons r t,s=>.cons r (Vals.append t s)
theorem Vals.take:∀ {xs:List V} {us:AC} (n:Nat),Vals xs us->Vals (xs.take n) (us.take n)
 | _,_,0,_=>.nil
 | _,_,_+1,.nil=>.nil
 | _,_,n+1,.cons r t=>.cons r (Vals.take n t)
theorem Vals.drop:∀ {xs:List V} {us:AC} (n:Nat),Vals xs us->Vals (xs.drop n) (us.drop n)
 | _,_,0,r=>r
 | _,_,_+1,.nil=>.nil
 | _,_,n+1,.cons _ t=>Vals.drop n t
def RelO:Option V->Option Value->Prop
 | some v,some u=>RelV v u
 | none,none=>True
 | _,_=>False
def KV {κ:Type}:List (κ×V)->List (κ×Value)->Prop:=Paired λ(p:κ×V) (q:κ×Value)=>p.1=q.1/\RelV p.2 q.2
def kV:Key->V
 | .inl i=>.int i
 | .inr x=>.str x
inductive HO where
 | lst (xs:List V)
 | tup (xs:List V)
 | dK (kvs:List (Key×V)) | dT (kvs:List (List Key×V))
 | set (S:Int->Bool) (n:Nat)
 | ins (C dx:AD) (fs:List (Str×V))
 | own (x:AD)
 | xd (fs:List (Str×V))
 | met (f x:AD)
 | rng (lo hi:Int)
 | frz (o:Obj) (u:HO)
 | tbl (ps:Array Value)
 | ext (φ:Heap->Prop)
abbrev Hp:=Addr->Option HO
def upd (H:Hp)(a:AD)(o:HO):Hp:=λb=>if b=a then some o else H b
theorem Zag:upd H a o a=some o:=by unfold upd;rw[YAM rfl]
theorem Zai (h:b≠a):upd H a o b=H b:=by unfold upd;rw[YAI h]
theorem ZpR {H:Hp}{a b:AD}{o u:HO}(h:H a=some o)(h':H b=some u)(d:o≠u):a≠b:=by intro e;subst e;rw[h]at h';exact d (Option.some.inj h')
theorem Zad {H:Hp}{a b:AD}{o:HO}(h:H a=some o)(h':H b=none):a≠b:=by intro e;subst e;rw[h]at h';cases h'
section
variable (P:AG)(w:AI)
def ObjOk (H:Hp)(h:Heap)(a:AD):HO->Prop
 | .lst xs=>xs.length<=sizeLine/\∃(its:AC) (n:Nat),Vals xs its/\h.get? a=some { cls:=.type "list",data:=.seq its.toArray n }
 | .tup xs=>xs.length<=sizeLine/\∃its:AC,Vals xs its/\IsTup h a its.toArray
 | .dK kvs=>kvs.length<=sizeLine/\(a == sysModules)=false/\∃vs,KV kvs vs/\h.DictOf (ZaD P w) a vs
 | .dT kvs=>kvs.length<=sizeLine/\(a == sysModules)=false/\∃xs:List (List Key×AD×Value),
   Paired (λ(p:List Key×V) (q:List Key×AD×Value)=>p.1=q.1/\H q.2.1=some (.tup (p.1.map kV))/\RelV p.2 q.2.2) kvs xs /\
   ∃o es ep,h.get? a=some o/\o.ExactDict/\o.data=.dict es ep/\es.toList=xs.map (entryOfKey (tupleKind (ZaD P w)))/\(xs.map (·.1)).Nodup
 | .set S n=>h.SetOf (intKind P w) a S n
 | .ins C dx fs=>H dx=some (.own a)/\fs.length<=1000/\dx≠a/\h.get? a=some (PySem.W.instObj C dx) /\
   ∃mA,h.Ns1 dx mA/\(∀f,RelO (fs.lookup f) (mA f))/\PySem.Within mA (fs.map (·.1))
 | .own _=>∃o,h.get? a=some o
 | .xd fs=>∃mA,h.Ns1 a mA/\∀f,RelO (fs.lookup f) (mA f)
 | .rng lo hi=>∃t u v,h.get? a=some { cls:=.type "range",data:=.fields #[.int lo t,.int hi u,.int 1 v] }
 | .frz o u=>h.get? a=some o/\ObjOk H h a u
 | .tbl ps=>h.get? a=some { cls:=.none,data:=.fields ps }
 | .met f x=>h.get? a=some (PySem.W.methodObj (.ref f) (.ref x))
 | .ext φ=>φ h/\(∃o,h.get? a=some o)/\∀h1 h2:Heap,φ h1->(∀o,h1.get? a=some o->h2.get? a=some o)->φ h2
def HOk (H:Hp)(h:Heap):Prop:=∀a o,H a=some o->ObjOk P w H h a o
end
section
theorem ObjOk.lt (x:ObjOk P w H h a o):a<h.objs.size:=by
 cases o with
 | lst xs=>obtain⟨_,_,_,_,e⟩:=x;exact YAL e
 | tup xs=>obtain⟨_,_,_,p⟩:=x;exact p.lt
 | dK kvs=>obtain⟨_,_,_,_,o,_,_,e,_⟩:=x;exact YAL e
 | dT kvs=>obtain⟨_,_,_,_,o,_,_,e,_⟩:=x;exact YAL e
 | set S n=>obtain⟨o,_,_,_,e,_⟩:=x;exact YAL e
 | ins C dx fs=>obtain⟨_,_,_,e,_⟩:=x;exact YAL e
 | own y=>obtain⟨_,e⟩:=x;exact YAL e
 | xd fs=>obtain⟨_,⟨_,_,_,e,_⟩,_⟩:=x;exact YAL e
 | rng lo hi=>obtain⟨_,_,_,e⟩:=x;exact YAL e
 | frz ob u=>obtain⟨e,_⟩:=x;exact YAL e
 | tbl ps=>exact YAL (show h.get? a=some _ from x)
 | met f y=>exact YAL (show h.get? a=some _ from x)
 | ext φ=>obtain⟨_,⟨_,e⟩,_⟩:=x;exact YAL e
theorem Paired.mapP {α β:Type}{F G:α->β->Prop}:∀ {l9:List α} {l₂:List β},Paired F l9 l₂->(∀a b,F a b->G a b)->Paired G l9 l₂
 | _,_,.nil,_=>.nil
 | _,_,.cons r t,f=>.cons (f _ _ r) (Paired.mapP t f)
theorem ObjOk.stay (x:ObjOk P w H h a o)(k:∀b u,(b=a\/H b=some (.own a))->h.get? b=some u->h'.get? b=some u)
  (ho:∀b,H b=some (.own a)->H' b=some (.own a)) (ht:∀b xs,H b=some (.tup xs)->H' b=some (.tup xs)):ObjOk P w H' h' a o:=by
 induction o with
 | lst xs=>obtain⟨z,its,n,r,e⟩:=x;exact⟨z,its,n,r,k _ _ (.inl rfl) e⟩
 | tup xs=>obtain⟨z,its,r,ob,e,c⟩:=x;exact⟨z,its,r,ob,k _ _ (.inl rfl) e,c⟩
 | dK kvs=>obtain⟨z,y,vs,r,ob,es,ep,e,c⟩:=x;exact⟨z,y,vs,r,ob,es,ep,k _ _ (.inl rfl) e,c⟩
 | dT kvs=>
  obtain⟨z,y,xs,r,ob,es,ep,e,c⟩:=x;exact⟨z,y,xs,Paired.mapP r λp q z=>⟨z.1,ht _ _ z.2.1,z.2.2⟩,ob,es,ep,k _ _ (.inl rfl) e,c⟩
 | set S n=>obtain⟨ob,es,ep,t,e,c⟩:=x;exact⟨ob,es,ep,t,k _ _ (.inl rfl) e,c⟩
 | ins C dx fs=>
  obtain⟨d,z,ne,e,mA,⟨od,es,ep,e2,c⟩,r⟩:=x;exact⟨ho _ d,z,ne,k _ _ (.inl rfl) e,mA,⟨od,es,ep,k _ _ (.inr d) e2,c⟩,r⟩
 | own y=>obtain⟨ob,e⟩:=x;exact⟨ob,k _ _ (.inl rfl) e⟩
 | xd fs=>obtain⟨mA,⟨od,es,ep,e,c⟩,r⟩:=x;exact⟨mA,⟨od,es,ep,k _ _ (.inl rfl) e,c⟩,r⟩
 | rng lo hi=>obtain⟨t,u,v,e⟩:=x;exact⟨t,u,v,k _ _ (.inl rfl) e⟩
 | frz ob u ih=>obtain⟨e,q⟩:=x;exact⟨k _ _ (.inl rfl) e,ih q⟩
 | tbl ps=>
  have e:h.get? a=some { cls:=.none,data:=.fields ps }:=x;show h'.get? a=some { cls:=.none,data:=.fields ps };exact k a _ (.inl rfl) e
 | met f y=>
  have e:h.get? a=some (PySem.W.methodObj (.ref f) (.ref y)):=x;show h'.get? a=some (PySem.W.methodObj (.ref f) (.ref y));exact k a _ (.inl rfl) e
 | ext φ=>obtain⟨p,⟨o,e⟩,st⟩:=x;exact⟨st _ _ p λo q=>k _ _ (.inl rfl) q,⟨o,k _ _ (.inl rfl) e⟩,st⟩
theorem HOk.lt (x:HOk P w H h)(e:H a=some o):a<h.objs.size:=(x a o e).lt
theorem HOk.fresh (x:HOk P w H h)(e:h.objs.size<=a):H a=none:=by
 cases q:H a with
 | none=>rfl
 | some u=>exact absurd (YAn (x.lt q) e) (YAv _)
theorem HOk.kept (x:HOk P w H h)(k:∀b u,h.get? b=some u->h'.get? b=some u):HOk P w H h':=λa o e=>
 (x a o e).stay (λb u _ q=>k b u q) (λ_ q=>q) λ_ _ q=>q
theorem HOk.laid (x:HOk P w H h)(k:∀b u,h.get? b=some u->h'.get? b=some u)(hp:h.objs.size<=a)(new:ObjOk P w (upd H a o) h' a o):HOk P w (upd H a o) h':=λb u e=>by
 have hn:=x.fresh hp;by_cases hb:b=a
 .subst hb;rw[Zag]at e;cases e;exact new
 .rw[Zai hb]at e;exact(x b u e).stay (λc v _ q=>k c v q) (λc q=>by rw[Zai (Zad q hn)];exact q) λc xs q=>by rw[Zai (Zad q hn)];exact q
end
def Rd (H:Hp)(a:AD)(u:HO):Prop:=H a=some u\/∃o,H a=some (.frz o u)
theorem Rd.ok (r:Rd H a u)(x:HOk P w H h):ObjOk P w H h a u:=by
 rcases r with r | ⟨o,r⟩
 .exact x a u r
 .obtain⟨_,q⟩:=x a _ r;exact q
def Mut:Option HO->Prop
 | some (.lst _)=>True
 | some (.dK _)=>True
 | some (.dT _)=>True
 | some (.set _ _)=>True
 | some (.ins _ _ _)=>True
 | some (.ext _)=>True
 | _=>False
section
theorem HOk.write (ok:HOk P w H h)(mu:Mut (H x))(he:e=x\/H e=some (.own x))(k:∀b u,b≠e->h.get? b=some u->h'.get? b=some u)(heo:∃u,h'.get? e=some u)
  (new:ObjOk P w (upd H x o') h' x o'):HOk P w (upd H x o') h':=λb u q=>by
 have nown:∀c y,H c=some (.own y)->c≠x:=λc y r z=>by subst z;rw[r]at mu;exact mu
 have ntup:∀c xs,H c=some (.tup xs)->c≠x:=λc xs r z=>by subst z;rw[r]at mu;exact mu
 by_cases hb:b=x
 .subst hb;rw[Zag]at q;cases q;exact new
 .rw[Zai hb]at q;by_cases hbe:b=e
  .have q':H b=some (.own x):=by
    rcases he with z | z
    .exact absurd (hbe.trans z) hb
    .rw[hbe];exact z
   rw[q]at q';cases q';obtain⟨v,hv⟩:=heo;exact⟨v,by rw[hbe];exact hv⟩
  .refine(ok b u q).stay (λc v hc r=>k c v ?_ r) (λc r=>by rw[Zai (nown c b r)];exact r) λc xs r=>by rw[Zai (ntup c xs r)];exact r
   rcases hc with rfl | hc
   .exact hbe
   .rintro rfl;rcases he with z | z
    .exact nown c b hc z
    .rw[hc]at z;cases z;exact hb rfl
end
structure Un (fs ex:List AD)(H H':Hp)(h h':Heap):Prop where
 keep:∀b o,h.get? b=some o->H b=none->b∉fs->b∉ex->h'.get? b=some o
 slot:∀b o,h.get? b=some o->H b=none->b∈fs->b∉ex->∃sl,h'.get? b=some { o with slots:=sl }
 free:∀b o,h.get? b=some o->H b=none->b∉ex->H' b=none
 there:∀b o,h.get? b=some o->b∉ex->∃o',h'.get? b=some o'
 tups:∀b xs,H b=some (.tup xs)->H' b=some (.tup xs)
 frzs:∀b o u,H b=some (.frz o u)->H' b=some (.frz o u)
 tbls:∀b ps,H b=some (.tbl ps)->∃more,H' b=some (.tbl (ps++more))
section
theorem Un.any (u:Un fs ex H H1 h h1){b:AD}{ob:Obj}(q:h.get? b=some ob)(n:H b=none)(hx:b∉ex):∃sl,h1.get? b=some { ob with slots:=sl }:=by
 by_cases hb:b∈fs
 .exact u.slot b ob q n hb hx
 .exact⟨ob.slots,u.keep b ob q n hb hx⟩
theorem Un.trans (a:Un fs ex H H1 h h1)(b:Un fs ex H1 H2 h1 h2):Un fs ex H H2 h h2 where
 keep:=λc ob q n hc hx=>b.keep c ob (a.keep c ob q n hc hx) (a.free c ob q n hx) hc hx
 slot:=λc ob q n hc hx=>by obtain⟨sl,e1⟩:=a.slot c ob q n hc hx;obtain⟨sl',e2⟩:=b.slot c _ e1 (a.free c ob q n hx) hc hx;exact⟨sl',e2⟩
 free:=λc ob q n hx=>by obtain⟨o',e1⟩:=a.there c ob q hx;exact b.free c o' e1 (a.free c ob q n hx) hx
 there:=λc ob q hx=>by obtain⟨o',e1⟩:=a.there c ob q hx;exact b.there c o' e1 hx
 tups:=λc xs q=>b.tups c xs (a.tups c xs q)
 frzs:=λc ob xs q=>b.frzs c ob xs (a.frzs c ob xs q)
 tbls:=λc ps q=>by obtain⟨m1,e1⟩:=a.tbls c ps q;obtain⟨m2,e2⟩:=b.tbls c _ e1;exact⟨m1++m2,by rw[e2,Array.append_assoc]⟩
theorem Un.kept (k:∀b u,h.get? b=some u->h'.get? b=some u):Un fs ex H H h h':=
 ⟨λb ob q _ _ _=>k b ob q,λb ob q _ _ _=>⟨ob.slots,k b ob q⟩,λ_ _ _ n _=>n,λb ob q _=>⟨ob,k b ob q⟩,λ_ _ q=>q,λ_ _ _ q=>q,λ_ ps q=>⟨#[],by rw[q];simp⟩⟩
theorem Un.refl:Un fs ex H H h h:=Un.kept λ_ _ q=>q
theorem Un.laid (k:∀b u,h.get? b=some u->h'.get? b=some u)(hp:h.objs.size<=a)(hn:H a=none):Un fs ex H (upd H a o) h h' where
 keep:=λb u q _ _ _=>k b u q
 slot:=λb u q _ _ _=>⟨u.slots,k b u q⟩
 free:=λb u q n _=>by rw[Zai (YAf (YAn (YAL q) hp))];exact n
 there:=λb u q _=>⟨u,k b u q⟩
 tups:=λb xs q=>by rw[Zai (Zad q hn)];exact q
 frzs:=λb u xs q=>by rw[Zai (Zad q hn)];exact q
 tbls:=λb ps q=>⟨#[],by rw[Zai (Zad q hn),q];simp⟩
theorem Un.write (mu:Mut (H x))(he:e=x\/H e=some (.own x))(k:∀b u,b≠e->h.get? b=some u->h'.get? b=some u)(heo:∃u,h'.get? e=some u):Un fs ex H (upd H x o) h h':=by
 have hx:∀b,H b=none->b≠x:=λb n z=>by subst z;rw[n]at mu;exact mu
 have hb:∀b,H b=none->b≠e:=λb n z=>by
  subst z;rcases he with r | r
  .exact hx b n r
  .rw[n]at r;cases r
 have hm:∀b u,H b=some u->¬Mut (some u)->b≠x:=λb u q nm z=>by subst z;rw[q]at mu;exact nm mu
 refine⟨λb u q n _ _=>k b u (hb b n) q,λb u q n _ _=>⟨u.slots,k b u (hb b n) q⟩,λb u q n _=>by rw[Zai (hx b n)];exact n,λb u q _=>?_,
  λb xs q=>by rw[Zai (hm b _ q λz=>z)];exact q,λb u xs q=>by rw[Zai (hm b _ q λz=>z)];exact q,λb ps q=>⟨#[],by rw[Zai (hm b _ q λz=>z),q];simp⟩⟩
 by_cases hbe:b=e
 .subst hbe;exact heo
 .exact⟨u,k b u hbe q⟩
end
def trk (h:Heap)(H:Hp):List AD:=(List.range h.objs.size).filter λa=>(H a).isSome
def hidT (h:Heap)(H:Hp):Heap:=PySem.W.hideAll h (trk h H)
theorem ZfT (h:Heap)(H:Hp):(hidT h H).objs.size=h.objs.size:=PySem.W.hideAll_size _ _
theorem Zhc (e:h.get? b=some o)(n:H b=none):(hidT h H).get? b=some o:=
 PySem.W.hideAll_get _ e λhm=>by have q:(H b).isSome=true:=(YBT.mp hm).2;rw[n]at q;simp at q
theorem ZiO (e:(hidT h H).get? b=some o):h.get? b=some o/\H b=none:=by
 have e':h.get? b=some o:=PySem.W.of_hideAll (trk h H) e;refine⟨e',?_⟩;cases q:H b with
 | none=>rfl
 | some x=>
  have hm:b∈trk h H:=YBT.mpr ⟨YBA.mpr (YAL e'),by simp[q]⟩;have z:(hidT h H).get? b=none:=PySem.W.hideAll_none (trk h H) hm;rw[z]at e;cases e
def ZmJ (g h:Heap)(L:AD):AA:=(List.range h.objs.size).filterMap λa=>if a=L\/(g.get? a).isSome=true then none else (h.get? a).map λo=>(a,o)
def rest (g h:Heap)(L d:AD):AA:=(ZmJ g h L).filter λp=>decide (p.1≠d)
structure Mod (K:Q4)(mg:AB)(base:Heap):Prop where
 kin:K.In base
 glob:base.Ns mainGlobals mg
 blt:∃mb,base.Ns builtinsNs mb/\∀x:Str,x≠"__name__"->mb x=bootBuiltins x
 nolimit:base.NoLimit
structure Cx where
 prog:AG
 w:AI
 K:Q4
 mg:AB
 base:Heap
 A:AH
 N:AJ
 s_0:AE
 H_0:Hp
 env:Env
 outer:List Env
 stack:List Env
 ex:List AD
 fn:Str->Bool
 calm:Bool
 pn:AA
 xe:Q33
def frs (l:List Env):List AD:=l.filterMap (·.frame)
abbrev Cx.fs (X:Cx):List AD:=frs X.outer
def Vis (sc:Scope)(x:Str):Prop:=sc.names.lookup x=some .local\/sc.names.lookup x=some .cell\/sc.names.lookup x=some .free
def Loc (sc:Scope)(x:Str):Prop:=sc.names.lookup x=some .local\/sc.names.lookup x=some .cell
def Look (env:Env)(h:Heap)(m:AB)(x:Str)(u:Value):Prop:=
 (env.kindOf x=some .local/\m x=some u)\/((env.kindOf x=some .cell\/env.kindOf x=some .free)/\∃c,env.cells.lookup x=some c/\h.IsCell c (some u))
structure Cx.Ok (X:Cx):Prop where
 mod:Mod X.K X.mg X.base
 kind:X.env.scope.kind=.function
 glob:X.env.globals=mainGlobals
 blt:X.env.builtins=builtinsNs
 above:X.s_0.heap.objs.size<=X.env.locals
 inj:∀x y c,X.env.cells.lookup x=some c->X.env.cells.lookup y=some c->x=y
 has:∀x,(X.env.kindOf x=some .cell\/X.env.kindOf x=some .free)->∃c,X.env.cells.lookup x=some c
 cab:∀x c,X.fn x=true->X.env.cells.lookup x=some c->X.s_0.heap.objs.size<=c
 hd:X.calm=true->X.A.handled=none
 frames:X.A.frames=some X.stack
 stk:X.stack=X.outer\/(X.stack=X.env::X.outer/\X.env.frame=some X.env.locals)
 exf:∀b∈X.ex,b≠X.env.locals/\∀x c,X.env.cells.lookup x=some c->c≠b
 bs:∀b o,X.base.get? b=some o->X.s_0.heap.get? b=some o/\X.H_0 b=none
 bsz:X.base.objs.size<=X.s_0.heap.objs.size
 noex:∀b o,X.base.get? b=some o->b∉X.ex
 exfs:∀b∈X.ex,b∉X.fs
 funs:X.s_0.heap.FunFrames X.base X.outer
 frf:∀b∈X.fs,X.H_0 b=none
structure Inv (X:Cx)(Bb:AA)(U:List (Option V))(H:Hp)(s:AE):Prop where
 ok:X.Ok
 os:s.os=X.s_0.os
 bare:AllBare s.gens
 base:Un X.fs X.ex X.H_0 H X.s_0.heap s.heap
 loc:∃m,s.heap.Ns X.env.locals m/\∀(i:Nat) (x:Str) (v:V),X.N[i]?=some x->U[i]?=some (some v)->Vis X.env.scope x->∃u,RelV v u/\Look X.env s.heap m x u
 cell:∀x c,X.env.cells.lookup x=some c->∃v,s.heap.IsCell c v
 free:H X.env.locals=none
 freeC:∀x c,X.env.cells.lookup x=some c->H c=none
 pin:∀p∈X.pn++Bb,s.heap.get? p.1=some p.2/\H p.1=none/\p.1≠X.env.locals/\p.1∉X.fs/\∀v,p.2.data≠.cell v
 hok:HOk X.prog X.w H s.heap
 len:U.length=X.N.length
section
variable {X:Cx}{Bb:AA}{U:List (Option V)}{H H':Hp}{s:AE}{h':Heap}
theorem Cx.Ok.nofr (ok:X.Ok){b:AD}{o:Obj}(e:X.base.get? b=some o):b∉X.fs:=λhb=>by have:=(ok.funs.mem hb).1;rw[e]at this;cases this
theorem Inv.bs (I:Inv X Bb U H s):∀b o,X.base.get? b=some o->s.heap.get? b=some o/\H b=none:=λb o e=>
 ⟨I.base.keep b o (I.ok.bs b o e).1 (I.ok.bs b o e).2 (I.ok.nofr e) (I.ok.noex b o e),I.base.free b o (I.ok.bs b o e).1 (I.ok.bs b o e).2 (I.ok.noex b o e)⟩
theorem Inv.bk (I:Inv X Bb U H s):∀b o,X.base.get? b=some o->s.heap.get? b=some o:=λb o e=>(I.bs b o e).1
theorem Inv.mod (I:Inv X Bb U H s):Mod X.K X.mg X.base:=I.ok.mod
theorem Inv.kIn (I:Inv X Bb U H s):X.K.In s.heap:=I.ok.mod.kin.keeps I.bk
theorem Inv.lt (I:Inv X Bb U H s):X.env.locals<s.heap.objs.size:=let ⟨_,hn,_⟩:=I.loc;hn.lt
theorem Inv.sz (I:Inv X Bb U H s):X.s_0.heap.objs.size<=s.heap.objs.size:=YAK I.ok.above (YCM I.lt)
theorem Inv.nofs (I:Inv X Bb U H s){a:AD}(h:s.heap.objs.size<=a):a∉X.fs:=λhb=>by obtain⟨_,o,ho,_⟩:=I.ok.funs.mem hb;exact absurd (YAn (YAL ho) (YAK I.sz h)) (YAv _)
theorem Inv.cne (I:Inv X Bb U H s):∀x c,X.env.cells.lookup x=some c->c≠X.env.locals:=λx c e z=>by obtain⟨v,o,ho,hd⟩:=I.cell x c e;obtain⟨m,⟨o',es,ep,ho',hd',_⟩,_⟩:=I.loc;rw[z,ho']at ho;cases ho;rw[hd']at hd;cases hd
theorem Inv.funs (I:Inv X Bb U H s):s.heap.FunFrames X.base X.outer:=by
 have all:∀(l:List Env),(∀b∈frs l,b∈X.fs)->X.s_0.heap.FunFrames X.base l->s.heap.FunFrames X.base l:=by
  intro l;induction l with
  | nil=>intro _ _;trivial
  | cons env r ih=>
   intro hs hl;obtain⟨hk,⟨L,o,hf,hn,ho,hd⟩,hr⟩:=hl;have hL:L∈X.fs:=hs L (by unfold frs;rw[YDM,hf];exact YAg);obtain⟨sl,e⟩:=I.base.slot L o ho (I.ok.frf L hL) hL λz=>I.ok.exfs L z hL;exact⟨hk,⟨L,_,hf,hn,e,hd⟩,ih (λb hb=>hs b (by unfold frs;rw[YDM,hf];exact YAX _ hb)) hr⟩
 exact all X.outer (λ_ hb=>hb) I.ok.funs
theorem Inv.stack (I:Inv X Bb U H s):s.heap.FunFrames X.base X.stack:=by
 rcases I.ok.stk with e | ⟨e,hf⟩
 .rw[e];exact I.funs
 .rw[e];obtain⟨m,hn,_⟩:=I.loc;refine .cons (by rw[I.ok.kind];decide) hf hn ?_ I.funs;exact Heap.get?_none_of_le (YAK I.ok.bsz I.ok.above)
theorem Inv.stkSub (I:Inv X Bb U H s):∀b∈frs X.stack,b∈X.env.locals::X.fs:=λb hb=>by
 rcases I.ok.stk with e | ⟨e,hf⟩
 .rw[e]at hb;exact YAX _ hb
 .rw[e]at hb;unfold frs at hb;rw[YDM,hf]at hb;exact hb
theorem Inv.stkFree (I:Inv X Bb U H s):∀b∈frs X.stack,H b=none:=λb hb=>by
 rcases YAE.mp (I.stkSub b hb) with e | hb
 .rw[e];exact I.free
 .obtain⟨_,o,ho,_⟩:=I.ok.funs.mem hb;exact I.base.free b o ho (I.ok.frf b hb) λz=>I.ok.exfs b z hb
theorem Inv.step {g':Array GenState}{t':Nat}{d':Drawn}{ch:List AD}(I:Inv X Bb U H s)
  (hch:∀b∈ch,(b∈X.ex\/X.s_0.heap.objs.size<=b)/\b≠X.env.locals/\(∀x c,X.env.cells.lookup x=some c->c≠b)/\∀p∈X.pn++Bb,p.1≠b)
  (keep:∀b o,b≠X.env.locals->b∉X.fs->b∉ch->s.heap.get? b=some o->H b=none->h'.get? b=some o)
  (slot:∀b o,b≠X.env.locals->b∈X.fs->b∉ch->s.heap.get? b=some o->H b=none->∃sl,h'.get? b=some { o with slots:=sl }) (free:∀b o,b∉ch->s.heap.get? b=some o->H b=none->H' b=none)
  (there:∀b o,b∉ch->s.heap.get? b=some o->∃o',h'.get? b=some o')
  (tups:∀b xs,H b=some (.tup xs)->H' b=some (.tup xs)) (frzs:∀b o u,H b=some (.frz o u)->H' b=some (.frz o u)) (tbls:∀b ps,H b=some (.tbl ps)->∃more,H' b=some (.tbl (ps++more)))
  (ns:∀m,s.heap.Ns X.env.locals m->h'.Ns X.env.locals m) (hok:HOk X.prog X.w H' h') (hg:AllBare g'):
  Inv X Bb U H' { s with heap:=h',gens:=g',drawn:=d',toks:=t' }:=by
 have neL:∀b o,X.s_0.heap.get? b=some o->b≠X.env.locals:=λb o e=>YAf (YAn (YAL e) I.ok.above);have neC:∀b o,X.s_0.heap.get? b=some o->b∉X.ex->b∉ch:=λb o e hx hb=>by
  rcases (hch b hb).1 with z | z
  .exact hx z
  .exact absurd (YAn (YAL e) z) (YAv _)
 have cellK:∀x c,X.env.cells.lookup x=some c->∀v,s.heap.IsCell c v->h'.IsCell c v:=λx c e v ⟨o,ho,hd⟩=>by
  have nch:c∉ch:=λz=>(hch c z).2.2.1 x c e rfl;by_cases hc:c∈X.fs
  .obtain⟨sl,q⟩:=slot c o (I.cne x c e) hc nch ho (I.freeC x c e);exact⟨_,q,hd⟩
  .exact⟨o,keep c o (I.cne x c e) hc nch ho (I.freeC x c e),hd⟩
 refine⟨I.ok,I.os,hg,⟨λb o e n hb hx=>?_,λb o e n hb hx=>?_,λb o e n hx=>?_,λb o e hx=>?_,λb xs e=>tups b xs (I.base.tups b xs e),λb o xs e=>frzs b o xs (I.base.frzs b o xs e),λb ps e=>?_⟩,?_,λx c e=>?_,?_,λx c e=>?_,λp hp=>?_,hok,I.len⟩
 .exact keep b o (neL b o e) hb (neC b o e hx) (I.base.keep b o e n hb hx) (I.base.free b o e n hx)
 .obtain⟨sl,e1⟩:=I.base.slot b o e n hb hx;obtain⟨sl',e2⟩:=slot b _ (neL b o e) hb (neC b o e hx) e1 (I.base.free b o e n hx);exact⟨sl',e2⟩
 .obtain⟨o',e1⟩:=I.base.there b o e hx;exact free b o' (neC b o e hx) e1 (I.base.free b o e n hx)
 .obtain⟨o',e1⟩:=I.base.there b o e hx;exact there b o' (neC b o e hx) e1
 .obtain⟨m1,e1⟩:=I.base.tbls b ps e;obtain⟨m2,e2⟩:=tbls b _ e1;exact⟨m1++m2,by rw[e2,Array.append_assoc]⟩
 .obtain⟨m,hn,hl⟩:=I.loc;refine⟨m,ns m hn,λi x v e1 e2 e3=>?_⟩;obtain⟨u,r,l⟩:=hl i x v e1 e2 e3;refine⟨u,r,?_⟩;rcases l with l | ⟨k,c,e,z⟩
  .exact .inl l
  .exact .inr ⟨k,c,e,cellK x c e _ z⟩
 .obtain⟨v,z⟩:=I.cell x c e;exact⟨v,cellK x c e v z⟩
 .obtain⟨m,⟨o,_,_,ho,_⟩,_⟩:=I.loc;exact free _ o (λz=>(hch _ z).2.1 rfl) ho I.free
 .obtain⟨v,o,ho,hd⟩:=I.cell x c e;exact free c o (λz=>(hch c z).2.2.1 x c e rfl) ho (I.freeC x c e)
 .obtain⟨e,n,ne,nf,d⟩:=I.pin p hp;have nch:p.1∉ch:=λz=>(hch p.1 z).2.2.2 p hp rfl;exact⟨keep p.1 p.2 ne nf nch e n,free p.1 p.2 nch e n,ne,nf,d⟩
theorem Inv.un (I:Inv X Bb U H s)(u:Un X.fs [] H H' s.heap h')(hok:HOk X.prog X.w H' h'):Inv X Bb U H' { s with heap:=h',toks:=t' }:=by
 obtain⟨m,⟨o,es,ep,ho,r⟩,_⟩:=id I.loc;obtain⟨sl,hL⟩:=u.any ho I.free (by simp);exact I.step (g':=s.gens) (d':=s.drawn) (ch:=[]) (λ_ z=>nomatch z) (λb o _ hb _ e n=>u.keep b o e n hb (by simp)) (λb o _ hb _ e n=>u.slot b o e n hb (by simp)) (λb o _ e n=>u.free b o e n (by simp)) (λb o _ e=>u.there b o e (by simp)) u.tups u.frzs u.tbls (λm' hm=>by obtain⟨o',es',ep',ho',r'⟩:=hm;rw[ho]at ho';cases ho';exact⟨_,es',ep',hL,r'⟩) hok I.bare
theorem Inv.call (I:Inv X Bb U H s)(u:Un (frs X.stack) ch H H' s.heap h')(hok:HOk X.prog X.w H' h')(hg:AllBare g')
  (hch:∀b∈ch,(b∈X.ex\/X.s_0.heap.objs.size<=b)/\b≠X.env.locals/\(∀x c,X.env.cells.lookup x=some c->c≠b)/\∀p∈X.pn++Bb,p.1≠b):
  Inv X Bb U H' { s with heap:=h',gens:=g',drawn:=d',toks:=t' }:=by
 obtain⟨m,⟨o,es,ep,ho,r⟩,_⟩:=id I.loc;obtain⟨sl,hL⟩:=u.any ho I.free λz=>(hch _ z).2.1 rfl;exact I.step (ch:=ch) hch (λb o hL hb hc e n=>u.keep b o e n (λz=>(YAE.mp (I.stkSub b z)).elim hL hb) hc) (λb o _ _ hc e n=>u.any e n hc) (λb o hc e n=>u.free b o e n hc) (λb o hc e=>u.there b o e hc) u.tups u.frzs u.tbls (λm' hm=>by obtain⟨o',es',ep',ho',r'⟩:=hm;rw[ho]at ho';cases ho';exact⟨_,es',ep',hL,r'⟩) hok hg
theorem Inv.turned (I:Inv X Bb U H s)(k:∀b o,b≠it->s.heap.get? b=some o->h'.get? b=some o)(hn:H it=none)(hL:it≠X.env.locals)
  (h1:it∈X.ex\/X.s_0.heap.objs.size<=it) (h2:∀x c,X.env.cells.lookup x=some c->c≠it) (h3:∀p∈X.pn++Bb,p.1≠it):Inv X Bb U H { s with heap:=h',toks:=t' }:=by
 have nit:∀b u,H b=some u->b≠it:=λb u e z=>by rw[z,hn]at e;cases e
 refine I.step (g':=s.gens) (d':=s.drawn) (ch:=[it]) (λb hb=>?_) (λb o _ _ hc e _=>k b o (λz=>hc (by simp[z])) e) (λb o _ _ hc e _=>⟨o.slots,k b o (λz=>hc (by simp[z])) e⟩) (λ_ _ _ _ n=>n)
  (λb o hc e=>⟨o,k b o (λz=>hc (by simp[z])) e⟩) (λ_ _ e=>e) (λ_ _ _ e=>e) (λb ps e=>⟨#[],by rw[e];simp⟩) (λm hm=>?_) (λb u e=>?_) I.bare
 .have e:b=it:=by simpa using hb
  subst e;exact⟨h1,hL,h2,h3⟩
 .obtain⟨o,es,ep,ho,r⟩:=hm;exact⟨o,es,ep,k _ o (YAh hL) ho,r⟩
 .refine(I.hok b u e).stay (λc v hc q=>k c v ?_ q) (λ_ q=>q) λ_ _ q=>q;rcases hc with z | z
  .rw[z];exact nit b u e
  .exact nit c _ z
theorem Inv.tok (I:Inv X Bb U H s)(t:Nat):Inv X Bb U H { s with toks:=t }:=I.un (h':=s.heap) (t':=t) Un.refl I.hok
theorem Inv.kept (I:Inv X Bb U H s)(k:∀b u,s.heap.get? b=some u->h'.get? b=some u):Inv X Bb U H { s with heap:=h',toks:=t' }:=I.un (Un.kept k) (I.hok.kept k)
theorem Inv.laid (I:Inv X Bb U H s)(k:∀b u,s.heap.get? b=some u->h'.get? b=some u)(hp:s.heap.objs.size<=a)(new:ObjOk X.prog X.w (upd H a o) h' a o):
  Inv X Bb U (upd H a o) { s with heap:=h',toks:=t' }:=I.un (Un.laid k hp (I.hok.fresh hp)) (I.hok.laid k hp new)
theorem Inv.write (I:Inv X Bb U H s)(mu:Mut (H x))(he:e=x\/H e=some (.own x))(k:∀b u,b≠e->s.heap.get? b=some u->h'.get? b=some u)(heo:∃u,h'.get? e=some u)
  (new:ObjOk X.prog X.w (upd H x o) h' x o):Inv X Bb U (upd H x o) { s with heap:=h',toks:=t' }:=I.un (Un.write mu he k heo) (I.hok.write mu he k heo new)
theorem Inv.pins_of (I:Inv X Bb U H s)(h:∀p∈pins',s.heap.get? p.1=some p.2/\H p.1=none/\p.1≠X.env.locals/\p.1∉X.fs/\∀v,p.2.data≠.cell v):Inv X pins' U H s:=
 ⟨I.ok,I.os,I.bare,I.base,I.loc,I.cell,I.free,I.freeC,λp hp=>(YAV.mp hp).elim (λz=>I.pin p (List.mem_append_left _ z)) (h p),I.hok,I.len⟩
theorem ZeQ {N:AJ}(hN:N.Nodup){i j:Nat}{x:Str}(a:N[i]?=some x)(b:N[j]?=some x):i=j:=by obtain⟨h1,e1⟩:=YAj.mp a;obtain⟨h2,e2⟩:=YAj.mp b;exact(List.getElem_inj hN).mp (e1.trans e2.symm)
theorem Zfm (I:Inv X Bb U H s)(hN:X.N.Nodup)(hi:X.N[i]?=some x)(hx:Loc X.env.scope x)(r:RelV v u)
  (h:∀s',Inv X Bb (U.set i (some v)) H s'->(∃a,Heap.SameBut a s.heap s'.heap/\(a=X.env.locals\/X.env.cells.lookup x=some a))->Q () s') (hf:X.fn x=true\/X.env.scope.names.lookup x=some .local:=by first | exact .inl rfl | exact .inr rfl | assumption):wpAny M A (storeName X.env x u) Q E s:=by
 obtain⟨m,hn,hl⟩:=id I.loc;have hcls:(X.env.scope.kind == .class || (X.env.scope.kind == .module&&X.env.locals != X.env.globals))=false:=by rw[I.ok.kind];rfl
 have hiU:i<U.length:=by rw[I.len];exact(YAj.mp hi).1
 have cne:=I.cne;have tracked:∀ {a:AD} {h':Heap},(∃o,s.heap.get? a=some o/\H a=none)->Heap.SameBut a s.heap h'->HOk X.prog X.w H h':=λ{a h'} ha hs b ob e=>by
  obtain⟨_,_,hfree⟩:=ha;refine(I.hok b ob e).stay (λc w' hc q=>(hs.2 c ?_).trans q) (λ_ q=>q) λ_ _ q=>q;rintro rfl;rcases hc with rfl | hc
  .rw[hfree]at e;cases e
  .rw[hfree]at hc;cases hc
 rcases hx with hk | hk
 .refine wpAny_storeName_local hk hn (λh' hn' hs=>?_) hcls;obtain⟨oL,_,_,hoL,_⟩:=id hn;refine h _ ⟨I.ok,I.os,I.bare,⟨λb o e n hb hx=>?_,λb o e n hb hx=>?_,I.base.free,λb o e hx=>?_,I.base.tups,I.base.frzs,I.base.tbls⟩,⟨_,hn',λj y v' e1 e2 e3=>?_⟩,λy c e=>?_,I.free,I.freeC,λp hp=>?_,tracked ⟨oL,hoL,I.free⟩ hs,by simpa using I.len⟩ ⟨_,hs,.inl rfl⟩
  .exact(hs.2 b (YAf (YAn (YAL e) I.ok.above))).trans (I.base.keep b o e n hb hx)
  .obtain⟨sl,e1⟩:=I.base.slot b o e n hb hx;exact⟨sl,(hs.2 b (YAf (YAn (YAL e) I.ok.above))).trans e1⟩
  .obtain⟨o',e1⟩:=I.base.there b o e hx;exact⟨o',(hs.2 b (YAf (YAn (YAL e) I.ok.above))).trans e1⟩
  .by_cases hj:j=i
   .subst hj;rw[hi]at e1;cases e1;rw[List.getElem?_set_self hiU]at e2;cases e2;exact⟨u,r,.inl ⟨hk,by simp⟩⟩
   .rw[List.getElem?_set_ne (YAh hj)]at e2;obtain⟨u',r',q⟩:=hl j y v' e1 e2 e3;refine⟨u',r',?_⟩;rcases q with⟨k,e⟩|⟨k,c,e,z⟩
    .refine .inl ⟨k,?_⟩;have:y≠x:=λe=>hj (ZeQ hN e1 (e▸hi));simp[this,e]
    .exact .inr ⟨k,c,e,z.sameBut hs (cne y c e)⟩
  .obtain⟨w',z⟩:=I.cell y c e;exact⟨w',z.sameBut hs (cne y c e)⟩
  .obtain⟨e,n,ne,nf,d⟩:=I.pin p hp;exact⟨(hs.2 p.1 ne).trans e,n,ne,nf,d⟩
 .have hfn:X.fn x=true:=by
   rcases hf with z | z
   .exact z
   .rw[z]at hk;cases hk
  obtain⟨c,hc⟩:=I.ok.has x (.inl hk);obtain⟨w',z⟩:=I.cell x c hc;refine wpAny_storeName_cell I.ok.kind hk hc z (λh' hc' hs=>?_);obtain⟨oc,hoc,hocd⟩:=id z;refine h { s with heap:=h' } ⟨I.ok,I.os,I.bare,⟨λb o e n hb hx=>?_,λb o e n hb hx=>?_,I.base.free,λb o e hx=>?_,I.base.tups,I.base.frzs,I.base.tbls⟩,⟨m,hn.sameBut hs (YAh (cne x c hc)),λj y v' e1 e2 e3=>?_⟩,λy c' e=>?_,I.free,I.freeC,λp hp=>?_,tracked ⟨oc,hoc,I.freeC x c hc⟩ hs,by simpa using I.len⟩ ⟨c,hs,.inr hc⟩
  .exact(hs.2 b (YAf (YAn (YAL e) (I.ok.cab x c hfn hc)))).trans (I.base.keep b o e n hb hx)
  .obtain⟨sl,e1⟩:=I.base.slot b o e n hb hx;exact⟨sl,(hs.2 b (YAf (YAn (YAL e) (I.ok.cab x c hfn hc)))).trans e1⟩
  .obtain⟨o',e1⟩:=I.base.there b o e hx;exact⟨o',(hs.2 b (YAf (YAn (YAL e) (I.ok.cab x c hfn hc)))).trans e1⟩
  .by_cases hj:j=i
   .subst hj;rw[hi]at e1;cases e1;rw[List.getElem?_set_self hiU]at e2;cases e2;exact⟨u,r,.inr ⟨.inl hk,c,hc,hc'⟩⟩
   .rw[List.getElem?_set_ne (YAh hj)]at e2;obtain⟨u',r',q⟩:=hl j y v' e1 e2 e3;refine⟨u',r',?_⟩;rcases q with q | ⟨k,c',e,z'⟩
    .exact .inl q
    .refine .inr ⟨k,c',e,z'.sameBut hs ?_⟩;rintro rfl;exact hj (ZeQ hN e1 (I.ok.inj _ _ _ e hc▸hi))
  .by_cases hcc:c'=c
   .subst hcc;exact⟨_,hc'⟩
   .obtain⟨w2,z2⟩:=I.cell y c' e;exact⟨w2,z2.sameBut hs hcc⟩
  .obtain⟨e,n,ne,nf,d⟩:=I.pin p hp;refine⟨(hs.2 p.1 ?_).trans e,n,ne,nf,d⟩;intro q;rw[q,hoc]at e;have q':oc=p.2:=Option.some.inj e;exact d w' (by rw[<-q'];exact hocd)
theorem Zdm (I:Inv X Bb U H s)(hN:X.N.Nodup)(hi:X.N[i]?=some x)(hx:Loc X.env.scope x)(r:RelV v u)
  (h:∀s',Inv X Bb (U.set i (some v)) H s'->Q () s') (hf:X.fn x=true\/X.env.scope.names.lookup x=some .local:=by first | exact .inl rfl | exact .inr rfl | assumption):wpAny M A (storeName X.env x u) Q E s:=
 Zfm I hN hi hx r (λs' I' _=>h s' I') hf
theorem Inv.call' (I:Inv X Bb U H s)(ho:s'.os=s.os)(u:Un (frs X.stack) ch H H' s.heap s'.heap)(hok:HOk X.prog X.w H' s'.heap)(hg:AllBare s'.gens)
  (hch:∀b∈ch,(b∈X.ex\/X.s_0.heap.objs.size<=b)/\b≠X.env.locals/\(∀x c,X.env.cells.lookup x=some c->c≠b)/\∀p∈X.pn++Bb,p.1≠b):Inv X Bb U H' s':=by
 obtain⟨h',g',d',t',o'⟩:=s';have e:o'=s.os:=ho;subst e;exact I.call (g':=g') (t':=t') (d':=d') u hok hg hch
end
abbrev XK:=Value->Option AD->Hp->Prop
abbrev St:=List (Option V)
abbrev VK:=V->Hp->Prop
abbrev TE:=St->Hp->VK->Prop
abbrev TT:=St->Hp->(Bool->Hp->Prop)->Prop
abbrev TA:=St->Hp->(List V->Hp->Prop)->Prop
structure Ends where
 nx:St->Hp->Prop
 rt:VK
 bk:St->Hp->Prop:=λ_ _=>False
 ct:St->Hp->Prop:=λ_ _=>False
abbrev TS:=Ends->St->Hp->Prop
def EP (X:Cx)(Bb:AA)(U:St)(Q:VK)(u:Value)(s':AE):Prop:=∃v H',Inv X Bb U H' s'/\RelV v u/\Q v H'
def TP (X:Cx)(Bb:AA)(U:St)(Q:Bool->Hp->Prop)(b:Bool)(s':AE):Prop:=∃H',Inv X Bb U H' s'/\Q b H'
def AP (X:Cx)(Bb:AA)(U:St)(Q:List V->Hp->Prop)(us:AC)(s':AE):Prop:=∃vs H',Inv X Bb U H' s'/\Vals vs us/\Q vs H'
def SP (X:Cx)(Bb:AA)(D:Ends)(f:Flow)(s':AE):Prop:=
 match f with
 | .next=>∃U' H',Inv X Bb U' H' s'/\D.nx U' H'
 | .brk=>∃U' H',Inv X Bb U' H' s'/\D.bk U' H'
 | .cont=>∃U' H',Inv X Bb U' H' s'/\D.ct U' H'
 | .ret u=>∃v U' H',Inv X Bb U' H' s'/\RelV v u/\D.rt v H'
def PE (X:Cx)(e:Expr)(t:TE):Prop:=
 ∀(Bb:AA) (s:AE) (U:St) (H:Hp) (Q:VK),Inv X Bb U H s->t U H Q->wpAny (model X.prog X.w) X.A (eval e X.env) (EP X Bb U Q) X.xe s
def PT (X:Cx)(e:Expr)(t:TT):Prop:=
 ∀(Bb:AA) (s:AE) (U:St) (H:Hp) (Q:Bool->Hp->Prop),Inv X Bb U H s->t U H Q->wpAny (model X.prog X.w) X.A (isTrue e X.env (eval e X.env)) (TP X Bb U Q) X.xe s
def PW (X:Cx)(e:Expr)(t:TT):Prop:=
 ∀(whole:Sem Value) (Bb:AA) (s:AE) (U:St) (H:Hp) (Q:Bool->Hp->Prop),Inv X Bb U H s->t U H Q->wpAny (model X.prog X.w) X.A (isTrue e X.env whole) (TP X Bb U Q) X.xe s
theorem PW.pt (h:PW X e t):PT X e t:=h _
def PA (X:Cx)(es:List Expr)(t:TA):Prop:=
 ∀(pos:Pos) (Bb:AA) (s:AE) (U:St) (H:Hp) (Q:List V->Hp->Prop),Inv X Bb U H s->t U H Q->wpAny (model X.prog X.w) X.A (spliced (backTo pos (starEach es X.env))) (AP X Bb U Q) X.xe s
def PS (X:Cx)(st:Stmt)(t:TS):Prop:=
 ∀(Bb:AA) (s:AE) (U:St) (H:Hp) (D:Ends),Inv X Bb U H s->t D U H->wpAny (model X.prog X.w) X.A (exec st X.env) (SP X Bb D) X.xe s
def PSs (X:Cx)(st:List Stmt)(t:TS):Prop:=
 ∀(Bb:AA) (s:AE) (U:St) (H:Hp) (D:Ends),Inv X Bb U H s->t D U H->wpAny (model X.prog X.w) X.A (execs st X.env) (SP X Bb D) X.xe s
theorem thn (h:wpAny M A t Q E s)(hQ:∀a s,Q a s->Q' a s):wpAny M A t Q' E s:=YBI h hQ λ_ _ x=>x
section
variable {X:Cx}
theorem bin (ha:PE X a ta)(hb:PE X b tb){Bb:AA}{s:AE}{U:St}{H:Hp}{R:V->V->Hp->Prop}(I:Inv X Bb U H s)(h:ta U H λx H1=>tb U H1 λy H2=>R x y H2)
  {α:Type} {Q:α->AE->Prop} {f:Value->Value->Sem α}
  (hf:∀v u s2 x y H2,Inv X Bb U H2 s2->RelV x v->RelV y u->R x y H2->wpAny (model X.prog X.w) X.A (f v u) Q X.xe s2):
  wpAny (model X.prog X.w) X.A (eval a X.env) (λv s_1=>wpAny (model X.prog X.w) X.A (eval b X.env) (λu s_2=>wpAny (model X.prog X.w) X.A (f v u) Q X.xe s_2) X.xe s_1) X.xe s:=by
 refine thn (ha Bb s U H _ I h) λv s1 zz=>?_;obtain⟨x,H1,I1,r1,q1⟩:=zz;refine thn (hb Bb s1 U H1 _ I1 q1) λu s2 zz=>?_;obtain⟨y,H2,I2,r2,q2⟩:=zz;exact hf v u s2 x y H2 I2 r1 r2 q2
def tVar (i:Nat):TE:=λU H Q=>∃v,U[i]?=some (some v)/\Q v H
def tC (v:V):TE:=λ_ H Q=>Q v H
theorem Znm (hN:X.N[i]?=some x) (hv:Vis X.env.scope x) (hd:(x == ("__debug__":Str))=false:=by decide) (hcd:(x == ("__classdict__":Str))=false:=by decide):PE X (.Name x pos) (tVar i):=by
 intro Bb s U H Q I h;obtain⟨v,e,h⟩:=h;obtain⟨m,hn,hl⟩:=I.loc;obtain⟨u,r,l⟩:=hl i x v hN e hv;have fin:EP X Bb U Q u s:=⟨v,H,I,r,h⟩;rcases l with⟨hk,hm⟩|⟨hk,c,hc,hcell⟩
 .exact wpAny_Name (wpAny_loadName_local I.ok.kind hk hn hm fin) hd
 .rcases hk with hk | hk
  .exact wpAny_Name (wpAny_loadName_cell I.ok.kind hk hc hcell fin) hd
  .exact wpAny_Name (wpAny_loadName_free I.ok.kind hk hc hcell fin hcd) hd
theorem Zak {i j pos}:PE X (.Constant (.int i) j pos) (tC (.int i)):=λ_ _ _ H _ I h=>wpAny_Constant_int ⟨.int i,H,I.tok _,⟨_,rfl⟩,h⟩
theorem Zbw {b j pos}:PE X (.Constant (.bool b) j pos) (tC (.bl b)):=λ_ _ _ H _ I h=>Constant_bool ⟨.bl b,H,I,rfl,h⟩
theorem ZiC {j pos}:PE X (.Constant .none j pos) (tC .non):=λ_ _ _ H _ I h=>Constant_none ⟨.non,H,I,rfl,h⟩
theorem Znn {x j pos}:PE X (.Constant (.str x) j pos) (tC (.str x)):=λ_ _ _ H _ I h=>Calls.Constant_str ⟨.str x,H,I.tok _,⟨_,rfl⟩,h⟩
def Gl (X:Cx)(x:Str):Prop:=X.env.kindOf x=some .globalImplicit
theorem ZbW (I:Inv X Bb U H s)(hg:Gl X x)(hm:X.mg x=some u)(h:Q u s)
  (hd:(x == ("__debug__":Str))=false:=by decide):wpAny (model X.prog X.w) X.A (eval (.Name x pos) X.env) Q E s:=
 Calls.Name_function_global I.ok.kind hg (Calls.loadGlobal_global (by rw[I.ok.glob];exact I.mod.glob.keeps I.bk) hm h) hd
theorem Zem (I:Inv X Bb U H s)(hg:Gl X x)(hm:X.mg x=none)(hv:bootBuiltins x=some u)(h:Q u s)
  (hn:x≠"__name__":=by decide) (hd:(x == ("__debug__":Str))=false:=by decide):wpAny (model X.prog X.w) X.A (eval (.Name x pos) X.env) Q E s:=by
 obtain⟨mb,h1,h2⟩:=I.mod.blt;exact Calls.Name_function_global I.ok.kind hg (Calls.loadGlobal_builtin (by rw[I.ok.glob];exact I.mod.glob.keeps I.bk) hm (by rw[I.ok.blt];exact h1.keeps I.bk) ((h2 x hn).trans hv) h) hd
theorem Zba (hg:Gl X x) (hm:X.mg x=some u) (r:RelV v u) (hd:(x == ("__debug__":Str))=false:=by decide):PE X (.Name x pos) (tC v):=
 λ_ _ _ H _ I h=>ZbW I hg hm ⟨v,H,I,r,h⟩ hd
theorem ZdG (hg:Gl X x) (hm:X.mg x=none) (hv:bootBuiltins x=some u) (r:RelV v u) (hn:x≠"__name__":=by decide) (hd:(x == ("__debug__":Str))=false:=by decide):PE X (.Name x pos) (tC v):=
 λ_ _ _ H _ I h=>Zem I hg hm hv ⟨v,H,I,r,h⟩ hn hd
variable {a b:Expr}{ta tb:TE}{pos:Pos}
def PC (X:Cx)(op:CmpOp)(a b:Expr)(t:TE):Prop:=
 ∀(Bb:AA) (s:AE) (U:St) (H:Hp) (Q:VK),Inv X Bb U H s->t U H Q ->
  wpAny (model X.prog X.w) X.A (eval a X.env) (λv s_1=>wpAny (model X.prog X.w) X.A (eval b X.env) (λu s_2=>wpAny (model X.prog X.w) X.A (compareOp op v u) (EP X Bb U Q) X.xe s_2) X.xe s_1) X.xe s
theorem Zke (b:Expr){op:CmpOp}(h:op≠.In)(h2:op≠.NotIn):behindInMarks op b=false:=by
 have e1:(op == CmpOp.In)=false:=by cases op<;>first | rfl | exact absurd rfl h
 have e2:(op == CmpOp.NotIn)=false:=by cases op<;>first | rfl | exact absurd rfl h2
 cases b<;>simp[behindInMarks,e1,e2]
def tB (t:TE):TT:=λU H Q=>t U H λx H1=>∃c,x=.bl c/\Q c H1
theorem ZkW (h:PC X op a b t)(h1:behindInMarks op b=false:=by first | exact Zke _ (by decide) (by decide) | rfl):PT X (.Compare a [op] [b] pos) (tB t):=by intro Bb s U H Q I hw;refine wpAny_isTrue_Compare1 (thn (h Bb s U H _ I hw) λv s1 h1=>thn h1 λu s2 h2=>thn h2 λc s3 zz=>?_) h1;obtain⟨x,H1,I1,r1,q1⟩:=zz;obtain⟨d,rfl,q⟩:=q1;cases r1;exact YCG ⟨H1,I1,q⟩
theorem ZaP (h:PE X e t)(he:∀whole,isTrue e X.env whole=(do let v <-whole;standAt e.pos;holding [v] (truthy v)):=by intro _;rfl):PT X e (tB t):=by intro Bb s U H Q I hw;refine isTrue_plain (thn (h Bb s U H _ I hw) λv s1 zz=>?_) (he _);obtain⟨x,H1,I1,r1,q1⟩:=zz;obtain⟨d,rfl,q⟩:=q1;cases r1;exact YCG ⟨H1,I1,q⟩
variable {tA tB':TT}{rest:List Expr}
def tAnd (t u:TT):TT:=λU H Q=>t U H λc H1=>if c=true then u U H1 Q else Q false H1
def tOr (t u:TT):TT:=λU H Q=>t U H λc H1=>if c=true then Q true H1 else u U H1 Q
def tNot (t:TT):TT:=λU H Q=>t U H λc H1=>Q (!c) H1
theorem ZcZ (ha:PT X a tA):PW X (.BoolOp .And [a] pos) tA:=by
 intro wh Bb s U H Q I h;refine isTrue_and (thn (ha Bb s U H Q I h) λc s1 e=>?_);cases c with
 | true=>exact isTrue_and_nil e
 | false=>exact e
theorem ZbL (ha:PT X a tA):PW X (.BoolOp .Or [a] pos) tA:=by
 intro wh Bb s U H Q I h;refine isTrue_or (thn (ha Bb s U H Q I h) λc s1 e=>?_);cases c with
 | false=>exact isTrue_or_nil e
 | true=>exact e
theorem Zdb (ha:PT X a tA)(hb:PW X (.BoolOp .And (b::rest) pos) tB'):PW X (.BoolOp .And (a::b::rest) pos) (tAnd tA tB'):=by
 intro wh Bb s U H Q I h;refine isTrue_and (thn (ha Bb s U H _ I h) λc s1 zz=>?_);obtain⟨H1,I1,q1⟩:=zz;cases c with
 | true=>exact hb wh Bb s1 U H1 Q I1 q1
 | false=>exact⟨H1,I1,q1⟩
theorem Zcv (ha:PT X a tA)(hb:PW X (.BoolOp .Or (b::rest) pos) tB'):PW X (.BoolOp .Or (a::b::rest) pos) (tOr tA tB'):=by
 intro wh Bb s U H Q I h;refine isTrue_or (thn (ha Bb s U H _ I h) λc s1 zz=>?_);obtain⟨H1,I1,q1⟩:=zz;cases c with
 | true=>exact⟨H1,I1,q1⟩
 | false=>exact hb wh Bb s1 U H1 Q I1 q1
theorem ZaU (ha:PT X a tA):PT X (.UnaryOp .Not a pos) (tNot tA):=by intro Bb s U H Q I h;exact isTrue_not (ha Bb s U H (λc H1=>Q (!c) H1) I h)
def Zm2 (ta tb:TE):TE:=λU H Q=>ta U H λx H1=>∃c,x=.bl c/\if c=true then tb U H1 Q else Q (.bl false) H1
theorem ZdE {op}{t:TE}(h:PE X a t):PE X (.BoolOp op [a] pos) t:=λBb s U H Q I hw=>BoolOp_one (h Bb s U H Q I hw)
theorem ZcG (ha:PE X a ta)(hb:PE X (.BoolOp .And (b::rest) pos) tb):PE X (.BoolOp .And (a::b::rest) pos) (Zm2 ta tb):=by
 intro Bb s U H Q I h;refine BoolOp_and (thn (ha Bb s U H _ I h) λv s1 zz=>?_);obtain⟨x,H1,I1,r1,q1⟩:=zz;obtain⟨c,rfl,q1⟩:=q1;cases r1;refine YCG ?_;cases c with
 | true=>exact hb Bb s1 U H1 Q I1 q1
 | false=>exact⟨.bl false,H1,I1,rfl,q1⟩
end
def SqL (K:Q4)(H:Hp)(a:AD)(xs:List V):Prop:=
 Rd H a (.lst xs) \/
  ∃(o:Obj) (its:Array Value) (n:Nat),K.lookup a=some o/\o.cls=.type "list"/\o.dict=none/\o.data=.seq its n/\its.size<=sizeLine/\Vals xs its.toList
def SqT (K:Q4)(H:Hp)(a:AD)(xs:List V):Prop:=
 Rd H a (.tup xs) \/
  ∃(o:Obj) (its:Array Value) (n:Nat),K.lookup a=some o/\o.cls=.type "tuple"/\o.data=.seq its n/\its.size<=sizeLine/\Vals xs its.toList
def absV:Value->Option V
 | .none=>some .non
 | .bool b=>some (.bl b)
 | .int i _=>some (.int i)
 | .str x _=>some (.str x)
 | .bytes b _=>some (.byt b)
 | .float b _=>some (.flt b)
 | .ref a=>some (.ref a)
 | .type n=>some (.ty n)
 | _=>none
theorem RelV.abs (r:RelV x u):absV u=some x:=by
 cases x with
 | non=>cases r;rfl
 | bl _=>cases r;rfl
 | int _=>obtain⟨t,rfl⟩:=r;rfl
 | str _=>obtain⟨t,rfl⟩:=r;rfl
 | byt _=>obtain⟨t,rfl⟩:=r;rfl
 | flt _=>obtain⟨t,rfl⟩:=r;rfl
 | ref _=>cases r;rfl
 | ty _=>cases r;rfl
theorem RelV.inj (r:RelV x u)(q:RelV y u):x=y:=Option.some.inj (r.abs.symm.trans q.abs)
theorem Vals.inj:∀ {xs ys:List V} {us:AC},Vals xs us->Vals ys us->xs=ys
 | _,_,_,.nil,.nil=>rfl
 | _,_,_,.cons r t,.cons r' t'=>by rw[r.inj r',Vals.inj t t']
section
theorem Inv.list (I:Inv X Bb U H s)(h:SqL X.K H a xs):∃its:AC,Vals xs its/\PlainL s.heap a its.toArray/\xs.length<=sizeLine:=by
 rcases h with h | ⟨o,its,n,hk,hc,hd,hs,hz,r⟩
 .obtain⟨z,its,n,r,e⟩:=h.ok I.hok;exact⟨its,r,⟨_,n,e,rfl,rfl,rfl⟩,z⟩
 .refine⟨its.toList,r,⟨o,n,I.kIn a o hk,hc,hd,by simpa using hs⟩,?_⟩;have e:=r.length;simp only[YAR]at e;omega
theorem Inv.tuple (I:Inv X Bb U H s)(h:SqT X.K H a xs):∃its:AC,Vals xs its/\IsTup s.heap a its.toArray/\xs.length<=sizeLine:=by
 rcases h with h | ⟨o,its,n,hk,hc,hs,hz,r⟩
 .obtain⟨z,its,r,p⟩:=h.ok I.hok;exact⟨its,r,p,z⟩
 .refine⟨its.toList,r,⟨o,I.kIn a o hk,hc,n,by simpa using hs⟩,?_⟩;have e:=r.length;simp only[YAR]at e;omega
theorem Inv.list_inj (I:Inv X Bb U H s)(h:SqL X.K H a xs)(h':SqL X.K H a ys):xs=ys:=by
 obtain⟨its,r,⟨o,n,e,_,_,d⟩,_⟩:=I.list h;obtain⟨its',r',⟨o',n',e',_,_,d'⟩,_⟩:=I.list h';rw[e]at e';cases e';rw[d]at d';injection d' with d1 _;have:its=its':=by simpa using congrArg Array.toList d1
 subst this;exact r.inj r'
theorem Inv.tuple_inj (I:Inv X Bb U H s)(h:SqT X.K H a xs)(h':SqT X.K H a ys):xs=ys:=by
 obtain⟨its,r,⟨o,e,_,n,d⟩,_⟩:=I.tuple h;obtain⟨its',r',⟨o',e',_,n',d'⟩,_⟩:=I.tuple h';rw[e]at e';cases e';rw[d]at d';injection d' with d1 _;have:its=its':=by simpa using congrArg Array.toList d1
 subst this;exact r.inj r'
end
abbrev Cx.wish (X:Cx)(E:Q33):Cx:={ X with xe:=E }
abbrev Cx.nox (X:Cx):Cx:=X.wish λ_ _=>False
theorem Cx.Ok.wish {X:Cx}(ok:X.Ok)(E:Q33):(X.wish E).Ok:=
 ⟨ok.mod,ok.kind,ok.glob,ok.blt,ok.above,ok.inj,ok.has,ok.cab,ok.hd,ok.frames,ok.stk,ok.exf,ok.bs,ok.bsz,ok.noex,ok.exfs,ok.funs,ok.frf⟩
theorem Cx.Ok.unwish {X:Cx}{E:Q33}(ok:(X.wish E).Ok):X.Ok:=
 ⟨ok.mod,ok.kind,ok.glob,ok.blt,ok.above,ok.inj,ok.has,ok.cab,ok.hd,ok.frames,ok.stk,ok.exf,ok.bs,ok.bsz,ok.noex,ok.exfs,ok.funs,ok.frf⟩
section
theorem Inv.wish (I:Inv X Bb U H s)(E:Q33):Inv (X.wish E) Bb U H s:=⟨I.ok.wish E,I.os,I.bare,I.base,I.loc,I.cell,I.free,I.freeC,I.pin,I.hok,I.len⟩
theorem Inv.unwish (I:Inv (X.wish E) Bb U H s):Inv X Bb U H s:=⟨I.ok.unwish,I.os,I.bare,I.base,I.loc,I.cell,I.free,I.freeC,I.pin,I.hok,I.len⟩
theorem SP.unwish (h:SP (X.wish E) Bb D f s'):SP X Bb D f s':=by
 cases f with
 | next=>obtain⟨U',H',I,q⟩:=h;exact⟨U',H',I.unwish,q⟩
 | brk=>obtain⟨U',H',I,q⟩:=h;exact⟨U',H',I.unwish,q⟩
 | cont=>obtain⟨U',H',I,q⟩:=h;exact⟨U',H',I.unwish,q⟩
 | ret u=>obtain⟨v,U',H',I,r,q⟩:=h;exact⟨v,U',H',I.unwish,r,q⟩
theorem PSs.nox {st:List Stmt}{t:TS}(h:PSs X.nox st t):PSs X st t:=λBb s U H D I hw=>
 YBI (h Bb s U H D (I.wish _) hw) (λ_ _ q=>q.unwish) λ_ _ z=>False.elim z
end
section
variable {X:Cx}{st:Stmt}{rest:List Stmt}{t u:TS}{e:Expr}{te:TE}{pos:Pos}
def tNext:TS:=λD U H=>D.nx U H
def tSeq (t u:TS):TS:=λD U H=>t { D with nx:=u D } U H
theorem Zax:PSs X [] tNext:=λ_ _ U H _ I h=>YCm ⟨U,H,I,h⟩
theorem Zab (h1:PS X st t)(h2:PSs X rest u):PSs X (st::rest) (tSeq t u):=by
 intro Bb s U H D I h;refine wpAny_execs_cons (thn (h1 Bb s U H { D with nx:=u D } I h) λf s1 q=>?_);cases f with
 | next=>
  obtain⟨U',H',I',q⟩:=q;exact h2 Bb s1 U' H' D I' q
 | ret v=>exact q
 | brk=>exact q
 | cont=>exact q
theorem Zah (h1:PS X st t):PSs X [st] t:=by
 intro Bb s U H D I h;refine wpAny_execs_cons (thn (h1 Bb s U H D I h) λf s1 q=>?_);cases f with
 | next=>exact YCm q
 | ret v=>exact q
 | brk=>exact q
 | cont=>exact q
theorem Inv.quiet (I:Inv X Bb U H s):interactive X.env=false:=by simp[interactive,I.ok.kind]
def ZmV (te:TE):TS:=λD U H=>te U H λ_ H1=>D.nx U H1
theorem ZaF (he:PE X e te)(hs:swapsWith e none pos.line X.env=pure false:=by rfl):PS X (.Expr e pos) (ZmV te):=by intro Bb s U H D I h;exact wpAny_Expr_any (thn (he Bb s U H _ I h) λv s1 ⟨x,H1,I1,r1,q1⟩=>⟨U,H1,I1,q1⟩) I.quiet hs
def tRet (te:TE):TS:=λD U H=>te U H D.rt
theorem Zaq (he:PE X e te):PS X (.Return (some e) pos) (tRet te):=by intro Bb s U H D I h;exact wpAny_Return_some (thn (he Bb s U H _ I h) λv s1 ⟨x,H1,I1,r1,q1⟩=>⟨x,U,H1,I1,r1,q1⟩)
def tIfS (c:TT)(t u:TS):TS:=λD U H=>c U H λb H1=>if b=true then t D U H1 else u D U H1
theorem Za1 (hc:PT X c tc)(ha:PSs X a t)(hb:PSs X b u):PS X (.If c a b pos) (tIfS tc t u):=by
 intro Bb s U H D I h;refine wpAny_If (thn (hc Bb s U H _ I h) λd s1 zz=>?_);obtain⟨H1,I1,q1⟩:=zz;cases d with
 | true=>exact ha Bb s1 U H1 D I1 q1
 | false=>exact hb Bb s1 U H1 D I1 q1
end
abbrev TG:=V->St->Hp->(St->Hp->Prop)->Prop
abbrev TGs:=List V->St->Hp->(St->Hp->Prop)->Prop
def PG (X:Cx)(target:Expr)(t:TG):Prop:=
 ∀(Bb:AA) (s:AE) (U:St) (H:Hp) (v:V) (u:Value) (Q:St->Hp->Prop),Inv X Bb U H s->RelV v u->t v U H Q ->
  wpAny (model X.prog X.w) X.A (assign target X.env u) (λ_ s'=>∃U' H',Inv X Bb U' H' s'/\Q U' H') X.xe s
def PGs (X:Cx)(ts:List Expr)(t:TGs):Prop:=
 ∀(Bb:AA) (s:AE) (U:St) (H:Hp) (vs:List V) (us:AC) (Q:St->Hp->Prop),Inv X Bb U H s->Vals vs us->t vs U H Q ->
  wpAny (model X.prog X.w) X.A (assignInOrder ((assignEach ts X.env).map (·.2)) us) (λ_ s'=>∃U' H',Inv X Bb U' H' s'/\Q U' H') X.xe s
abbrev TIp:=V->V->Hp->VK->Prop
section
def Zdj (i:Nat):TG:=λv U H Q=>Q (U.set i (some v)) H
theorem ZaN (hN:X.N.Nodup)(hi:X.N[i]?=some x)(hx:Loc X.env.scope x)(hf:X.fn x=true\/X.env.scope.names.lookup x=some .local:=by first | exact .inl rfl | exact .inr rfl | assumption):PG X (.Name x pos) (Zdj i):=by intro Bb s U H v u Q I r h;exact wpAny_assign_Name (Zdm I hN hi hx r (λs' I'=>⟨_,H,I',h⟩) hf)
def gNil:TGs:=λvs U H Q=>vs=[]/\Q U H
def Zot (t:TG)(u:TGs):TGs:=λvs U H Q=>∃v r,vs=v::r/\t v U H λU' H'=>u r U' H' Q
theorem ZlV:PGs X [] gNil:=by intro Bb s U H vs us Q I r h;obtain⟨e,h⟩:=h;subst e;cases r;exact assignInOrder_nil ⟨U,H,I,h⟩
theorem ZgZ (h1:PG X e t)(h2:PGs X es u)
  (hs:(assignEach (e::es) X.env).map (·.2)=assign e X.env::(assignEach es X.env).map (·.2):=by rfl):PGs X (e::es) (Zot t u):=by
 intro Bb s U H vs us Q I r h;obtain⟨v,vr,e1,h⟩:=h;subst e1;cases r with
 | cons r rr=>
  rw[hs];refine assignInOrder_cons (thn (h1 Bb s U H _ _ _ I r h) λ_ s1 zz=>?_);obtain⟨U1,H1,I1,q1⟩:=zz;exact h2 Bb s1 U1 H1 _ _ Q I1 rr q1
def tAsg (te:TE)(g:TG):TS:=λD U H=>te U H λx H1=>g x U H1 D.nx
theorem Znj (he:PE X e te)(hg:PG X tg g)(hs:swapsWithSole [tg] e pos.line X.env=pure false:=by rfl)(hw:swappedStores [tg] e X.env=pure none:=by rfl)
  (h1:(assignEach [tg] X.env).map (·.2)=[assign tg X.env]:=by rfl):PS X (.Assign [tg] e pos) (tAsg te g):=by
 intro Bb s U H D I h;refine wpAny_Assign_stores (thn (he Bb s U H _ I h) λv s1 zz=>?_) hs hw;obtain⟨x,H1,I1,r1,q1⟩:=zz;rw[h1];exact thn (hg Bb s1 U H1 x v _ I1 r1 q1) λ_ s2 q=>q
theorem Zap (hN:X.N.Nodup)(hi:X.N[i]?=some x)(hx:Loc X.env.scope x)(he:PE X e te)(hs:swapsWith e (some (.Name x pos')) pos.line X.env=pure false:=by rfl)(hf:X.fn x=true\/X.env.scope.names.lookup x=some .local:=by first | exact .inl rfl | exact .inr rfl | assumption):
  PS X (.Assign [.Name x pos'] e pos) (tAsg te (Zdj i)):=by
 intro Bb s U H D I h;refine wpAny_Assign_Name (thn (he Bb s U H _ I h) λv s1 zz=>?_) hs;obtain⟨y,H1,I1,r1,q1⟩:=zz;exact Zdm I1 hN hi hx r1 (λs2 I2=>⟨_,H1,I2,q1⟩) hf
end
section
def Zie (c:TT)(tb:TS):TS:=λD U H=>∃W:Nat->St->Hp->Prop,(∃m,W m U H)/\∀m U H,W m U H ->
 c U H λb H1=>if b=true then ∃N:St->Hp->Prop,(∀U' H',N U' H'->∃m',m'<m/\W m' U' H')/\tb { D with nx:=N,ct:=N,bk:=D.nx } U H1 else D.nx U H1
theorem ZgY (hp:PassesOwn (model X.prog X.w) X.A X.env X.xe)(hc:PT X c tc)(hb:PSs X body tb):PS X (.While c body [] pos) (Zie tc tb):=by
 intro Bb s U H D I h;obtain⟨W,⟨m0,w0⟩,turn⟩:=h;refine wpAny_While (codeAny_whileLoop (λn s'=>∃U' H',Inv X Bb U' H' s'/\W n U' H') ?_ m0 ⟨U,H,I,w0⟩);rintro n s1 ⟨U1,H1,I1,w1⟩;refine YCW hp (thn (hc Bb s1 U1 H1 _ I1 (turn n U1 H1 w1)) λb s2 zz=>?_);obtain⟨H2,I2,q2⟩:=zz;cases b with
 | true=>
  obtain⟨N,hN,q2⟩:=q2;rw[YAM rfl];refine YCW hp (thn (hb Bb s2 U1 H2 _ I2 q2) λf s3 q3=>?_);cases f with
  | next=>
   obtain⟨U3,H3,I3,n3⟩:=q3;obtain⟨m',hm,w3⟩:=hN U3 H3 n3;exact⟨m',hm,U3,H3,I3,w3⟩
  | cont=>
   obtain⟨U3,H3,I3,n3⟩:=q3;obtain⟨m',hm,w3⟩:=hN U3 H3 n3;exact⟨m',hm,U3,H3,I3,w3⟩
  | brk=>exact q3
  | ret v=>exact q3
 | false=>
  rw[YAI YAC];exact YCm ⟨U1,H2,I2,q2⟩
end
structure It where
 go:Nat->Hp->Prop
 yld:Nat->Hp->V->Hp->Prop
 stop:Nat->Hp->Prop
def FpOk (X:Cx)(Bb:AA)(H:Hp)(b:AD):Prop:=
 H b=none/\b≠X.env.locals/\b∉X.fs/\(b∈X.ex\/X.s_0.heap.objs.size<=b)/\(∀x c,X.env.cells.lookup x=some c->c≠b)/\∀p∈X.pn++Bb,p.1≠b
theorem Inv.fpOk (I:Inv X Bb U H s)(hb:s.heap.objs.size<=b)(hn:H' b=none):FpOk X Bb H' b:=by
 refine⟨hn,Nat.ne_of_gt (YAn I.lt hb),I.nofs hb,.inr (YAK I.sz hb),λx c e z=>?_,λp hp z=>?_⟩
 .obtain⟨v,q⟩:=I.cell x c e;exact absurd (YAn q.lt (by rw[z];exact hb)) (YAv _)
 .exact absurd (YAn (YAL (I.pin p hp).1) (by rw[z];exact hb)) (YAv _)
structure Turn (P:AG)(w:AI)(K:Q4)(tg:Expr)(J:It)(fp:List AD)(it:AD)(tn:Nat->Heap->Prop):Prop where
 mem:it∈fp
 obj:∀i h,tn i h->∀b∈fp,∃o,h.get? b=some o/\∀v,o.data≠.cell v
 keep:∀i h h',tn i h->(∀b∈fp,∀o,h.get? b=some o->h'.get? b=some o)->tn i h'
 item:∀(X:Cx),X.prog=P->X.w=w->X.K=K->X.calm=true->∀(i:Nat) (Bb:AA) (s:AE) (U:St) (H:Hp) (E:Q33),Inv X Bb U H s->(∀b∈fp,FpOk X Bb H b)->tn i s.heap->J.go i H ->
  wpAny (model P w) X.A (pyNext (.ref it)) (λr s1=>∃u,r=some u /\
   wpAny (model P w) X.A (letOwnedTupleGo tg (.ref it) u) (λ_ s2=>∃x H',Inv X Bb U H' s2/\RelV x u/\J.yld i H x H'/\tn (i+1) s2.heap/\∀b∈fp,H' b=none) E s1) E s
 done:∀(X:Cx),X.prog=P->X.w=w->X.K=K->X.calm=true->∀(i:Nat) (Bb:AA) (s:AE) (U:St) (H:Hp) (E:Q33),Inv X Bb U H s->(∀b∈fp,FpOk X Bb H b)->tn i s.heap->J.stop i H ->
  wpAny (model P w) X.A (pyNext (.ref it)) (λr s1=>r=none/\Inv X Bb U H s1) E s
 self:∀(A:AH) (i:Nat) (s:AE) (Q:Q33) (E:Q33),tn i s.heap->Q (.ref it) s->wpAny (model P w) A (pyIter (.ref it)) Q E s
abbrev TI:=St->Hp->(It->Hp->Prop)->Prop
def PIE (X:Cx)(Bb:AA)(U:St)(tg:Expr)(R:It->Hp->Prop)(itv:Value)(s2:AE):Prop:=
 ∃(it:AD) (fp:List AD) (tn:Nat->Heap->Prop) (J:It) (H':Hp),itv=.ref it/\Inv X Bb U H' s2/\Turn X.prog X.w X.K tg J fp it tn/\tn 0 s2.heap/\(∀b∈fp,FpOk X Bb H' b)/\R J H'
def PI (X:Cx)(tg iter:Expr)(wi:TI):Prop:=
 ∀(Bb:AA) (s:AE) (U:St) (H:Hp) (R:It->Hp->Prop),Inv X Bb U H s->wi U H R ->
  wpAny (model X.prog X.w) X.A (eval iter X.env) (λv s1=>wpAny (model X.prog X.w) X.A (pyIter v) (PIE X Bb U tg R) X.xe s1) X.xe s
theorem Zkr (ho:s.heap.get? it=some o)(hc:o.cls=.type n)(hd:o.data=.fields vs)
    (hn:["enumerate","zip","dict_itemiterator","dict_reverseitemiterator","odict_iterator","itertools.zip_longest","itertools.pairwise"].contains n=false) (hQ:Q () s):wpAny M A (letOwnedTupleGo tg (.ref it) u) Q E s:=by
  unfold letOwnedTupleGo;cases tg<;>first
    | exact YAF hQ
    | (cases u<;>first
        | exact YAF hQ
        | (refine YAA (wpAny_load ho ?_)
           rw[hc,hd];show wpAny M A (if (["enumerate","zip","dict_itemiterator","dict_reverseitemiterator","odict_iterator","itertools.zip_longest","itertools.pairwise"].contains n&&vs[0]? == some (rawInt _))=true then _ else _) Q E s;rw[YAI (by intro h;rw[hn,YBZ]at h;cases h)];exact YAF hQ))
def Itl (K:Q4)(a:AD):It:=
 ⟨λi H=>∃xs x,SqL K H a xs/\xs[i]?=some x,λi H x H'=>H'=H/\∀xs,SqL K H a xs->xs[i]?=some x,λi H=>∃xs,SqL K H a xs/\xs.length<=i⟩
def Itt (K:Q4)(a:AD):It:=
 ⟨λi H=>∃xs x,SqT K H a xs/\xs[i]?=some x,λi H x H'=>H'=H/\∀xs,SqT K H a xs->xs[i]?=some x,λi H=>∃xs,SqT K H a xs/\xs.length<=i⟩
def Itr (lo:Int)(n:Nat):It:=⟨λi _=>i<n,λi H x H'=>H'=H/\x=.int (lo+i),λi _=>n<=i⟩
theorem Zia {P:AG}{w:AI}{K:Q4}{tg:Expr}(a it:AD):Turn P w K tg (Itl K a) [it] it (λi h=>h.IsListIter it a i) where
 mem:=by simp
 obj:=λi h st b hb=>by
  have e:b=it:=by simpa using hb
  subst e;obtain⟨o,e,c,d⟩:=st;exact⟨o,e,λv z=>by rw[d]at z;cases z⟩
 keep:=λi h h' st k=>st.at λo e=>k it (by simp) o e
 item:=by intro X hP hw hK hc i Bb s U H E I hf st hg;subst hP hw hK;obtain⟨xs,x,hq,hx⟩:=hg;obtain⟨its,rv,p,hz⟩:=I.list hq;obtain⟨u,hu,ru⟩:=rv.get hx;obtain⟨f0,f1,f2,f3,f4,f5⟩:=hf it (by simp);refine wpAny_pyNext_list_item st p.isList (x:=u) (by simpa using hu) λh' st' sb=>?_;have I1:Inv X Bb U H { s with heap:=h' }:=I.turned (t':=s.toks) (λb o hb e=>(sb.2 b hb).trans e) f0 f1 f3 f4 f5;obtain⟨o,e,c,d⟩:=id st';exact⟨u,rfl,Zkr (s:={ s with heap:=h' }) e c d (by decide) ⟨x,H,I1,ru,⟨rfl,λys hy=>by rw[I.list_inj hy hq];exact hx⟩,st',λb hb=>(hf b hb).1⟩⟩
 done:=by intro X hP hw hK hc i Bb s U H E I hf st hg;subst hP hw hK;obtain⟨xs,hq,hx⟩:=hg;obtain⟨its,rv,p,hz⟩:=I.list hq;obtain⟨f0,f1,f2,f3,f4,f5⟩:=hf it (by simp);have hl:=rv.length;exact wpAny_pyNext_list_end (I.ok.hd hc) st p.isList (by simp;omega) λh' eb=>⟨rfl,I.turned (t':=s.toks) (λb o hb e=>eb b o hb e) f0 f1 f3 f4 f5⟩
 self:=λ_ _ _ _ _ st h=>wpAny_pyIter_listiter st h
theorem Zhq {P:AG}{w:AI}{K:Q4}{tg:Expr}(it:AD)(lo:Int)(n:Nat):Turn P w K tg (Itr lo n) [it] it (λi h=>IsRangeIter h it (lo+(i:Nat)*1) ((n:Int)-(i:Nat)) 1) where
 mem:=by simp
 obj:=λi h st b hb=>by
  have e:b=it:=by simpa using hb
  subst e;exact⟨_,st,λv z=>by have z':Data.fields _=Data.cell v:=z;cases z'⟩
 keep:=λi h h' st k=>k it (by simp) _ st
 item:=by intro X hP hw hK hc i Bb s U H E I hf st hg;subst hP hw hK;obtain⟨f0,f1,f2,f3,f4,f5⟩:=hf it (by simp);have W:=Walks.range (prog:=X.prog) (w:=X.w) (I.ok.hd hc) it lo 1 n;refine W.item i s _ _ hg st λv h' tk hv st' kk=>?_;obtain⟨t,rfl⟩:=hv;have I1:Inv X Bb U H { s with heap:=h',toks:=tk }:=I.turned (λb o hb e=>kk b o (by simpa using hb) e) f0 f1 f3 f4 f5;refine⟨_,rfl,Zkr (s:={ s with heap:=h',toks:=tk }) (n:="range_iterator") st' rfl rfl (by decide) ⟨.int (lo+i),H,I1,⟨t,?_⟩,⟨rfl,rfl⟩,st',λb hb=>(hf b hb).1⟩⟩;rw[Int.mul_one]
 done:=by intro X hP hw hK hc i Bb s U H E I hf st hg;subst hP hw hK;obtain⟨f0,f1,f2,f3,f4,f5⟩:=hf it (by simp);exact wpAny_pyNext_range_end (I.ok.hd hc) st (by have:n<=i:=hg;omega) λh' eb=>⟨rfl,I.turned (t':=s.toks) (λb o hb e=>eb b o hb e) f0 f1 f3 f4 f5⟩
 self:=λ_ _ _ _ _ st h=>wpAny_pyIter_rangeiter st h
section
def Zmr (K:Q4)(tl:TE):TI:=λU H R=>tl U H λx H1=>∃a,x=.ref a/\(∃xs,SqL K H1 a xs)/\R (Itl K a) H1
theorem ZlT (hl:PE X l tl):PI X tg l (Zmr X.K tl):=by
 intro Bb s U H R I h;refine thn (hl Bb s U H _ I h) λv s1 zz=>?_;obtain⟨x,H1,I1,r1,q1⟩:=zz;obtain⟨a,e,⟨xs,hq⟩,q⟩:=q1;subst e;cases r1;obtain⟨its,rv,p,hz⟩:=I1.list hq;refine YDT p.isList ?_;refine⟨s1.heap.objs.size,[s1.heap.objs.size],_,_,H1,rfl,I1.kept (t':=s1.toks) λb o e=>YAB _ e,Zia a _,⟨_,YAQ _ rfl,rfl,rfl⟩,λb hb=>?_,q⟩;have e:b=s1.heap.objs.size:=by simpa using hb
 subst e;exact I1.fpOk (YAS _) (I1.hok.fresh (YAS _))
theorem ZgX {Bb:AA}{U:St}{H:Hp}{s:AE}{R:It->Hp->Prop}{E:Q33}{lo hi:Int}{t u v:Tok}{tk:Nat}(I:Inv X Bb U H s)(h1:-(2 ^ 62)<=lo)(h2:lo<2 ^ 62)(h3:-(2 ^ 62)<=hi)(h4:hi<2 ^ 62)
  (q:R (Itr lo (hi-lo).toNat) H):wpAny (model X.prog X.w) X.A (pyIter (.ref s.heap.objs.size)) (PIE X Bb U tg R) E { s with heap:=s.heap.push { cls:=.type "range",data:=.fields #[.int lo t,.int hi u,.int 1 v] },toks:=tk }:=by
 refine wpAny_pyIter_range (IsRange.new ..) (small_one h1 h2 h3 h4) ?_;have I1:Inv X Bb U H { s with heap:=s.heap.push { cls:=.type "range",data:=.fields #[.int lo t,.int hi u,.int 1 v] },toks:=tk }:=I.kept λb o e=>YAB _ e;refine⟨(s.heap.push { cls:=.type "range",data:=.fields #[.int lo t,.int hi u,.int 1 v] }).objs.size,[(s.heap.push { cls:=.type "range",data:=.fields #[.int lo t,.int hi u,.int 1 v] }).objs.size],_,_,H,rfl,
  I1.kept (t':=tk) λb o e=>YAB _ e,Zhq _ lo (hi-lo).toNat,?_,λb hb=>?_,q⟩
 .have e1:lo+((0:Nat):Int)*1=lo:=by simp
  have e2:(((hi-lo).toNat:Nat):Int)-((0:Nat):Int)=Builtin.Range.rangeSize lo hi 1:=by rw[rangeSize_one];split<;>omega
  show IsRangeIter _ _ (lo+((0:Nat):Int)*1) ((((hi-lo).toNat:Nat):Int)-((0:Nat):Int)) 1;rw[e1,e2];exact YAQ _ rfl
 .have e:b=(s.heap.push { cls:=.type "range",data:=.fields #[.int lo t,.int hi u,.int 1 v] }).objs.size:=by simpa using hb
  subst e;exact I1.fpOk (YAS _) (I1.hok.fresh (YAS _))
def Zoo (ta:TA):TI:=λU H R=>ta U H λvs H1=>∃j:Int,vs=[.int j]/\-(2 ^ 62)<=j/\j<2 ^ 62/\R (Itr 0 j.toNat) H1
def Zon (ta:TA):TI:=λU H R=>ta U H λvs H1=>∃i j:Int,vs=[.int i,.int j]/\(-(2 ^ 62)<=i/\i<2 ^ 62/\-(2 ^ 62)<=j/\j<2 ^ 62)/\R (Itr i (j-i).toNat) H1
theorem Zbp (hg:Gl X "range") (hm:X.mg "range"=none) (ha:PA X [a] ta) (hs:starEach [a] X.env=[(false,eval a X.env)]:=by rfl):PI X tg (.Call (.Name "range" p) [a] [] pos) (Zoo ta):=by
 intro Bb s U H R I h;refine Call_ (Zem I hg hm boot_range (YDJ (thn (ha pos Bb s U H _ I h) λus s1 zz=>?_) hs rfl));obtain⟨vs,H1,I1,r1,q1⟩:=zz;obtain⟨j,e,q1,q2,q⟩:=q1;subst e;cases r1 with
 | cons r rr=>
  cases rr;obtain⟨t,rfl⟩:=r;exact call_range_1 (ZgX I1 (by omega) (by omega) q1 q2 (by simpa using q))
theorem Ziz (hg:Gl X "range") (hm:X.mg "range"=none) (ha:PA X [a,b] ta) (hs:starEach [a,b] X.env=[(false,eval a X.env),(false,eval b X.env)]:=by rfl) (hs2:starEach [b] X.env=[(false,eval b X.env)]:=by rfl):
  PI X tg (.Call (.Name "range" p) [a,b] [] pos) (Zon ta):=by
 intro Bb s U H R I h;refine Call_ (Zem I hg hm boot_range (YDJ (thn (ha pos Bb s U H _ I h) λus s1 ⟨vs,H1,I1,r1,q1⟩=>?_) (by rw[hs,hs2]) (by rw[hs2];rfl)));obtain⟨i,j,e,⟨q1,q2,q3,q4⟩,q⟩:=q1;subst e;cases r1 with
 | cons r rr=>
  cases rr with
  | cons r' rr=>
   cases rr;obtain⟨t,rfl⟩:=r;obtain⟨t',rfl⟩:=r';exact call_range_2 (ZgX I1 q1 q2 q3 q4 q)
def tFor (wi:TI)(g:TG)(tb:TS):TS:=λD U H=>wi U H λJ H1=>∃W:Nat->Nat->St->Hp->Prop,(∃m,W 0 m U H1)/\∀i m U H,W i m U H ->
 (J.stop i H/\D.nx U H)\/(J.go i H/\∃N:St->Hp->Prop,(∀U' H',N U' H'->∃m',m'<m/\W (i+1) m' U' H')/\∀x H',J.yld i H x H'->g x U H' λU2 H2=>tb { D with nx:=N,ct:=N,bk:=D.nx } U2 H2)
def Zft (fp:List AD)(h:Heap):AA:=fp.filterMap λb=>(h.get? b).map λo=>(b,o)
theorem Zcl (hb:b∈fp)(e:h.get? b=some o):(b,o)∈Zft fp h:=List.mem_filterMap.mpr ⟨b,hb,by rw[e];rfl⟩
theorem ZiN (hp:p∈Zft fp h):p.1∈fp/\h.get? p.1=some p.2:=by
 obtain⟨b,hb,e⟩:=List.mem_filterMap.mp hp;cases q:h.get? b with
 | none=>rw[q]at e;cases e
 | some o=>
  rw[q]at e;have e':(b,o)=p:=Option.some.inj e;subst e';exact⟨hb,q⟩
theorem Inv.pinned (I:Inv X Bb U H s)(hf:∀b∈fp,FpOk X Bb H b)(ho:∀b∈fp,∃o,s.heap.get? b=some o/\∀v,o.data≠.cell v):Inv X (Bb++Zft fp s.heap) U H s:=
 I.pins_of λp hp=>(YAV.mp hp).elim (λz=>I.pin p (YBN _ z)) λz=>by obtain⟨hb,e⟩:=ZiN z;obtain⟨f0,f1,f2,_⟩:=hf p.1 hb;obtain⟨o,e',d⟩:=ho p.1 hb;rw[e]at e';cases e';exact⟨e,f0,f1,f2,d⟩
theorem Inv.unpinned (I:Inv X (Bb++pl) U H s):Inv X Bb U H s:=I.pins_of λp hp=>I.pin p (YBN _ (List.mem_append_left _ hp))
theorem ZbB (hp:PassesOwn (model X.prog X.w) X.A X.env X.xe)(hc:X.calm=true)(hi:PI X tg iter wi)(hg:PG X tg g)(hb:PSs X body tb)
  (hs:∀x,foldedSetIterable iter X.env x=pure x:=by intro _;rfl):PS X (.For tg iter body [] pos) (tFor wi g tb):=by
 intro Bb s U H D I h;refine wpAny_For (thn (hi Bb s U H _ I h) λv s1 h1=>thn h1 λitv s2 h2=>?_) hs;obtain⟨it,fp,tn,J,H2,e,I2,T,st2,f2,W,⟨m0,w0⟩,turn⟩:=h2;subst e;have stat:∀ {H':Hp},(∀b∈fp,H' b=none)->∀b∈fp,FpOk X Bb H' b:=λhn b hb=>⟨hn b hb,(f2 b hb).2⟩;refine codeAny_forLoop_any (λn s'=>∃i U' H',Inv X Bb U' H' s'/\tn i s'.heap/\(∀b∈fp,H' b=none)/\W i n U' H') ?_ m0 ⟨0,U,H2,I2,st2,λb hb=>(f2 b hb).1,w0⟩;rintro n s3 ⟨i,U3,H3,I3,st3,fr3,w3⟩;rcases turn i n U3 H3 w3 with⟨stop,qn⟩|⟨go,N,hN,step⟩
 .refine YCW hp (thn (T.done X rfl rfl rfl hc i Bb s3 U3 H3 X.xe I3 (stat fr3) st3 stop) λr s4 zz=>?_);obtain⟨hr,I4⟩:=zz;subst hr;exact YCm ⟨U3,H3,I4,qn⟩
 .refine YCW hp (thn (T.item X rfl rfl rfl hc i Bb s3 U3 H3 X.xe I3 (stat fr3) st3 go) λr s4 zz=>?_);obtain⟨u,hr,h4⟩:=zz;subst hr;refine YCW hp (thn h4 λ_ s5 zz=>?_);obtain⟨x,H5,I5,r5,y5,st5,fr5⟩:=zz;have I5':=I5.pinned (stat fr5) (T.obj _ _ st5);refine YCW hp (thn (hg _ s5 U3 H5 x u _ I5' r5 (step x H5 y5)) λ_ s6 zz=>?_);obtain⟨U6,H6,I6,q6⟩:=zz;refine YCW hp (thn (hb _ s6 U6 H6 _ I6 q6) λf s7 q7=>?_);have again:∀ {U7:St} {H7:Hp},Inv X (Bb++Zft fp s5.heap) U7 H7 s7->N U7 H7->∃m,m<n/\∃i U' H',Inv X Bb U' H' s7/\tn i s7.heap/\(∀b∈fp,H' b=none)/\W i m U' H':=λ{U7 H7} I7 n7=>by obtain⟨m',hm,w7⟩:=hN U7 H7 n7;refine⟨m',hm,i+1,U7,H7,I7.unpinned,T.keep _ _ _ st5 λb hb o e=>(I7.pin (b,o) (YBN _ (YBN _ (Zcl hb e)))).1,λb hb=>?_,w7⟩;obtain⟨o,e,d⟩:=T.obj _ _ st5 b hb;exact(I7.pin (b,o) (YBN _ (YBN _ (Zcl hb e)))).2.1
  cases f with
  | next=>obtain⟨U7,H7,I7,n7⟩:=q7;exact again I7 n7
  | cont=>obtain⟨U7,H7,I7,n7⟩:=q7;exact again I7 n7
  | brk=>obtain⟨U7,H7,I7,q7⟩:=q7;exact⟨U7,H7,I7.unpinned,q7⟩
  | ret v=>obtain⟨x7,U7,H7,I7,r7,q7⟩:=q7;exact⟨x7,U7,H7,I7.unpinned,r7,q7⟩
end
theorem Zku {K:Q4}{a:AD}{xs:List V}{g:TG}{tb:TS}{D:Ends}{U:St}{H:Hp}(Pv:Nat->St->Hp->Prop)(h0:Pv 0 U H)(hl:∀i U H,i<=xs.length->Pv i U H->SqL K H a xs)
  (hs:∀i x U H,xs[i]?=some x->Pv i U H->g x U H λU2 H2=>tb { D with nx:=Pv (i+1),ct:=Pv (i+1),bk:=D.nx } U2 H2) (hd:∀U H,Pv xs.length U H->D.nx U H):
  ∃W:Nat->Nat->St->Hp->Prop,(∃m,W 0 m U H)/\∀i m U H,W i m U H ->
   ((Itl K a).stop i H/\D.nx U H)\/((Itl K a).go i H/\∃N:St->Hp->Prop,(∀U' H',N U' H'->∃m',m'<m/\W (i+1) m' U' H')/\∀x H',(Itl K a).yld i H x H'->g x U H' λU2 H2=>tb { D with nx:=N,ct:=N,bk:=D.nx } U2 H2):=by
 refine⟨λi m U H=>m=xs.length-i/\i<=xs.length/\Pv i U H,⟨xs.length,by simp,YAx _,h0⟩,?_⟩;rintro i m U H ⟨rfl,hi,p⟩;have q:=hl i U H hi p;by_cases Bl:i<xs.length
 .refine .inr ⟨⟨xs,xs[i],q,by simp[Bl]⟩,Pv (i+1),λU' H' p'=>⟨xs.length-(i+1),by omega,rfl,Bl,p'⟩,λx H' y=>?_⟩;obtain⟨e,y⟩:=y;subst e;exact hs i x U _ (y xs q) p
 .have e:i=xs.length:=by omega
  subst e;exact .inl ⟨⟨xs,q,YAS _⟩,hd U H p⟩
theorem Zjl {lo:Int}{n:Nat}{g:TG}{tb:TS}{D:Ends}{U:St}{H:Hp}(Pv:Nat->St->Hp->Prop)(h0:Pv 0 U H)
  (hs:∀i U H,i<n->Pv i U H->g (.int (lo+i)) U H λU2 H2=>tb { D with nx:=Pv (i+1),ct:=Pv (i+1),bk:=D.nx } U2 H2) (hd:∀U H,Pv n U H->D.nx U H):
  ∃W:Nat->Nat->St->Hp->Prop,(∃m,W 0 m U H)/\∀i m U H,W i m U H ->
   ((Itr lo n).stop i H/\D.nx U H)\/((Itr lo n).go i H/\∃N:St->Hp->Prop,(∀U' H',N U' H'->∃m',m'<m/\W (i+1) m' U' H')/\∀x H',(Itr lo n).yld i H x H'->g x U H' λU2 H2=>tb { D with nx:=N,ct:=N,bk:=D.nx } U2 H2):=by
 refine⟨λi m U H=>m=n-i/\i<=n/\Pv i U H,⟨n,by simp,YAx _,h0⟩,?_⟩;rintro i m U H ⟨rfl,hi,p⟩;by_cases Bl:i<n
 .refine .inr ⟨Bl,Pv (i+1),λU' H' p'=>⟨n-(i+1),by omega,rfl,Bl,p'⟩,λx H' y=>?_⟩;obtain⟨e,y⟩:=y;subst e y;exact hs i U _ Bl p
 .have e:i=n:=by omega
  subst e;exact .inl ⟨YAS _,hd U H p⟩
abbrev R2:=V->V->Hp->VK->Prop
def OpR (X:Cx)(f:Value->Value->Sem Value)(r:R2):Prop:=
 ∀(Bb:AA) (s:AE) (U:St) (H:Hp) (x y:V) (v u:Value) (Q:VK),Inv X Bb U H s->RelV x v->RelV y u->r x y H Q ->
  wpAny (model X.prog X.w) X.A (f v u) (EP X Bb U Q) X.xe s
def UnR (X:Cx)(f:Value->Sem Value)(r:V->Hp->VK->Prop):Prop:=
 ∀(Bb:AA) (s:AE) (U:St) (H:Hp) (x:V) (v:Value) (Q:VK),Inv X Bb U H s->RelV x v->r x H Q ->
  wpAny (model X.prog X.w) X.A (f v) (EP X Bb U Q) X.xe s
def Zb0 (X:Cx)(f:Value)(r:List V->Hp->VK->Prop):Prop:=
 ∀(Bb:AA) (s:AE) (U:St) (H:Hp) (xs:List V) (us:AC) (Q:VK),Inv X Bb U H s->Vals xs us->r xs H Q ->
  wpAny (model X.prog X.w) X.A (call f us) (EP X Bb U Q) X.xe s
def TruR (X:Cx)(r:V->Hp->(Bool->Hp->Prop)->Prop):Prop:=
 ∀(Bb:AA) (s:AE) (U:St) (H:Hp) (x:V) (v:Value) (Q:Bool->Hp->Prop),Inv X Bb U H s->RelV x v->r x H Q ->
  wpAny (model X.prog X.w) X.A (truthy v) (TP X Bb U Q) X.xe s
def tOp (r:R2)(ta tb:TE):TE:=λU H Q=>ta U H λx H1=>tb U H1 λy H2=>r x y H2 Q
def tUn (r:V->Hp->VK->Prop)(ta:TE):TE:=λU H Q=>ta U H λx H1=>r x H1 Q
def rI (C:Int->Int->Prop)(g:Int->Int->V):R2:=λx y H Q=>∃i j,x=.int i/\y=.int j/\C i j/\Q (g i j) H
def rI0 (g:Int->Int->V):R2:=λx y H Q=>∃i j,x=.int i/\y=.int j/\Q (g i j) H
def rU (g:Int->V):V->Hp->VK->Prop:=λx H Q=>∃i,x=.int i/\Q (g i) H
section
theorem binT (ha:PE X a ta)(hb:PE X b tb){Bb:AA}{s:AE}{U:St}{H:Hp}{R:V->V->Hp->Prop}(I:Inv X Bb U H s)
  (h:ta U H λx H1=>tb U H1 λy H2=>R x y H2) {Q:Q33} {f:Value->Value->Sem Value}
  (hf:∀v u s2 x y H2,Inv X Bb U H2 s2->RelV x v->RelV y u->R x y H2->wpAny (model X.prog X.w) X.A (f v u) Q X.xe s2):
  wpAny (model X.prog X.w) X.A (eval a X.env) (λv s_1=>wpAny (model X.prog X.w) X.A (eval b X.env) (λu s_2=>wpAny (model X.prog X.w) X.A (f v u) Q X.xe s_2) X.xe s_1) X.xe s:=by
 refine thn (ha Bb s U H _ I h) λv s1 zz=>?_;obtain⟨x,H1,I1,r1,q1⟩:=zz;refine thn (hb Bb s1 U H1 _ I1 q1) λu s2 zz=>?_;obtain⟨y,H2,I2,r2,q2⟩:=zz;exact hf v u s2 x y H2 I2 r1 r2 q2
theorem Zat (ho:OpR X (binaryOp op) r)(ha:PE X a ta)(hb:PE X b tb):PE X (.BinOp a op b pos) (tOp r ta tb):=by intro Bb s U H Q I h;exact wpAny_BinOp (binT ha hb I h λv u s2 x y H2 I2 rx ry q=>ho Bb s2 U H2 x y v u Q I2 rx ry q)
theorem ZiA (ho:UnR X (unaryOp op) r)(ha:PE X a ta):PE X (.UnaryOp op a pos) (tUn r ta):=by intro Bb s U H Q I h;exact UnaryOp_ (thn (ha Bb s U H _ I h) λv s1 ⟨x,H1,I1,r1,q1⟩=>ho Bb s1 U H1 x v Q I1 r1 q1)
theorem opI {f:Value->Value->Sem Value}{C:Int->Int->Prop}{g:Int->Int->Int}
  (rule:∀(i j:Int) (t u:Tok) (s:AE) (Q:Q33) (E:Q33),C i j->Q (.int (g i j) s.toks) { s with toks:=s.toks+1 }->wpAny (model X.prog X.w) X.A (f (.int i t) (.int j u)) Q E s):
  OpR X f (rI C λi j=>.int (g i j)):=by
 intro Bb s U H x y v u Q I rx ry h;obtain⟨i,j,rfl,rfl,hc,q⟩:=h;obtain⟨t,rfl⟩:=rx;obtain⟨t',rfl⟩:=ry;exact rule i j t t' s _ _ hc ⟨.int (g i j),H,I.tok _,⟨_,rfl⟩,q⟩
theorem opI0 {f:Value->Value->Sem Value}{g:Int->Int->Int}
  (rule:∀(i j:Int) (t u:Tok) (s:AE) (Q:Q33) (E:Q33),Q (.int (g i j) s.toks) { s with toks:=s.toks+1 }->wpAny (model X.prog X.w) X.A (f (.int i t) (.int j u)) Q E s):
  OpR X f (rI0 λi j=>.int (g i j)):=by
 intro Bb s U H x y v u Q I rx ry h;obtain⟨i,j,rfl,rfl,q⟩:=h;obtain⟨t,rfl⟩:=rx;obtain⟨t',rfl⟩:=ry;exact rule i j t t' s _ _ ⟨.int (g i j),H,I.tok _,⟨_,rfl⟩,q⟩
theorem opB0 {f:Value->Value->Sem Value}{g:Int->Int->Bool}
  (rule:∀(i j:Int) (t u:Tok) (s:AE) (Q:Q33) (E:Q33),Q (.bool (g i j)) s->wpAny (model X.prog X.w) X.A (f (.int i t) (.int j u)) Q E s):
  OpR X f (rI0 λi j=>.bl (g i j)):=by
 intro Bb s U H x y v u Q I rx ry h;obtain⟨i,j,rfl,rfl,q⟩:=h;obtain⟨t,rfl⟩:=rx;obtain⟨t',rfl⟩:=ry;exact rule i j t t' s _ _ ⟨.bl (g i j),H,I,rfl,q⟩
def CDiv (i j:Int):Prop:=0<j/\j<1073741824
def CMul (i j:Int):Prop:=(-(2 ^ 64)<i/\i<2 ^ 64)\/(-(2 ^ 64)<j/\j<2 ^ 64)
theorem CMul.ok (h:CMul i j):IntMulOk i j:=by
 rcases h with⟨h1,h2⟩|⟨h1,h2⟩
 .exact .of_left (intBits_le_64 h1 h2)
 .exact .of_right (intBits_le_64 h1 h2)
theorem Zbt:OpR X (binaryOp .Add) (rI0 λi j=>.int (i+j)):=opI0 λ_ _ _ _ _ _ _ q=>add_int q
theorem Znt:OpR X (binaryOp .Sub) (rI0 λi j=>.int (i-j)):=opI0 λ_ _ _ _ _ _ _ q=>sub_int q
theorem ZdI:OpR X (binaryOp .Mult) (rI CMul λi j=>.int (i*j)):=opI λ_ _ _ _ _ _ _ hc q=>mul_int q hc.ok
theorem Zbf:OpR X (binaryOp .FloorDiv) (rI CDiv λi j=>.int (i/j)):=opI λi j _ _ _ _ _ hc q=>by have h1:(0:Int)<j:=hc.1;have h2:j<1073741824:=hc.2;exact floordiv_int (by omega) (by rw[Int.fdiv_eq_ediv_of_nonneg i (by omega)];exact q) (.inl (PyProof.noPylong_small (by omega)))
theorem ZaS:OpR X (binaryOp .Mod) (rI (λ_ j=>0<j) λi j=>.int (i % j)):=opI λi j _ _ _ _ _ hc q=>by have h1:(0:Int)<j:=hc;exact mod_int' (by omega) (by rw[Int.fmod_eq_emod_of_nonneg i (by omega)];exact q)
theorem unI {f:Value->Sem Value}{g:Int->Int}
  (rule:∀(i:Int) (t:Tok) (s:AE) (Q:Q33) (E:Q33),Q (.int (g i) s.toks) { s with toks:=s.toks+1 }->wpAny (model X.prog X.w) X.A (f (.int i t)) Q E s):
  UnR X f (rU λi=>.int (g i)):=by
 intro Bb s U H x v Q I rx h;obtain⟨i,rfl,q⟩:=h;obtain⟨t,rfl⟩:=rx;exact rule i t s _ _ ⟨.int (g i),H,I.tok _,⟨_,rfl⟩,q⟩
theorem Zfj:UnR X (unaryOp .USub) (rU λi=>.int (-i)):=unI λ_ _ _ _ _ q=>neg_int q
end
def scal:V->V->Bool
 | .non,.non=>true | .non,.int _=>true | .int _,.non=>true | .non,.bl _=>true | .bl _,.non=>true | .non,.str _=>true | .str _,.non=>true
 | .int _,.int _=>true | .bl _,.bl _=>true | .str _,.str _=>true | .byt _,.byt _=>true
 | .int _,.str _=>true | .str _,.int _=>true | .bl _,.str _=>true | .str _,.bl _=>true
 | _,_=>false
def rEq:R2:=λx y H Q=>scal x y=true/\Q (.bl (decide (x=y))) H
def rNe:R2:=λx y H Q=>scal x y=true/\Q (.bl (!decide (x=y))) H
theorem Zju:decide (V.int i=V.int j)=(i == j):=by rw[YBU];simp
theorem Zlk:decide (V.bl i=V.bl j)=(i == j):=by rw[YBU];simp
theorem Zjt:decide (V.str i=V.str j)=(i == j):=by rw[YBU];simp
theorem Zjv:decide (V.byt i=V.byt j)=(i.toList == j.toList):=by rw[YBU];cases i;cases j;simp
section
theorem ZaO (I:Inv X Bb U H s)(q:Q (.bl k) H)(e:k=k'):EP X Bb U Q (.bool k') s:=by subst e;exact⟨.bl k,H,I,rfl,q⟩
theorem Zpw:OpR X (compareOp .Eq) rEq:=by
 intro Bb s U H x y v u Q I rx ry h;obtain⟨hs,q⟩:=h;cases x with
 | non=>
  cases rx;cases y with
  | non=>cases ry;exact PySem.EqNone.eq_none_none (ZaO I q (by simp))
  | bl j=>cases ry;exact PySem.EqNone.eq_none_bool (ZaO I q (by simp))
  | int j=>obtain⟨t',rfl⟩:=ry;exact PySem.EqNone.eq_none_int (ZaO I q (by simp))
  | str j=>obtain⟨t',rfl⟩:=ry;exact PySem.EqNone.eq_none_str (ZaO I q (by simp))
  | _=>exact absurd (show false=true from hs) YAC
 | bl i=>
  cases rx;cases y with
  | non=>cases ry;exact PySem.EqNone.eq_bool_none (ZaO I q (by simp))
  | bl j=>cases ry;exact eq_bool (ZaO I q Zlk)
  | str j=>obtain⟨t',rfl⟩:=ry;exact PySem.EqMixed.eq_bool_str (ZaO I q (by simp))
  | _=>exact absurd (show false=true from hs) YAC
 | int i=>
  obtain⟨t,rfl⟩:=rx;cases y with
  | non=>cases ry;exact PySem.EqNone.eq_int_none (ZaO I q (by simp))
  | int j=>obtain⟨t',rfl⟩:=ry;exact eq_int (ZaO I q Zju)
  | str j=>obtain⟨t',rfl⟩:=ry;exact PySem.EqMixed.eq_int_str (ZaO I q (by simp))
  | _=>exact absurd (show false=true from hs) YAC
 | str i=>
  obtain⟨t,rfl⟩:=rx;cases y with
  | non=>cases ry;exact PySem.EqNone.eq_str_none (ZaO I q (by simp))
  | bl j=>cases ry;exact PySem.EqMixed.eq_str_bool (ZaO I q (by simp))
  | int j=>obtain⟨t',rfl⟩:=ry;exact PySem.EqMixed.eq_str_int (ZaO I q (by simp))
  | str j=>obtain⟨t',rfl⟩:=ry;exact eq_str (ZaO I q Zjt)
  | _=>exact absurd (show false=true from hs) YAC
 | byt i=>
  obtain⟨t,rfl⟩:=rx;cases y with
  | byt j=>obtain⟨t',rfl⟩:=ry;exact PySem.W.eq_bytes (ZaO I q Zjv)
  | _=>exact absurd (show false=true from hs) YAC
 | _=>cases y<;>exact absurd (show false=true from hs) YAC
theorem Zpt:OpR X (compareOp .NotEq) rNe:=by
 intro Bb s U H x y v u Q I rx ry h;obtain⟨hs,q⟩:=h;cases x with
 | non=>
  cases rx;cases y with
  | non=>cases ry;exact PySem.EqNone.ne_none_none (ZaO I q (by simp))
  | bl j=>cases ry;exact PySem.EqNone.ne_none_bool (ZaO I q (by simp))
  | int j=>obtain⟨t',rfl⟩:=ry;exact PySem.EqNone.ne_none_int (ZaO I q (by simp))
  | str j=>obtain⟨t',rfl⟩:=ry;exact PySem.EqNone.ne_none_str (ZaO I q (by simp))
  | _=>exact absurd (show false=true from hs) YAC
 | bl i=>
  cases rx;cases y with
  | non=>cases ry;exact PySem.EqNone.ne_bool_none (ZaO I q (by simp))
  | bl j=>cases ry;exact ne_bool (ZaO I q (congrArg not Zlk))
  | str j=>obtain⟨t',rfl⟩:=ry;exact PySem.EqMixed.ne_bool_str (ZaO I q (by simp))
  | _=>exact absurd (show false=true from hs) YAC
 | int i=>
  obtain⟨t,rfl⟩:=rx;cases y with
  | non=>cases ry;exact PySem.EqNone.ne_int_none (ZaO I q (by simp))
  | int j=>obtain⟨t',rfl⟩:=ry;exact ne_int (ZaO I q (congrArg not Zju))
  | str j=>obtain⟨t',rfl⟩:=ry;exact PySem.EqMixed.ne_int_str (ZaO I q (by simp))
  | _=>exact absurd (show false=true from hs) YAC
 | str i=>
  obtain⟨t,rfl⟩:=rx;cases y with
  | non=>cases ry;exact PySem.EqNone.ne_str_none (ZaO I q (by simp))
  | bl j=>cases ry;exact PySem.EqMixed.ne_str_bool (ZaO I q (by simp))
  | int j=>obtain⟨t',rfl⟩:=ry;exact PySem.EqMixed.ne_str_int (ZaO I q (by simp))
  | str j=>obtain⟨t',rfl⟩:=ry;exact ne_str (ZaO I q (congrArg not Zjt))
  | _=>exact absurd (show false=true from hs) YAC
 | byt i=>
  obtain⟨t,rfl⟩:=rx;cases y with
  | byt j=>obtain⟨t',rfl⟩:=ry;exact PySem.W.ne_bytes (ZaO I q (congrArg not Zjv))
  | _=>exact absurd (show false=true from hs) YAC
 | _=>cases y<;>exact absurd (show false=true from hs) YAC
theorem Znu:OpR X (compareOp .Lt) (rI0 λi j=>.bl (decide (i<j))):=opB0 λ_ _ _ _ _ _ _ q=>lt_int q
theorem Zpu:OpR X (compareOp .LtE) (rI0 λi j=>.bl (decide (i<=j))):=opB0 λ_ _ _ _ _ _ _ q=>le_int q
theorem Zl1:OpR X (compareOp .Gt) (rI0 λi j=>.bl (decide (j<i))):=opB0 λ_ _ _ _ _ _ _ q=>gt_int q
theorem Zpv:OpR X (compareOp .GtE) (rI0 λi j=>.bl (decide (j<=i))):=opB0 λ_ _ _ _ _ _ _ q=>ge_int q
theorem Zfx:OpR X (compareOp .In) (λx y H Q=>∃i j,x=.str i/\y=.str j/\Q (.bl (!(Builtin.Str.occurrences j i 0 j.length 1).isEmpty)) H):=by intro Bb s U H x y v u Q I rx ry h;obtain⟨i,j,rfl,rfl,q⟩:=h;obtain⟨t,rfl⟩:=rx;obtain⟨t',rfl⟩:=ry;exact in_str (ZaO I q rfl)
theorem Zdc:OpR X (compareOp .NotIn) (λx y H Q=>∃i j,x=.str i/\y=.str j/\Q (.bl (!(!(Builtin.Str.occurrences j i 0 j.length 1).isEmpty))) H):=by intro Bb s U H x y v u Q I rx ry h;obtain⟨i,j,rfl,rfl,q⟩:=h;obtain⟨t,rfl⟩:=rx;obtain⟨t',rfl⟩:=ry;exact notIn_str (ZaO I q rfl)
theorem ZaC (b:Expr){op:CmpOp}(h:op≠.In:=by decide)(h2:op≠.NotIn:=by decide):behindInMarks op b=false:=by
 have e1:(op == CmpOp.In)=false:=by cases op<;>first | rfl | exact absurd rfl h
 have e2:(op == CmpOp.NotIn)=false:=by cases op<;>first | rfl | exact absurd rfl h2
 cases b<;>simp[behindInMarks,e1,e2]
theorem Zbz (ho:OpR X (compareOp op) r)(ha:PE X a ta)(hb:PE X b tb)(hm:behindInMarks op b=false):PE X (.Compare a [op] [b] pos) (tOp r ta tb):=by intro Bb s U H Q I h;exact wpAny_Compare1 (binT ha hb I h λv u s2 x y H2 I2 rx ry q=>ho Bb s2 U H2 x y v u Q I2 rx ry q) hm
def ZmR (t:TE):TT:=λU H Q=>t U H λx H'=>∃k,x=.bl k/\Q k H'
theorem Zau (ho:OpR X (compareOp op) r)(ha:PE X a ta)(hb:PE X b tb)(hm:behindInMarks op b=false):PT X (.Compare a [op] [b] pos) (ZmR (tOp r ta tb)):=by
 intro Bb s U H Q I h;refine wpAny_isTrue_Compare1 (thn (ha Bb s U H _ I h) λv s1 ⟨x,H1,I1,r1,q1⟩=>thn (hb Bb s1 U H1 _ I1 q1) λu s2 ⟨y,H2,I2,r2,q2⟩=>
  thn (ho Bb s2 U H2 x y v u _ I2 r1 r2 q2) λc s3 ⟨z,H3,I3,r3,k,e,q3⟩=>?_) hm
 subst e;cases r3;exact YCG ⟨H3,I3,q3⟩
def TruV (K:Q4)(x:V)(H:Hp)(k:Bool):Prop:=
 match x with
 | .non=>k=false
 | .bl b=>k=b
 | .int i=>k=(i != 0)
 | .str y=>y.length<=sizeLine/\k=((y.length:Int) != 0)
 | .byt y=>y.size<=sizeLine/\k=((y.size:Int) != 0)
 | .ref p=>(∃xs,SqL K H p xs/\k=!xs.isEmpty)\/(∃xs,SqT K H p xs/\k=!xs.isEmpty)\/∃kvs,H p=some (.dK kvs)/\k=!kvs.isEmpty
 | _=>False
theorem ZhR (r:KV kvs vs):(!vs.isEmpty)=!kvs.isEmpty:=by cases r<;>rfl
theorem Zep (r:Vals xs its):(!its.toArray.isEmpty)=!xs.isEmpty:=by cases r<;>simp
theorem ZfJ:(sizeLine:Nat)<2 ^ 63:=by rw[sizeLine_eq];decide
theorem Zp6:TruR X (λx H Q=>∃k,TruV X.K x H k/\Q k H):=by
 intro Bb s U H x v Q I rx h;obtain⟨k,e,q⟩:=h;have hl:=ZfJ;have hs:sizeLine=16777216:=sizeLine_eq;cases x with
 | non=>
  cases rx;have e':k=false:=e;subst e';exact truthy_none ⟨H,I,q⟩
 | bl b=>
  cases rx;have e':k=b:=e;subst e';exact YCG ⟨H,I,q⟩
 | int i=>
  obtain⟨t,rfl⟩:=rx;have e':k=(i != 0):=e;subst e';exact PySem.P.truthy_int ⟨H,I,q⟩
 | str y=>
  obtain⟨t,rfl⟩:=rx;obtain⟨hy,e'⟩:y.length<=sizeLine/\k=((y.length:Int) != 0):=e;subst e';exact PySem.P.truthy_str (by omega) ⟨H,I.tok _,q⟩
 | byt y=>
  obtain⟨t,rfl⟩:=rx;obtain⟨hy,e'⟩:y.size<=sizeLine/\k=((y.size:Int) != 0):=e;subst e';exact PySem.W.truthy_bytes (by omega) ⟨H,I.tok _,q⟩
 | ref p=>
  cases rx;have e':(∃xs,SqL X.K H p xs/\k=!xs.isEmpty)\/(∃xs,SqT X.K H p xs/\k=!xs.isEmpty)\/∃kvs,H p=some (.dK kvs)/\k=!kvs.isEmpty:=e;rcases e' with⟨xs,hx,e'⟩|⟨xs,hx,e'⟩|⟨kvs,hx,e'⟩
  .subst e';obtain⟨its,r,pl,hz⟩:=I.list hx;have Bd:=r.length;exact wpAny_truthy_list pl.isList (by simp only[YAJ];omega) ⟨H,I.tok _,by rw[Zep r];exact q⟩
  .subst e';obtain⟨its,r,pl,hz⟩:=I.tuple hx;have Bd:=r.length;exact truthy_tuple pl (by simp only[YAJ];omega) ⟨H,I.tok _,by rw[Zep r];exact q⟩
  .subst e';obtain⟨hz,hS,vs,r,m⟩:kvs.length<=sizeLine/\(p == sysModules)=false/\∃vs,KV kvs vs/\s.heap.DictOf (ZaD X.prog X.w) p vs:=I.hok p _ hx;have Bd:kvs.length=vs.length:=Paired.length r;exact wpAny_truthy_dict hS m (by omega) ⟨H,I.tok _,by rw[ZhR r];exact q⟩
 | _=>exact(show False from e).elim
theorem ZhB:OpR X (binaryOp .Add) (λx y H Q=>∃i j,x=.str i/\y=.str j/\i.length+j.length<=sizeLine/\Q (.str (i++j)) H):=by intro Bb s U H x y v u Q I rx ry h;obtain⟨i,j,rfl,rfl,hz,q⟩:=h;obtain⟨t,rfl⟩:=rx;obtain⟨t',rfl⟩:=ry;exact add_str (λt' tk=>⟨.str (i++j),H,I.tok _,⟨_,rfl⟩,q⟩) hz
theorem vals1 (r:Vals [x] us):∃u,us=[u]/\RelV x u:=by
 cases r with
 | cons r1 r2=>cases r2;exact⟨_,rfl,r1⟩
theorem vals2 (r:Vals [x,y] us):∃u w',us=[u,w']/\RelV x u/\RelV y w':=by
 cases r with
 | cons r1 r2=>
  cases r2 with
  | cons r3 r4=>cases r4;exact⟨_,_,rfl,r1,r3⟩
theorem ZjB (hc:X.calm=true):Zb0 X (.builtin "min") (λxs H Q=>∃i j,xs=[.int i,.int j]/\Q (.int (if j<i then j else i)) H):=by
 intro Bb s U H xs us Q I r h;obtain⟨i,j,rfl,q⟩:=h;obtain⟨u,w',rfl,⟨t,rfl⟩,⟨t',rfl⟩⟩:=vals2 r;refine min_two_ints (I.ok.hd hc) λh' tk k=>⟨_,H,I.kept k,?_,q⟩;by_cases hj:j<i
 .rw[YAM hj,YAM hj];exact⟨_,rfl⟩
 .rw[YAI hj,YAI hj];exact⟨_,rfl⟩
def LenV (K:Q4)(x:V)(H:Hp)(n:Nat):Prop:=
 match x with
 | .str y=>y.length<=sizeLine/\n=y.length
 | .byt y=>y.size<=sizeLine/\n=y.size
 | .ref p=>(∃xs,SqL K H p xs/\n=xs.length)\/∃xs,SqT K H p xs/\n=xs.length
 | _=>False
theorem ZkG:Zb0 X (.builtin "len") (λxs H Q=>∃x n,xs=[x]/\LenV X.K x H n/\Q (.int n) H):=by
 intro Bb s U H xs us Q I r h;obtain⟨x,n,rfl,e,q⟩:=h;obtain⟨u,rfl,rx⟩:=vals1 r;have hl:=ZfJ;have hs:sizeLine=16777216:=sizeLine_eq;cases x with
 | str y=>
  obtain⟨t,rfl⟩:=rx;obtain⟨hy,e'⟩:y.length<=sizeLine/\n=y.length:=e;subst e';exact len_str (by omega) ⟨.int _,H,I.tok _,⟨_,rfl⟩,q⟩
 | byt y=>
  obtain⟨t,rfl⟩:=rx;obtain⟨hy,e'⟩:y.size<=sizeLine/\n=y.size:=e;subst e';exact PySem.W.len_bytes (by omega) ⟨.int _,H,I.tok _,⟨_,rfl⟩,q⟩
 | ref p=>
  cases rx;have e':(∃xs,SqL X.K H p xs/\n=xs.length)\/∃xs,SqT X.K H p xs/\n=xs.length:=e;rcases e' with⟨xs,hx,e'⟩|⟨xs,hx,e'⟩
  .subst e';obtain⟨its,r',pl,hz⟩:=I.list hx;have Bd:=r'.length;exact Calls.call_len_list pl.isList (by simp only[YAJ];omega) ⟨.int xs.length,H,I.tok _,⟨_,by simp only[YAJ];rw[Bd]⟩,q⟩
  .subst e';obtain⟨its,r',pl,hz⟩:=I.tuple hx;have Bd:=r'.length;exact len_tuple pl (by simp only[YAJ];omega) ⟨.int xs.length,H,I.tok _,⟨_,by simp only[YAJ];rw[Bd]⟩,q⟩
 | _=>exact(show False from e).elim
end
structure ObjM (h:Heap)(x dx C:AD)(mA:AB):Prop where
 obj:h.get? x=some (PySem.W.instObj C dx)
 ns:h.Ns1 dx mA
 ne:dx≠x
theorem ZdM {h:Heap}{dx:AD}{mA:AB}(n:h.Ns1 dx mA):∃od,h.get? dx=some od/\∀name,PySem.W.lookIn name od=some (mA name):=by
 obtain⟨o,es,ep,ho,hd,hk,_,hm⟩:=n;refine⟨o,ho,λname=>?_⟩;have e:=hm name;unfold nsFind findBy at e;rw[<-Array.find?_toList]at e;unfold PySem.W.lookIn;rw[hd];dsimp only;split
 .rename_i y q
  rw[q]at e;exact congrArg some e
 .rename_i q
  rw[q]at e;have a:es.toList.any (·.refKey)=false:=by rw[List.any_eq_false];intro y hy;obtain⟨z,t,hkey⟩:=hk y (Array.mem_toList_iff.mp hy);simp[DictEntry.refKey,hkey]
  have a':¬es.toList.any (·.refKey)=true:=by rw[a];exact YAC
  rw[YAI a'];exact congrArg some e
theorem ObjM.look (I:ObjM h x dx C mA):∃od,PySem.W.InstAt h x (PySem.W.instObj C dx) C (some od)/\∀name,PySem.W.lookIn name od=some (mA name):=
 let ⟨od,ho,hl⟩:=ZdM I.ns
 ⟨od,⟨I.obj,rfl,rfl,ho⟩,hl⟩
section
variable {prog:AG}{w:AI}{A:AH}{E:Q33}{s:AE}{K:Q4}{x dx C f:AD}{mA:AB}{name:Str}{v:Value}
theorem Zmt (X:K.In s.heap)(I:ObjM s.heap x dx C mA)(hg:PySem.W.plainGet K C name=true)(hh:PySem.W.hasDictIn K C=true)
  (ha:PySem.W.findIn K (.ref C) name=some none) (hv:mA name=some v) (hv':PySem.W.handedIn v=true) (h:Q v { s with toks:=s.toks+1 }):
  wpAny (model prog w) A (getAttr (.ref x) name expr) Q E s:=by
 obtain⟨od,J,hl⟩:=I.look;exact PySem.W.get_value X J (PySem.W.plainGet_of hg).1 (PySem.W.findObj_own hh ha rfl (by rw[hl,hv])) hv' h
theorem Zks (X:K.In s.heap)(I:ObjM s.heap x dx C mA)(hg:PySem.W.plainGet K C name=true)
  (hf:PySem.W.findIn K (.ref C) name=some (some (.ref f))) (ht:PySem.W.isFn K (.ref f)=true) (hv:mA name=none) (h:Q (.ref f,[.ref x]) s):
  wpAny (model prog w) A (getMethod (.ref x) name pl) Q E s:=by
 obtain⟨od,J,hl⟩:=I.look;exact PySem.W.method_fn X J (PySem.W.plainGet_of hg).1 (PySem.W.plainGet_of hg).2 hf (beq_iff_eq.mp ht) (by show (PySem.W.lookIn name od).map (·.isSome)=some false;rw[hl,hv];rfl) h
theorem ZlD (X:K.In s.heap)(I:ObjM s.heap x dx C mA)
  (hs:PySem.W.findIn K (.ref C) "__setattr__"=some (some (.builtin "object.__setattr__"))) (hp:PySem.W.plainOver K C=true) (ht:PySem.W.takerIn K C name=some none) (hh:PySem.W.hasDictIn K C=true)
  (hw:PySem.Within mA ns) (hsz:ns.length<=sizeLine)
  (h:∀h',ObjM h' x dx C (λy=>if y=name then some v else mA y)->Heap.SameBut dx s.heap h'->Q () { s with heap:=h',toks:=s.toks+2 }):
  wpAny (model prog w) A (setAttr (.ref x) name v) Q E s:=by
 obtain⟨od,J,hl⟩:=I.look;refine PySem.W.set_plain X J hs (PySem.W.osa_open (s:={ s with toks:=s.toks+1 }) (r:=none) X J hp ht λb=>?_);obtain⟨cd,hc,hd'⟩:=YCO hh;have hx:s.heap.get? x=some ⟨.ref C,some dx,.plain,#[]⟩:=I.obj;refine YAA (YAF (YAA (YAA (wpAny_loadPart hx (YAA (PySem.W.Looks.here (s:={ s with toks:=s.toks+1 }) (PySem.W.looks_clsIn X hc) ?_))))));rw[hd'];refine YAF (a:=some dx) (YAA (YAF (YAA ?_)));refine wpAny_nsSet1 (s:={ s with toks:=s.toks+1 }) I.ns λh' hn2 hs2=>?_;obtain⟨oD,esD,epD,hoD,hdD,hcD⟩:=hn2.count (PySem.Within.cons name v hw);refine YAA (wpAny_lookBehind hoD (by rw[hdD];exact pastItsLine_dict (YAK hcD (by rw[YAl];omega))) ?_);exact YAF (h _ ⟨(hs2.2 _ (YAh I.ne)).trans I.obj,hn2,I.ne⟩ hs2)
theorem Zg8 (X:K.In s.heap)(hm:PySem.W.makesIn K C=true)
  (hi:PySem.W.findIn K (.ref C) "__init__"=some (some (.ref f))) (hf:PySem.W.typeIn K (.ref f)=some (.type "function"))
  (h:codeAny (model prog w) (A.under (.builtin "type.__call__" ⟨.ref C::vs,kw⟩)) (.call (.ref f) ⟨.ref (s.heap.objs.size+1)::vs,kw⟩) (PySem.W.InitBack (s.heap.objs.size+1) R)
   { s with heap:=(s.heap.push PySem.W.emptyDict).push (PySem.W.instObj C s.heap.objs.size) }):
  codeAny (model prog w) A (.call (.ref C) ⟨vs,kw⟩) R s:=by
 obtain⟨hh,g,d,t,os⟩:=s;exact PySem.W.make_core (PySem.W.makes_of X hm) (YBj X hi) (λself=>PySem.W.bind_fn X self hf) (.inl rfl) h
end
def putF (f:Str)(v:V):List (Str×V)->List (Str×V)
 | []=>[(f,v)]
 | (g,x)::r=>if g=f then (g,v)::r else (g,x)::putF f v r
theorem Zam (f g:Str)(v:V):∀fs:List (Str×V),(putF f v fs).lookup g=if g=f then some v else fs.lookup g
 | []=>by
  show List.lookup g [(f,v)]=_;by_cases h:g=f
  .have hb:(g == f)=true:=beq_iff_eq.mpr h;simp only[List.lookup,hb,YAM h]
  .have hb:(g == f)=false:=beq_eq_false_iff_ne.mpr h;simp only[List.lookup,hb,YAI h]
 | (k,x)::r=>by
  have ih:=Zam f g v r;rw[show putF f v ((k,x)::r)=(if k=f then (k,v)::r else (k,x)::putF f v r) from rfl];by_cases hk:k=f
  .rw[YAM hk];by_cases h:g=k
   .have hb:(g == k)=true:=beq_iff_eq.mpr h;simp only[List.lookup,hb,YAM (h.trans hk)]
   .have hb:(g == k)=false:=beq_eq_false_iff_ne.mpr h;simp only[List.lookup,hb,YAI (λe:g=f=>h (e.trans hk.symm))]
  .rw[YAI hk];by_cases h:g=k
   .have hb:(g == k)=true:=beq_iff_eq.mpr h;simp only[List.lookup,hb,YAI (λe:g=f=>hk (h.symm.trans e))]
   .have hb:(g == k)=false:=beq_eq_false_iff_ne.mpr h;simp only[List.lookup,hb];exact ih
theorem Zcc (f:Str)(v:V):∀fs:List (Str×V),f∈(putF f v fs).map (·.1)/\∀g,g∈fs.map (·.1)->g∈(putF f v fs).map (·.1)
 | []=>⟨by simp[putF],λg h=>by simp at h⟩
 | (k,x)::r=>by
  obtain⟨i1,i2⟩:=Zcc f v r;rw[show putF f v ((k,x)::r)=(if k=f then (k,v)::r else (k,x)::putF f v r) from rfl];by_cases hk:k=f
  .rw[YAM hk];subst hk;exact⟨by simp,λg h=>by simpa using h⟩
  .rw[YAI hk];refine⟨?_,λg h=>?_⟩
   .rw[YAc];exact YAX _ i1
   .rw[YAc]at h ⊢;rcases YAE.mp h with e | e
    .exact YAE.mpr (.inl e)
    .exact YAX _ (i2 g e)
theorem Zcw (f:Str)(v:V):∀fs:List (Str×V),(putF f v fs).length<=fs.length+1
 | []=>by simp[putF]
 | (k,x)::r=>by
  have ih:=Zcw f v r;rw[show putF f v ((k,x)::r)=(if k=f then (k,v)::r else (k,x)::putF f v r) from rfl];by_cases hk:k=f
  .rw[YAM hk,YAl,YAl];omega
  .rw[YAI hk,YAl,YAl];omega
theorem RelO.some_of (r:RelO (some v) o):∃u,o=some u/\RelV v u:=by
 cases o with
 | none=>exact(show False from r).elim
 | some u=>exact⟨u,rfl,r⟩
theorem RelO.none_of (r:RelO none o):o=none:=by
 cases o with
 | none=>rfl
 | some u=>exact(show False from r).elim
theorem ZfU (r:RelV v u):PySem.W.handedIn u=true:=by
 cases v with
 | non=>cases (show u=Value.none from r);rfl
 | bl b=>cases (show u=Value.bool b from r);rfl
 | int i=>obtain⟨t,e⟩:=(show ∃t,u=Value.int i t from r);cases e;rfl
 | str x=>obtain⟨t,e⟩:=(show ∃t,u=Value.str x t from r);cases e;rfl
 | byt b=>obtain⟨t,e⟩:=(show ∃t,u=Value.bytes b t from r);cases e;rfl
 | flt b=>obtain⟨t,e⟩:=(show ∃t,u=Value.float b t from r);cases e;rfl
 | ref a=>cases (show u=Value.ref a from r);rfl
 | ty n=>cases (show u=Value.type n from r);rfl
section
theorem ZeY (hok:HOk P w H h)(e:H a=some (.ins C dx fs)):∃mA,ObjM h a dx C mA/\(∀f,RelO (fs.lookup f) (mA f))/\PySem.Within mA (fs.map (·.1))/\fs.length<=1000/\H dx=some (.own a):=by obtain⟨d,z,ne,ob,mA,n,r,q⟩:=(show ObjOk P w H h a (.ins C dx fs) from hok a _ e);exact⟨mA,⟨ob,n,ne⟩,r,q,z,d⟩
end
structure Cls (K:Q4)(C:AD):Prop where
 pg:PySem.W.plainGet K C Str.empty=true
 hd:PySem.W.hasDictIn K C=true
 po:PySem.W.plainOver K C=true
 sa:PySem.W.findIn K (.ref C) "__setattr__"=some (some (.builtin "object.__setattr__"))
theorem Cls.get {K:Q4}{C:AD}(c:Cls K C)(f:Str):PySem.W.plainGet K C f=true:=c.pg
def NoAttr (K:Q4)(C:AD)(f:Str):Prop:=PySem.W.findIn K (.ref C) f=some none
theorem NoAttr.taker {K:Q4}{C:AD}{f:Str}(n:NoAttr K C f):PySem.W.takerIn K C f=some none:=by unfold PySem.W.takerIn;rw[show PySem.W.findIn K (.ref C) f=some none from n];rfl
structure Meth (K:Q4)(C:AD)(m:Str)(f:AD):Prop where
 at_:PySem.W.findIn K (.ref C) m=some (some (.ref f))
 fn:PySem.W.isFn K (.ref f)=true
 kp:PySem.W.keepIn K (.ref f)=true
section
theorem ZhS (I:Inv X Bb U H s)(e:H a=some (.ins C dx fs))(c:Cls X.K C)(n:NoAttr X.K C f)(l:fs.lookup f=some v)
  (h:∀u s',Inv X Bb U H s'->RelV v u->Q u s'):wpAny (model X.prog X.w) A (getAttr (.ref a) f b) Q E s:=by
 obtain⟨mA,O,r,_,_,_⟩:=ZeY I.hok e;obtain⟨u,hu,ru⟩:=RelO.some_of (v:=v) (o:=mA f) (by rw[<-l];exact r f);exact Zmt I.kIn O (c.get f) c.hd n hu (ZfU ru) (h u _ (I.tok _) ru)
theorem Zcn (I:Inv X Bb U H s)(e:H a=some (.ins C dx fs))(c:Cls X.K C)(k:Meth X.K C m g)(l:fs.lookup m=none)
  (h:Q (.ref g,[.ref a]) s):wpAny (model X.prog X.w) A (getMethod (.ref a) m pl) Q E s:=by
 obtain⟨mA,O,r,_,_,_⟩:=ZeY I.hok e;have hn:mA m=none:=RelO.none_of (by rw[<-l];exact r m);exact Zks I.kIn O (c.get m) k.at_ k.fn hn h
theorem Zhw (I:Inv X Bb U H s)(e:H a=some (.ins C dx fs))(c:Cls X.K C)(n:NoAttr X.K C f)(hl:fs.length<1000)(ry:RelV y u)
  (h:∀s',Inv X Bb U (upd H a (.ins C dx (putF f y fs))) s'->Q () s'):wpAny (model X.prog X.w) A (setAttr (.ref a) f u) Q E s:=by
 obtain⟨mA,O,r,wi,_,ho⟩:=ZeY I.hok e;have hz:(fs.map (·.1)).length<=sizeLine:=by rw[YAD,sizeLine_eq];omega
 refine ZlD I.kIn O c.sa c.po n.taker c.hd wi hz λh' O' sb=>h _ ?_;have hd:∃o,h'.get? dx=some o:=let ⟨o,_,_,e',_⟩:=O'.ns;⟨o,e'⟩;refine I.write (x:=a) (e:=dx) (by rw[e];exact True.intro) (.inr ho) (λb q hb z=>(sb.2 b hb).trans z) hd ?_;refine⟨by rw[Zai O.ne];exact ho,?_,O.ne,O'.obj,_,O'.ns,λg=>?_,λg hg=>?_⟩
 .have:=Zcw f y fs;omega
 .show RelO ((putF f y fs).lookup g) (if g=f then some u else mA g);rw[Zam];by_cases q:g=f
  .rw[YAM q,YAM q];exact ry
  .rw[YAI q,YAI q];exact r g
 .by_cases q:g=f
  .rw[q];exact(Zcc f y fs).1
  .refine(Zcc f y fs).2 g (wi g λz=>hg ?_);show (if g=f then some u else mA g)=none;rw[YAI q];exact z
theorem Inv.made (I:Inv X Bb U H s):Inv X Bb U (upd (upd H s.heap.objs.size (.own (s.heap.objs.size+1))) (s.heap.objs.size+1) (.ins C s.heap.objs.size []))
  { s with heap:=(s.heap.push PySem.W.emptyDict).push (PySem.W.instObj C s.heap.objs.size) }:=by
 have e1:(s.heap.push PySem.W.emptyDict).get? s.heap.objs.size=some PySem.W.emptyDict:=YAQ s.heap rfl;have e2:((s.heap.push PySem.W.emptyDict).push (PySem.W.instObj C s.heap.objs.size)).get? (s.heap.objs.size+1)=some (PySem.W.instObj C s.heap.objs.size):=by
  have:=YAQ (s.heap.push PySem.W.emptyDict) (o:=PySem.W.instObj C s.heap.objs.size) rfl
  rwa [YBW]at this
 have e3:(s.heap.push PySem.W.emptyDict).Ns s.heap.objs.size (λ_=>none):=⟨PySem.W.emptyDict,#[],_,e1,rfl,(λe he=>absurd he (by simp)),λ_=>rfl⟩;have I1:=I.laid (a:=s.heap.objs.size) (o:=.own (s.heap.objs.size+1)) (h':=s.heap.push PySem.W.emptyDict) (t':=s.toks) (λb u q=>YAB _ q) (YAS _) ⟨_,e1⟩;refine I1.laid (a:=s.heap.objs.size+1) (o:=.ins C s.heap.objs.size []) (t':=s.toks) (λb u q=>YAB _ q) (YCC (YBW _ _)) ?_;have ne:s.heap.objs.size≠s.heap.objs.size+1:=YAf (Nat.lt_succ_self _);refine⟨by rw[Zai ne,Zag],YAx _,ne,e2,λ_=>none,(Heap.Ns1.of_empty e3).at λo q=>YAB _ q,λ_=>True.intro,λy hy=>absurd rfl hy⟩
theorem ZjH (hb:attributeBase e f env (eval e env)=eval e env)
  (h:wpAny (model prog w) A (eval e env) (λo s_1=>wpAny (model prog w) A (getAttr o f true) Q E s_1) E s):wpAny (model prog w) A (eval (.Attribute e f pos) env) Q E s:=
 Attribute_any_ h (by rw[arm_eval_Attribute,hb])
end
def tFld (K:Q4)(ta:TE)(f:Str):TE:=λU H Q=>ta U H λx H1=>∃a C dx fs v,x=.ref a/\H1 a=some (.ins C dx fs)/\Cls K C/\NoAttr K C f/\fs.lookup f=some v/\Q v H1
def sFld (K:Q4)(ta tv:TE)(f:Str):TS:=λD U H=>tv U H λy H1=>ta U H1 λx H2=>∃a C dx fs,x=.ref a/\H2 a=some (.ins C dx fs)/\Cls K C/\NoAttr K C f/\fs.length<1000 /\
 D.nx U (upd H2 a (.ins C dx (putF f y fs)))
section
theorem Zno (he:PE X e ta)(hb:attributeBase e f X.env (eval e X.env)=eval e X.env):PE X (.Attribute e f pos) (tFld X.K ta f):=by intro Bb s U H Q I h;refine ZjH hb (thn (he Bb s U H _ I h) λu s1 zz=>?_);obtain⟨x,H1,I1,rx,a,C,dx,fs,v,ex,ea,c,n,l,q⟩:=zz;subst ex;obtain rfl:u=Value.ref a:=rx;exact ZhS I1 ea c n l λu' s2 I2 ru=>⟨v,H1,I2,ru,q⟩
theorem Zb9 (ha:PE X o ta)(hv:PE X value tv)(hs:swapsWith value (some (.Attribute o f pos')) pos.line X.env=pure false):PS X (.Assign [.Attribute o f pos'] value pos) (sFld X.K ta tv f):=by intro Bb s U H D I h;refine plainObj_wpAny_Assign_Attribute (thn (hv Bb s U H _ I h) λu s1 ⟨y,H1,I1,ry,q⟩=>thn (ha Bb s1 U H1 _ I1 q) λov s2 zz=>?_) hs;obtain⟨x,H2,I2,rx,a,C,dx,fs,ex,ea,c,n,l,q2⟩:=zz;subst ex;obtain rfl:ov=Value.ref a:=rx;exact Zhw I2 ea c n l ry λs3 I3=>⟨U,_,I3,q2⟩
theorem Zma (he:PE X e te)(I:Inv X Bb U H s)
  (h:te U H λx H1=>∃a C dx fs g,x=.ref a/\H1 a=some (.ins C dx fs)/\Cls X.K C/\Meth X.K C m g/\fs.lookup m=none /\
   ∀s1,Inv X Bb U H1 s1->wpAny (model X.prog X.w) X.A (callWith pos (.ref g) [.ref a] (backTo pos (starEach args X.env)) (backToKw pos (keywordEach [] X.env))) Q X.xe s1)
  (ht:eval (.Call (.Attribute e m Bg) args [] pos) X.env=(do
   let ov <-eval e X.env
   standAt Bg.atName
   let (f,first) <-holding [ov] (getMethod ov m pl)
   callWith pos f first (backTo pos (starEach args X.env)) (backToKw pos (keywordEach [] X.env)))):
  wpAny (model X.prog X.w) X.A (eval (.Call (.Attribute e m Bg) args [] pos) X.env) Q X.xe s:=by
 refine YCB (pl:=pl) (thn (he Bb s U H _ I h) λu s1 zz=>?_) ht;obtain⟨x,H1,I1,rx,a,C,dx,fs,g,ex,ea,c,k,l,q⟩:=zz;subst ex;obtain rfl:u=Value.ref a:=rx;exact Zcn I1 ea c k l (q s1 I1)
end
section
inductive TyOf (K:Q4) (H:Hp):V->Value->Prop where
 | non:TyOf K H .non (.type "NoneType")
 | bl (x:Bool):TyOf K H (.bl x) (.type "bool")
 | int (i:Int):TyOf K H (.int i) (.type "int")
 | str (x:Str):TyOf K H (.str x) (.type "str")
 | flt (x:UInt64):TyOf K H (.flt x) (.type "float")
 | lst {a:AD} {xs:List V} (e:H a=some (.lst xs)):TyOf K H (.ref a) (.type "list")
 | frz {a:AD} {o:Obj} {xs:List V} (e:H a=some (.frz o (.lst xs))):TyOf K H (.ref a) (.type "list")
 | tup {a:AD} {xs:List V} (e:H a=some (.tup xs)):TyOf K H (.ref a) (.type "tuple")
 | dK {a:AD} {kvs:List (Key×V)} (e:H a=some (.dK kvs)):TyOf K H (.ref a) (.type "dict")
 | dT {a:AD} {kvs:List (List Key×V)} (e:H a=some (.dT kvs)):TyOf K H (.ref a) (.type "dict")
 | ins {a C dx:AD} {fs:List (Str×V)} (e:H a=some (.ins C dx fs)) (cl:Cls K C) (ha:PySem.W.findIn K (.ref C) "__class__"=some (some (.builtin "object.__class__")))
   (hn:PySem.W.specialIn K (.builtin "object.__class__") "__get__"=some (some (.builtin "getset_descriptor.__get__"))) (htk:PySem.W.takesIn K (.builtin "object.__class__")=some true)
   (hm:PySem.W.mroIn K C (.type "object")=some true):TyOf K H (.ref a) (.ref C)
theorem Zjh (I:Inv X Bb U H s)(rx:RelV x u)(ty:TyOf X.K H x t)(e:PySem.W.kitOne X.K t c=some b)(h:∀tk,Q (.bool b) { s with toks:=tk }):
  wpAny (model X.prog X.w) A (call (.builtin "isinstance") [u,c]) Q E s:=by
 cases ty with
 | non=>cases (show u=Value.none from rx);exact YBM PySem.W.kitx_none I.kIn True.intro e (λz=>nomatch z) h
 | bl y=>cases (show u=Value.bool y from rx);exact YBM PySem.W.kitx_bool I.kIn True.intro e (λz=>nomatch z) h
 | int i=>obtain⟨t,q⟩:=(show ∃t,u=Value.int i t from rx);cases q;exact YBM PySem.W.kitx_int I.kIn True.intro e (λz=>nomatch z) h
 | str y=>obtain⟨t,q⟩:=(show ∃t,u=Value.str y t from rx);cases q;exact YBM PySem.W.kitx_str I.kIn True.intro e (λz=>nomatch z) h
 | flt y=>obtain⟨t,q⟩:=(show ∃t,u=Value.float y t from rx);cases q;exact YBM PySem.W.kitx_float I.kIn True.intro e (λz=>nomatch z) h
 | @lst a xs ea=>
  cases (show u=Value.ref a from rx);obtain⟨_,_,n,_,h1⟩:=(show ObjOk X.prog X.w H s.heap a (.lst xs) from I.hok a _ ea);exact YBM PySem.W.kitx_list I.kIn ⟨_,h1,rfl⟩ e (λz=>nomatch z) h
 | @frz a ob xs ea=>
  cases (show u=Value.ref a from rx);obtain⟨_,_,_,n,_,h1⟩:=(show ObjOk X.prog X.w H s.heap a (.frz ob (.lst xs)) from I.hok a _ ea);exact YBM PySem.W.kitx_list I.kIn ⟨_,h1,rfl⟩ e (λz=>nomatch z) h
 | @tup a xs ea=>
  cases (show u=Value.ref a from rx);obtain⟨_,_,_,p⟩:=(show ObjOk X.prog X.w H s.heap a (.tup xs) from I.hok a _ ea);obtain⟨o,h1,h2,_⟩:=p;exact YBM PySem.W.kitx_tuple I.kIn ⟨o,h1,h2⟩ e (λz=>nomatch z) h
 | @dK a kvs ea=>
  cases (show u=Value.ref a from rx);obtain⟨_,_,vs,_,p⟩:=(show ObjOk X.prog X.w H s.heap a (.dK kvs) from I.hok a _ ea);obtain⟨o,es,ep,h1,h2,_⟩:=p;exact YBM PySem.W.kitx_dict I.kIn ⟨o,h1,h2.1⟩ e (λz=>nomatch z) h
 | @dT a kvs ea=>
  cases (show u=Value.ref a from rx);obtain⟨_,_,xs,_,o,es,ep,h1,h2,_⟩:=(show ObjOk X.prog X.w H s.heap a (.dT kvs) from I.hok a _ ea);exact YBM PySem.W.kitx_dict I.kIn ⟨o,h1,h2.1⟩ e (λz=>nomatch z) h
 | @ins a C dx fs ea cl ha hn htk hm=>
  cases (show u=Value.ref a from rx);obtain⟨mA,O,_⟩:=ZeY I.hok ea;obtain⟨od,J,_⟩:=O.look;exact YBM (PySem.W.kitx_own (cl.get _) cl.hd ha hn htk hm) I.kIn J e (λz=>nomatch z) h
end
structure Room (k:Nat)(A:AH):Prop where
 hd:A.handled=none
 dp:A.depth+3*k+5<recursionLimit
 un:A.units+16*k+200<cLine
theorem Room.mono (r:Room k A)(h:j<=k):Room j A:=⟨r.hd,by have:=r.dp;omega,by have:=r.un;omega⟩
theorem Room.deeper (r:Room (k+1) A)(env:Env):Room k (A.deeper env):=
 ⟨r.hd,by have:=r.dp;show A.depth+1+3*k+5<_;omega,by have:=r.un;show A.units+3+16*k+200<_;omega⟩
theorem ZhK {A:AH}{C:AD}{us:AC}{kw:List (Str×Value)}:(A.under (.builtin "type.__call__" ⟨.ref C::us,kw⟩)).depth=A.depth+1:=by
 first | rfl | simp[Around.under,Code.weight,Code.isCreation,Code.isGuard,Code.isCaller,Code.frames,Code.isFrame,guardIds]
theorem ZhJ {A:AH}{C:AD}{us:AC}{kw:List (Str×Value)}:(A.under (.builtin "type.__call__" ⟨.ref C::us,kw⟩)).units=A.units+1:=by
 first | rfl | simp[Around.under,Code.cUnits,Code.frames,Code.isFrame]
theorem Room.make (r:Room (k+1) A)(C:AD)(us:AC)(kw:List (Str×Value)):Room k (A.under (.builtin "type.__call__" ⟨.ref C::us,kw⟩)):=
 ⟨r.hd,by have:=r.dp;rw[ZhK];omega,by have:=r.un;rw[ZhJ];omega⟩
theorem Room.depth (r:Room k A):A.depth<recursionLimit:=by have:=r.dp;omega
theorem Room.units (r:Room k A):A.units+64<cLine:=by have:=r.un;omega
def tNil:TA:=λ_ H Q=>Q [] H
def ZjQ (ta:TE)(tr:TA):TA:=λU H Q=>ta U H λx H1=>tr U H1 λxs H2=>Q (x::xs) H2
section
theorem Zac:PA X [] tNil:=λ_ _ _ _ H Q I h=>Calls.spliced_nil ⟨[],H,I,.nil,h⟩
theorem Zaa (ha:PE X e te)(hr:PA X es t)(hs:starEach (e::es) X.env=(false,eval e X.env)::starEach es X.env:=by rfl):PA X (e::es) (ZjQ te t):=by intro pos Bb s U H Q I h;rw[hs];show wpAny _ _ (spliced ((false,eval e X.env)::backTo pos (starEach es X.env))) _ _ s;refine YCu (thn (ha Bb s U H _ I h) λu s1 zz=>?_);obtain⟨x,H1,I1,r1,q1⟩:=zz;exact thn (hr pos Bb s1 U H1 _ I1 q1) λus s2 ⟨xs,H2,I2,r2,q2⟩=>⟨x::xs,H2,I2,.cons r1 r2,q2⟩
def tTup (t:TA):TE:=λU H Q=>t U H λxs H1=>xs.length<=sizeLine/\∀p,H1 p=none->Q (.ref p) (upd H1 p (.tup xs))
def tLst (t:TA):TE:=λU H Q=>t U H λxs H1=>xs.length<=sizeLine/\∀p,H1 p=none->Q (.ref p) (upd H1 p (.lst xs))
theorem Zcb {x1}(h:PA X es t):PE X (.Tuple es x1 pos) (tTup t):=by intro Bb s U H Q I hq;refine wpAny_Tuple_spliced (thn (h pos Bb s U H _ I hq) λus s1 ⟨xs,H1,I1,r,z,q⟩=>⟨by rw[<-r.length];exact z,?_⟩);have hf:H1 s1.heap.objs.size=none:=I1.hok.fresh (YAS _);refine⟨.ref s1.heap.objs.size,upd H1 s1.heap.objs.size (.tup xs),I1.laid (t':=s1.toks) (λb u e=>YAB _ e) (YAS _) ?_,rfl,q _ hf⟩;exact⟨z,us,r,⟨_,YAQ _ rfl,rfl,_,rfl⟩⟩
theorem Zbm (h:PA X es t):PE X (.List es pos) (tLst t):=by intro Bb s U H Q I hq;refine wpAny_List_spliced (thn (h pos Bb s U H _ I hq) λus s1 ⟨xs,H1,I1,r,z,q⟩=>⟨by rw[<-r.length];exact z,?_⟩);have hf:H1 s1.heap.objs.size=none:=I1.hok.fresh (YAS _);refine⟨.ref s1.heap.objs.size,upd H1 s1.heap.objs.size (.lst xs),I1.laid (t':=s1.toks) (λb u e=>YAB _ e) (YAS _) ?_,rfl,q _ hf⟩;exact⟨z,us,0,r,YAQ _ rfl⟩
end
abbrev Sp:=List V->Hp->VK->XK->Prop
abbrev CXT:=List Env->Hp->AE->XK->Value->AE->Prop
structure Env0 (P:AG)(w:AI)(K:Q4)(mg:AB)(base:Heap)(A:AH)(outer:List Env)(s:AE)(H:Hp):Prop where
 frames:A.frames=some outer
 mod:Mod K mg base
 bs:∀b o,base.get? b=some o->s.heap.get? b=some o/\H b=none
 bsz:base.objs.size<=s.heap.objs.size
 funs:s.heap.FunFrames base outer
 frf:∀b∈frs outer,H b=none
 hok:HOk P w H s.heap
 bare:AllBare s.gens
def CE (outer:List Env)(P:AG)(w:AI)(H:Hp)(s:AE)(Q:VK)(u:Value)(s':AE):Prop:=
 ∃v H',s'.os=s.os/\AllBare s'.gens/\Un (frs outer) [] H H' s.heap s'.heap/\HOk P w H' s'.heap/\RelV v u/\Q v H'
def CR (CX:CXT)(outer:List Env)(P:AG)(w:AI)(H:Hp)(s:AE)(Q:VK)(E:XK)(r:Result)(s':AE):Prop:=
 match r with
 | .ok (.ret u)=>CE outer P w H s Q u s'
 | .ok _=>False
 | .error e=>CX outer H s E e s'
structure FnOk (P:AG)(w:AI)(K:Q4)(mg:AB)(base:Heap)(CX:CXT)(k:Nat)(f:AD)(fd:AF)(ps:AJ)(sp:Sp):Prop where
 len:∀vs H Q E,sp vs H Q E->vs.length=ps.length
 run:∀(A:AH) (outer:List Env) (s:AE) (H:Hp) (args:Args) (us:AC) (vs:List V) (Q:VK) (E:XK),Room k A->Env0 P w K mg base A outer s H->BindsTo s fd args (ps.zip us)->Vals vs us->sp vs H Q E ->
  codeAny (model P w) A (.call (.ref f) args) (CR CX outer P w H s Q E) s
theorem Env0.make {P:AG}{w:AI}{K:Q4}{mg:AB}{base:Heap}{A:AH}{outer:List Env}{s:AE}{H:Hp}(e:Env0 P w K mg base A outer s H)(C:AD)(us:AC)(kw:List (Str×Value)):
  Env0 P w K mg base (A.under (.builtin "type.__call__" ⟨.ref C::us,kw⟩)) outer s H:=⟨by first | exact e.frames | (simpa [Around.under,Code.envs,Code.isFrame,pushEnvs] using e.frames),e.mod,e.bs,e.bsz,e.funs,e.frf,e.hok,e.bare⟩
section
theorem Inv.env0 (I:Inv X Bb U H s):Env0 X.prog X.w X.K X.mg X.base X.A X.stack s H:=
 ⟨I.ok.frames,I.ok.mod,I.bs,YAK I.ok.bsz I.sz,I.stack,I.stkFree,I.hok,I.bare⟩
theorem Inv.after (I:Inv X Bb U H s)(h:CE X.stack X.prog X.w H s Q u s'):EP X Bb U Q u s':=by obtain⟨v,H',os,bare,un,hok,r,q⟩:=h;obtain⟨hh,g,d,t,os'⟩:=s';obtain rfl:os'=s.os:=os;exact⟨v,H',I.call (h':=hh) (g':=g) (d':=d) (t':=t) (ch:=[]) un hok bare (λb z=>absurd z (by simp)),r,q⟩
end
def Zly (sp:Sp)(Bk:List V)(E:XK)(t:TA):TE:=λU H Q=>t U H λvs H1=>sp (vs++Bk) H1 Q E
def Zlv (C:AD)(m:Str)(sp:Sp)(Bk:List V)(E:XK)(ta:TE)(t:TA):TE:=λU H Q=>ta U H λx H1=>∃a dx fs,x=.ref a/\H1 a=some (.ins C dx fs)/\fs.lookup m=none /\
 t U H1 λvs H2=>sp (x::(vs++Bk)) H2 Q E
def ZmT (C:AD)(sp:Sp)(Bk:List V)(E:XK)(t:TA):TE:=λU H Q=>t U H λvs H1=>∀x dx,H1 x=none->H1 dx=none->dx≠x ->
 sp (.ref x::(vs++Bk)) (upd (upd H1 dx (.own x)) x (.ins C dx [])) (λv H2=>v=.non/\Q (.ref x) H2) E
def Binds (K:Q4)(fd:AF)(ps:AJ)(ds:AC):Prop:=
 ∀(s:AE) (us:AC),K.In s.heap->(us++ds).length=ps.length->BindsTo s fd ⟨us,[]⟩ (ps.zip (us++ds))
theorem Binds.all {K:Q4}{fd:AF}{ps:AJ}(h:∀us:AC,us.length=ps.length->bindArgs fd ⟨us,[]⟩=pure (ps.zip us)):Binds K fd ps []:=λs us _ hl=>by rw[YDN]at hl ⊢;exact .of_eq (h us hl)
def Zb1 (CX:CXT)(X:Cx)(E:XK):Prop:=∀(Bb:AA) (U:St) (H:Hp) (s:AE) (e:Value) (s':AE),Inv X Bb U H s->CX X.stack H s E e s'->X.xe e s'
section
theorem ZgU (F:FnOk X.prog X.w X.K X.mg X.base CX k f fd ps sp)(hr:Room k X.A)(hb:Binds X.K fd ps ds)(hd:Vals Bk ds)(hx:Zb1 CX X E)
  (I:Inv X Bb U H s) (r:Vals vs us) (h:sp (vs++Bk) H Q E):wpAny (model X.prog X.w) X.A (call (.ref f) us) (EP X Bb U Q) X.xe s:=by
 have r2:Vals (vs++Bk) (us++ds):=r.append hd;have hl:(us++ds).length=ps.length:=by rw[<-r2.length];exact F.len _ _ _ _ h
 refine YCI (codeAny_mono (F.run X.A X.stack s H ⟨us,[]⟩ (us++ds) (vs++Bk) Q E hr I.env0 (hb s us I.kIn hl) r2 h) λr s' hq=>?_);cases r with
 | error e=>exact hx Bb U H s e s' I hq
 | ok fl=>
  cases fl with
  | ret u=>exact I.after hq
  | next=>exact False.elim hq
  | brk=>exact False.elim hq
  | cont=>exact False.elim hq
theorem Zal (F:FnOk X.prog X.w X.K X.mg X.base CX k f fd ps sp)(hr:Room k X.A)(hg:Gl X x)(hm:X.mg x=some (.ref f))(hk:PySem.W.keepIn X.K (.ref f)=true)(hb:Binds X.K fd ps ds)(hd:Vals Bk ds)(hx:Zb1 CX X E)
  (ha:PA X (e::es) t) (hdb:(x == ("__debug__":Str))=false:=by decide) (he:starEach (e::es) X.env=(false,eval e X.env)::starEach es X.env:=by rfl) (hpl:(backTo pos (starEach es X.env)).any (·.1)=false:=by rfl):
  PE X (.Call (.Name x p) (e::es) [] pos) (Zly sp Bk E t):=by
 intro Bb s U H Q I h;refine YBg (ZbW I hg hm ?_ hdb);refine YBo (h₀:=X.base) I.ok.mod.kin hk (thn (ha pos Bb s U H _ I h) λus s1 ⟨vs,H1,I1,r,q⟩=>⟨I1.kIn,?_⟩) he hpl;exact ZgU F hr hb hd hx I1 r q
theorem ZaB (he:PE X o ta)(c:Cls X.K C)(hm:Meth X.K C m f)(F:FnOk X.prog X.w X.K X.mg X.base CX k f fd ps sp)(hr:Room k X.A)(hb:Binds X.K fd ps ds)(hd:Vals Bk ds)(hx:Zb1 CX X E)(ha:PA X (e::es) t)
  (hst:starEach (e::es) X.env=(false,eval e X.env)::starEach es X.env:=by rfl) (hpl:(backTo pos (starEach es X.env)).any (·.1)=false:=by rfl)
  (ht:eval (.Call (.Attribute o m Bg) (e::es) [] pos) X.env=(do
   let ov <-eval o X.env
   standAt Bg.atName
   let (f,first) <-holding [ov] (getMethod ov m pl)
   callWith pos f first (backTo pos (starEach (e::es) X.env)) (backToKw pos (keywordEach [] X.env))):=by rfl):
  PE X (.Call (.Attribute o m Bg) (e::es) [] pos) (Zlv C m sp Bk E ta t):=by
 intro Bb s U H Q I h;refine YCB (pl:=pl) (thn (he Bb s U H _ I h) λu s1 zz=>?_) ht;obtain⟨x,H1,I1,rx,a,dx,fs,ex,ea,l,q⟩:=zz;subst ex;obtain rfl:u=Value.ref a:=rx;refine Zcn I1 ea c hm l ?_;refine YBo (first:=[.ref a]) (h₀:=X.base) I.ok.mod.kin hm.kp (thn (ha pos Bb s1 U H1 _ I1 q) λus s2 ⟨vs,H2,I2,r,q2⟩=>⟨I2.kIn,?_⟩) hst hpl;exact ZgU (us:=.ref a::us) (vs:=.ref a::vs) F hr hb hd hx I2 (.cons rfl r) q2
theorem Zaz (he:PE X o ta)(c:Cls X.K C)(hm:Meth X.K C m f)(F:FnOk X.prog X.w X.K X.mg X.base CX k f fd ps sp)(hr:Room k X.A)(hb:Binds X.K fd ps ds)(hd:Vals Bk ds)(hx:Zb1 CX X E)
  (ht:eval (.Call (.Attribute o m Bg) [] [] pos) X.env=(do
   let ov <-eval o X.env
   standAt Bg.atName
   let (f,first) <-holding [ov] (getMethod ov m pl)
   callWith pos f first (backTo pos (starEach [] X.env)) (backToKw pos (keywordEach [] X.env))):=by rfl):
  PE X (.Call (.Attribute o m Bg) [] [] pos) (Zlv C m sp Bk E ta tNil):=by
 intro Bb s U H Q I h;refine YCB (pl:=pl) (thn (he Bb s U H _ I h) λu s1 zz=>?_) ht;obtain⟨x,H1,I1,rx,a,dx,fs,ex,ea,l,q⟩:=zz;subst ex;obtain rfl:u=Value.ref a:=rx;refine Zcn I1 ea c hm l ?_;exact PySem.W.callWith_K0 (first:=[.ref a]) I1.kIn hm.kp (ZgU (us:=[.ref a]) (vs:=[.ref a]) F hr hb hd hx I1 (.cons rfl .nil) q)
structure Mk (K:Q4)(C f:AD):Prop where
 makes:PySem.W.makesIn K C=true
 init:PySem.W.findIn K (.ref C) "__init__"=some (some (.ref f))
 fn:PySem.W.isFn K (.ref f)=true
 kp:PySem.W.keepIn K (.ref C)=true
theorem Zj1 (M:Mk X.K C f)(F:FnOk X.prog X.w X.K X.mg X.base CX k f fd ps sp)(hr:Room (k+1) X.A)(hb:Binds X.K fd ps ds)(hd:Vals Bk ds)
  (hx:Zb1 CX X E) (I:Inv X Bb U H s) (r:Vals vs us)
  (h:∀x dx,H x=none->H dx=none->dx≠x->sp (.ref x::(vs++Bk)) (upd (upd H dx (.own x)) x (.ins C dx [])) (λv H2=>v=.non/\Q (.ref x) H2) E):
  wpAny (model X.prog X.w) X.A (call (.ref C) us) (EP X Bb U Q) X.xe s:=by
 have hq:=h (s.heap.objs.size+1) s.heap.objs.size (I.hok.fresh (YCX _)) (I.hok.fresh (YAS _)) (YAf (Nat.lt_succ_self _));have I2:=Inv.made (C:=C) I;have r2:Vals (V.ref (s.heap.objs.size+1)::(vs++Bk)) (Value.ref (s.heap.objs.size+1)::(us++ds)):=.cons rfl (r.append hd);have hl:(Value.ref (s.heap.objs.size+1)::us++ds).length=ps.length:=by have e:=r2.length;rw[F.len _ _ _ _ hq]at e;exact e.symm
 refine YCI (Zg8 (f:=f) I.kIn M.makes M.init (beq_iff_eq.mp M.fn) (codeAny_mono (F.run _ X.stack _ _ ⟨Value.ref (s.heap.objs.size+1)::us,[]⟩ (Value.ref (s.heap.objs.size+1)::(us++ds)) _ _ E (hr.make C us [])
  (I2.env0.make C us []) (hb _ (Value.ref (s.heap.objs.size+1)::us) I2.kIn hl) r2 hq) λr s' hq'=>?_))
 cases r with
 | error e=>exact hx Bb U _ _ e s' I2 hq'
 | ok fl=>
  cases fl with
  | ret u=>
   obtain⟨v,H',I3,rv,ev,q3⟩:=I2.after hq';subst ev;exact⟨rv,⟨V.ref (s.heap.objs.size+1),H',I3,rfl,q3⟩⟩
  | next=>exact False.elim hq'
  | brk=>exact False.elim hq'
  | cont=>exact False.elim hq'
theorem Zc0 (M:Mk X.K C f)(F:FnOk X.prog X.w X.K X.mg X.base CX k f fd ps sp)(hr:Room (k+1) X.A)(hg:Gl X x)(hm:X.mg x=some (.ref C))(hb:Binds X.K fd ps ds)(hd:Vals Bk ds)(hx:Zb1 CX X E)
  (ha:PA X (e::es) t) (hdb:(x == ("__debug__":Str))=false:=by decide) (he:starEach (e::es) X.env=(false,eval e X.env)::starEach es X.env:=by rfl) (hpl:(backTo pos (starEach es X.env)).any (·.1)=false:=by rfl):
  PE X (.Call (.Name x p) (e::es) [] pos) (ZmT C sp Bk E t):=by
 intro Bb s U H Q I h;refine YBg (ZbW I hg hm ?_ hdb);refine YBo (h₀:=X.base) I.ok.mod.kin M.kp (thn (ha pos Bb s U H _ I h) λus s1 ⟨vs,H1,I1,r,q⟩=>⟨I1.kIn,?_⟩) he hpl;exact Zj1 M F hr hb hd hx I1 r q
end
section
end
structure FnScope (N P:AJ)(sc:Scope):Prop where
 kind:sc.kind=.function
 co:sc.isCoroutine=false
 gen:sc.isGenerator=false
 nd:N.Nodup
 pre:N.take P.length=P
 par:∀x∈P,sc.names.lookup x=some .local\/sc.names.lookup x=some .cell
 nofree:∀y∈sc.names,y.2≠.free
theorem Zf6 {kindOf:Str->Option NameKind}{x:Str}:∀ {binds:List (Str×Value)} {m:AB},(∀v,(x,v)∉binds)->bindL kindOf binds m x=m x
 | [],_,_=>rfl
 | (n,v)::r,m,h=>by
  unfold bindL;rw[Zf6 λw hw=>h w (YAX _ hw)];split
  .have:x≠n:=by rintro rfl;exact h v YAg
   simp[this]
  .rfl
theorem Zf8 {kindOf:Str->Option NameKind}{x:Str}:∀ {binds:List (Str×Value)} {m:AB},(∀v,(x,v)∉binds)->bindC kindOf binds m x=m x
 | [],_,_=>rfl
 | (n,v)::r,m,h=>by
  unfold bindC;rw[Zf8 λw hw=>h w (YAX _ hw)];split
  .rfl
  .have:x≠n:=by rintro rfl;exact h v YAg
   simp[this]
theorem Zf7 {kindOf:Str->Option NameKind}{x:Str}{v:Value}:∀ {P:AJ} {vs:AC} {i:Nat} {m:AB},P.Nodup->P[i]?=some x->vs[i]?=some v->kindOf x=some .local ->
  bindL kindOf (P.zip vs) m x=some v
 | [],_,_,_,_,h,_,_=>by simp at h
 | _::_,[],_,_,_,_,h,_=>by simp at h
 | p::P,w::vs,0,m,nd,h1,h2,hk=>by
  simp at h1 h2;subst h1;subst h2;show bindL kindOf ((p,w)::P.zip vs) m p=_;unfold bindL;rw[Zf6 λv hv=>(YBw.mp nd).1 (List.of_mem_zip hv).1,YAM hk];simp
 | p::P,w::vs,i+1,m,nd,h1,h2,hk=>by show bindL kindOf ((p,w)::P.zip vs) m x=_;unfold bindL;exact Zf7 (i:=i) (YBw.mp nd).2 (by simpa using h1) (by simpa using h2) hk
theorem Zf9 {kindOf:Str->Option NameKind}{x:Str}{v:Value}:∀ {P:AJ} {vs:AC} {i:Nat} {m:AB},P.Nodup->P[i]?=some x->vs[i]?=some v->kindOf x≠some .local ->
  bindC kindOf (P.zip vs) m x=some v
 | [],_,_,_,_,h,_,_=>by simp at h
 | _::_,[],_,_,_,_,h,_=>by simp at h
 | p::P,w::vs,0,m,nd,h1,h2,hk=>by
  simp at h1 h2;subst h1;subst h2;show bindC kindOf ((p,w)::P.zip vs) m p=_;unfold bindC;rw[Zf8 λv hv=>(YBw.mp nd).1 (List.of_mem_zip hv).1,YAI hk];simp
 | p::P,w::vs,i+1,m,nd,h1,h2,hk=>by show bindC kindOf ((p,w)::P.zip vs) m x=_;unfold bindC;exact Zf9 (i:=i) (YBw.mp nd).2 (by simpa using h1) (by simpa using h2) hk
def start (N:AJ)(vs:List V):St:=vs.map some++List.replicate (N.length-vs.length) none
def cxOf (CX:CXT)(P:AG)(w:AI)(K:Q4)(mg:AB)(base:Heap)(N:AJ)(qual:Str)(scope:Scope)(f:AD)(cd:Value)(A:AH)(outer:List Env)(s:AE)(H:Hp)(E:XK):Cx where
 prog:=P
 w:=w
 K:=K
 mg:=mg
 base:=base
 A:=A.deeper (envOfC qual scope s.heap.objs.size f cd)
 N:=N
 s_0:=s
 H_0:=H
 env:=envOfC qual scope s.heap.objs.size f cd
 outer:=outer
 stack:=envOfC qual scope s.heap.objs.size f cd::outer
 ex:=[]
 calm:=true
 fn:=λ_=>true
 pn:=[]
 xe:=λe s'=>wpAny (model P w) (A.deeper (envOfC qual scope s.heap.objs.size f cd)) (leaving (envOfC qual scope s.heap.objs.size f cd) e) (λ_ s''=>CX outer H s E e s'') (λe' s''=>CX outer H s E e' s'') s'
theorem Zhl {sc:Scope}{n:Nat}{x:Str}(h:sc.names.lookup x=some .cell):∃c,(cellsFrom n sc.names []).lookup x=some c:=by have q:=PySem.W.cellsFrom_some sc.names n [] (.inl h);exact Option.isSome_iff_exists.mp q
theorem Zji {CX:CXT}{P:AG}{w:AI}{K:Q4}{mg:AB}{base:Heap}{N ps:AJ}{qual:Str}{scope:Scope}{f:AD}{cd:Value}{A:AH}{outer:List Env}{s s1:AE}{H:Hp}{E:XK}{us:AC}{vs:List V}
  (S:FnScope N ps scope) (hd:A.handled=none) (e0:Env0 P w K mg base A outer s H) (hl:vs.length=ps.length) (r:Vals vs us)
  (x:InCallC s s.heap.objs.size (bindL (envOfC qual scope s.heap.objs.size f cd).kindOf (ps.zip us) λ_=>none) (cellsFrom (s.heap.objs.size+1) scope.names []) (bindC (envOfC qual scope s.heap.objs.size f cd).kindOf (ps.zip us) λ_=>none) s1):
  Inv (cxOf CX P w K mg base N qual scope f cd A outer s H E) [] (start N vs) H s1:=by
 have hpl:ps.length<=N.length:=by have:=congrArg List.length S.pre;rw[YAa]at this;omega
 obtain⟨h1,tk,rfl,hk⟩:=x.done;have noA:∀b:AD,b∉(cxOf CX P w K mg base N qual scope f cd A outer s H E).ex:=λb z=>absurd (show b∈([]:List AD) from z) (by simp);refine⟨⟨e0.mod,S.kind,rfl,rfl,YAS _,λy z c h1 h2=>?_,λy hy=>?_,λy c _ h=>?_,λ_=>hd,Around.frames_deeper e0.frames,.inr ⟨rfl,rfl⟩,λb z=>absurd z (noA b),e0.bs,e0.bsz,λb _ _=>noA b,λb z=>absurd z (noA b),e0.funs,e0.frf⟩,
  rfl,e0.bare,Un.kept hk,⟨_,x.toInCall.ns,λi y v h1 h2 h3=>?_⟩,λy c h=>⟨_,x.cell y c h⟩,e0.hok.fresh (YAS _),λy c h=>?_,λp hp=>absurd (show p∈([]:AA) from hp) (by simp),e0.hok.kept hk,?_⟩
 .exact name_of_addr x.apart (YBl h1) (YBl h2)
 .have hy:scope.names.lookup y=some .cell\/scope.names.lookup y=some .free:=hy;rcases hy with hy | hy
  .exact Zhl hy
  .exact absurd rfl (S.nofree _ (YBl hy))
 .exact YCM (x.above y c (YBl h))
 .have hi:i<vs.length:=by
   unfold start at h2;by_cases hi:i<vs.length
   .exact hi
   .rw[YBH (by simpa using hi)]at h2;rw[List.getElem?_replicate]at h2;split at h2<;>cases h2
  have ha:vs[i]?=some v:=by
   unfold start at h2;rw[YBK (by simpa using hi),YAi]at h2;cases e:vs[i]? with
   | none=>rw[e]at h2;cases h2
   | some a=>rw[e]at h2;cases h2;rfl
  obtain⟨u,hu,rv⟩:=r.get ha;have hp:ps[i]?=some y:=by rw[<-S.pre,List.getElem?_take_of_lt (by omega)];exact h1
  have ndP:ps.Nodup:=by rw[<-S.pre];exact S.nd.sublist (YCb _ _)
  refine⟨u,rv,?_⟩;rcases S.par y (YAq hp) with k | k
  .exact .inl ⟨k,Zf7 ndP hp hu k⟩
  .obtain⟨c,e⟩:=Zhl (n:=s.heap.objs.size+1) k;refine .inr ⟨.inl k,c,e,?_⟩;have q:=x.cell y c e;rw[Zf9 ndP hp hu (by show scope.names.lookup y≠_;rw[k];decide)]at q;exact q
 .exact e0.hok.fresh (YCM (x.above y c (YBl h)))
 .unfold start;show _=N.length;rw[YAH,YAD,List.length_replicate];omega
theorem Zmx {CX:CXT}{P:AG}{w:AI}{K:Q4}{mg:AB}{base:Heap}{k:Nat}{f:AD}{name qual:Str}{params:Arguments}{body:List Stmt}{scope:Scope}{dV kV doc pm Bc ct oc:Value}{an od:Option AD}
  {osl:Array (Option Value)} {N ps:AJ} {sp:Sp} (lk:K.lookup f=some ⟨oc,od,.func (PySem.W.fnOf name qual params body scope dV kV doc pm an Bc ct),osl⟩) (hcd:PySem.W.codeIn K Bc qual=true) (S:FnScope N ps scope)
  (len:∀vs H Q E,sp vs H Q E->vs.length=ps.length)
  (hbody:∀(A:AH) (outer:List Env) (s:AE) (H:Hp) (vs:List V) (Q:VK) (E:XK),Room k (A.deeper (envOfC qual scope s.heap.objs.size f Bc))->sp vs H Q E ->
   ∃t,PSs (cxOf CX P w K mg base N qual scope f Bc A outer s H E) body t/\t { nx:=λ_ H'=>Q .non H',rt:=Q } (start N vs) H):
  FnOk P w K mg base CX (k+1) f (PySem.W.fnOf name qual params body scope dV kV doc pm an Bc ct) ps sp:=by
 refine⟨len,λA outer s H args us vs Q E hr e0 hb r hsp=>?_⟩;have hl:=len _ _ _ _ hsp;have KX:K.In s.heap:=e0.mod.kin.keeps λb o e=>(e0.bs b o e).1;have lim:s.heap.NoLimit:=e0.mod.nolimit.keeps λb o e=>(e0.bs b o e).1;have hkind:∀y∈ps.zip us,scope.names.lookup y.1=some .local\/(scope.names.lookup y.1=some .cell/\((cellsFrom (s.heap.objs.size+1) scope.names []).lookup y.1).isSome=true):=λ⟨n,v⟩ hy=>by
  rcases S.par n (List.of_mem_zip hy).1 with q | q
  .exact .inl q
  .exact .inr ⟨q,PySem.W.cellsFrom_some _ _ _ (.inl q)⟩
 refine codeAny_call_function hr.depth (KX _ _ lk) rfl S.co S.gen rfl (PySem.W.codeRec_of KX hcd) (hb _ _ _ _ ?_);refine wpAny_newFunctionEnv_cells S.kind hkind λenv he s1 x=>?_;subst he;refine⟨lim.keeps x.toInCall.keep,codeAny_func ?_⟩;obtain⟨t,ht,hq⟩:=hbody A outer s H vs Q E (hr.deeper _) hsp;have I:Inv (cxOf CX P w K mg base N qual scope f Bc A outer s H E) [] (start N vs) H s1:=Zji S hr.hd e0 hl r x;refine YBI (ht [] s1 (start N vs) H _ I hq) (λfl s' hs=>?_) λe s' hs=>hs;have fin:∀ {U':St} {H':Hp} {v:V} {u:Value},Inv (cxOf CX P w K mg base N qual scope f Bc A outer s H E) [] U' H' s'->RelV v u->Q v H'->CE outer P w H s Q u s':=
  λ{U' H' v u} J rv q=>⟨v,H',J.os,J.bare,J.base,J.hok,rv,q⟩
 cases fl with
 | ret u=>
  obtain⟨v,U',H',J,rv,q⟩:=hs;exact fin J rv q
 | next=>
  obtain⟨U',H',J,q⟩:=hs;exact fin (v:=V.non) (u:=Value.none) J rfl q
 | brk=>
  obtain⟨_,_,_,q⟩:=hs;exact False.elim q
 | cont=>
  obtain⟨_,_,_,q⟩:=hs;exact False.elim q
section
variable {X:Cx}{x:Str}{p pos:Pos}{e:Expr}{es:List Expr}{t:TA}{id T:String}{r:List V->Hp->VK->Prop}
def tCB (r:List V->Hp->VK->Prop)(t:TA):TE:=λU H Q=>t U H λvs H1=>r vs H1 Q
theorem Zan (hc:Zb0 X (.builtin id) r) (hg:Gl X x) (hm:X.mg x=none) (hv:bootBuiltins x=some (.builtin id)) (ha:PA X (e::es) t) (hn:x≠"__name__":=by decide) (hdb:(x == ("__debug__":Str))=false:=by decide)
  (he:starEach (e::es) X.env=(false,eval e X.env)::starEach es X.env:=by rfl) (hpl:(backTo pos (starEach es X.env)).any (·.1)=false:=by rfl):PE X (.Call (.Name x p) (e::es) [] pos) (tCB r t):=by
 intro Bb s U H Q I h;refine YBg (Zem I hg hm hv ?_ hn hdb);exact YDA (thn (ha pos Bb s U H _ I h) λus s1 ⟨vs,H1,I1,r1,q1⟩=>hc Bb s1 U H1 vs us Q I1 r1 q1) he hpl
theorem Zbq (hc:Zb0 X (.type T) r) (hg:Gl X x) (hm:X.mg x=none) (hv:bootBuiltins x=some (.type T)) (ha:PA X (e::es) t) (hn:x≠"__name__":=by decide) (hdb:(x == ("__debug__":Str))=false:=by decide)
  (he:starEach (e::es) X.env=(false,eval e X.env)::starEach es X.env:=by rfl) (hpl:(backTo pos (starEach es X.env)).any (·.1)=false:=by rfl):PE X (.Call (.Name x p) (e::es) [] pos) (tCB r t):=by
 intro Bb s U H Q I h;refine YBg (Zem I hg hm hv ?_ hn hdb);exact YDJ (thn (ha pos Bb s U H _ I h) λus s1 ⟨vs,H1,I1,r1,q1⟩=>hc Bb s1 U H1 vs us Q I1 r1 q1) he hpl
end
end L2
namespace HT
open PySem PyProof.Rows
section
open PySem.SeqAt
open PySem.AutoSeq1 (wpAny_loadPart')
open PySem.MeetsSeq PySem.MeetsSeq2 PySem.MeetsSeq3
end
section
def sIx (n d:Nat):Option Int->Nat
 | none=>d
 | some v=>if v<0 then (v+(n:Int)).toNat else min v.toNat n
theorem sIx_none (n d:Nat):sIx n d none=d:=rfl
theorem sIx_nat (n d k:Nat):sIx n d (some (k:Int))=min k n:=by show (if (k:Int)<0 then ((k:Int)+(n:Int)).toNat else min (k:Int).toNat n)=min k n;rw[YAI (by omega),YCc]
theorem sIx_le (n d:Nat)(hd:d<=n)(o:Option Int):sIx n d o<=n:=by
 cases o with
 | none=>exact hd
 | some v=>
  show (if v<0 then (v+(n:Int)).toNat else min v.toNat n)<=n;by_cases hv:v<0
  .rw[YAM hv];omega
  .rw[YAI hv];exact Nat.min_le_right _ _
theorem clip_eq (v:Int)(n d:Nat):(if v<0 then max (v+(n:Int)) 0 else min v (n:Int))=((sIx n d (some v):Nat):Int):=by
 show (if v<0 then max (v+(n:Int)) 0 else min v (n:Int))=(((if v<0 then (v+(n:Int)).toNat else min v.toNat n):Nat):Int);by_cases hv:v<0
 .simp only[YAM hv];omega
 .simp only[YAI hv];omega
end
end HT
namespace L2
open PySem PySem.Spec PyProof.Rows
abbrev TO:=St->Hp->(Option Int->Hp->Prop)->Prop
def PO (X:Cx)(e:Option Expr)(t:TO):Prop:=
 ∀(Bb:AA) (s:AE) (U:St) (H:Hp) (Q:Option Int->Hp->Prop),Inv X Bb U H s->t U H Q ->
  wpAny (model X.prog X.w) X.A (evalPart e X.env) (λu s'=>∃o H',Inv X Bb U H' s'/\IsPart u o/\Q o H') X.xe s
def tNoPart:TO:=λ_ H Q=>Q none H
def ZmS (t:TE):TO:=λU H Q=>t U H λx H1=>∃i,x=.int i/\Q (some i) H1
section
variable {X:Cx}{e:Expr}{te:TE}{lo hi:Option Expr}{tl th:TO}{pos p2:Pos}
theorem Za9:PO X none tNoPart:=by intro Bb s U H Q I h;rw[evalPart_none];exact YAF ⟨none,H,I,.none,h⟩
theorem Za8 (h:PE X e te):PO X (some e) (ZmS te):=by intro Bb s U H Q I hw;rw[evalPart_some];refine thn (h Bb s U H _ I hw) λu s1 zz=>?_;obtain⟨x,H1,I1,r1,q1⟩:=zz;obtain⟨i,rfl,q⟩:=q1;obtain⟨t,rfl⟩:=r1;exact⟨some i,H1,I1,.int i t,q⟩
def SlR (X:Cx)(r:V->Option Int->Option Int->Hp->VK->Prop):Prop:=
 ∀(Bb:AA) (s:AE) (U:St) (H:Hp) (x:V) (v vl vu:Value) (lo hi:Option Int) (sl:AD) (Q:VK),Inv X Bb U H s->RelV x v->s.heap.IsSliceOf sl vl vu .none->IsPart vl lo->IsPart vu hi->r x lo hi H Q ->
  ∃T id,typeLookup (.type T) "__getitem__"=pure (some (.builtin id))/\s.TypeIs v T/\wpAny (model X.prog X.w) X.A (getItem v (.ref sl)) (EP X Bb U Q) X.xe s
def tSl (r:V->Option Int->Option Int->Hp->VK->Prop)(te:TE)(tl th:TO):TE:=λU H Q=>te U H λx H1=>tl U H1 λl H2=>th U H2 λu H3=>r x l u H3 Q
theorem ZaR (hr:SlR X r)(he:PE X e te)(hl:PO X lo tl)(hu:PO X hi th):PE X (.Subscript e (.Slice lo hi none p2) pos) (tSl r te tl th):=by intro Bb s U H Q I h;refine Subscript_ (thn (he Bb s U H _ I h) λv s1 zz=>?_);obtain⟨x,H1,I1,r1,q1⟩:=zz;refine wpAny_Slice (thn (hl Bb s1 U H1 _ I1 q1) λvl s2 ⟨l,H2,I2,pl,q2⟩=>thn (hu Bb s2 U H2 _ I2 q2) λvu s3 zz=>?_);obtain⟨u,H3,I3,pu,q3⟩:=zz;rw[evalPart_none];refine YAF ?_;have I4:Inv X Bb U H3 { s3 with heap:=s3.heap.push { cls:=.type "slice",data:=.fields #[vl,vu,.none] } }:=I3.kept (t':=s3.toks) λb ob q=>YAB _ q;obtain⟨T,id,hT,ht,hg⟩:=hr Bb { s3 with heap:=s3.heap.push { cls:=.type "slice",data:=.fields #[vl,vu,.none] } } U H3 x v vl vu l u s3.heap.objs.size Q I4 r1 (Heap.IsSliceOf.new ..) pl pu q3;show wpAny (model X.prog X.w) X.A (subscriptTail e (.Slice lo hi none p2) v (.ref s3.heap.objs.size)) (EP X Bb U Q) X.xe { s3 with heap:=s3.heap.push { cls:=.type "slice",data:=.fields #[vl,vu,.none] } };exact tail_any (ops:=[.ref s3.heap.objs.size,v]) ht hT hg (by with_unfolding_all rfl)
def cutV (xs:List V)(lo hi:Option Int):List V:=(xs.drop (HT.sIx xs.length 0 lo)).take (HT.sIx xs.length xs.length hi-HT.sIx xs.length 0 lo)
theorem ZgE (xs:List V)(lo hi:Option Int):(cutV xs lo hi).length<=xs.length:=by unfold cutV;rw[YAa,YAk];omega
end
end L2
namespace L2
open PySem PySem.Spec PyProof.Rows
def ixN (n:Nat)(i:Int):Option Nat:=if 0<=i then (if i<n then some i.toNat else none) else if -(n:Int)<=i then some (i+n).toNat else none
def atI {α:Type}(xs:List α)(i:Int):Option α:=(ixN xs.length i).bind λj=>xs[j]?
theorem Zmn (h:ixN n i=some j):seqIndex? i n=some j/\j<n/\-(n:Int)<=i/\i<n:=by
 unfold ixN at h;by_cases h0:0<=i
 .rw[YAM h0]at h;by_cases h1:i<n
  .rw[YAM h1]at h;have e:i.toNat=j:=Option.some.inj h;exact⟨by rw[seqIndex_of h0 h1,e],by omega,by omega,h1⟩
  .rw[YAI h1]at h;cases h
 .rw[YAI h0]at h;by_cases h1:-(n:Int)<=i
  .rw[YAM h1]at h;have e:(i+n).toNat=j:=Option.some.inj h;exact⟨by rw[seqIndex_neg (by omega) h1,e],by omega,h1,by omega⟩
  .rw[YAI h1]at h;cases h
theorem ZgJ (h:atI xs i=some v):∃j,seqIndex? i xs.length=some j/\xs[j]?=some v/\j<xs.length/\-(xs.length:Int)<=i/\i<xs.length:=by
 unfold atI at h;cases e:ixN xs.length i with
 | none=>rw[e]at h;cases h
 | some j=>
  rw[e]at h;obtain⟨h1,h2,h3,h4⟩:=Zmn e;exact⟨j,h1,h,h2,h3,h4⟩
theorem Zfc {α:Type}{xs:List α}{j:Nat}{v:α}(h:xs[j]?=some v):atI xs (j:Int)=some v:=by
 have hj:j<xs.length:=(YAj.mp h).1;have e:ixN xs.length (j:Int)=some j:=by unfold ixN;rw[YAM (by omega),YAM (by omega)];simp
 unfold atI;rw[e];exact h
theorem ZkH (xs:List α)(v:α):atI (xs++[v]) (-1)=some v:=by
 have hl:(xs++[v]).length=xs.length+1:=by simp
 have e:ixN (xs++[v]).length (-1)=some xs.length:=by unfold ixN;rw[hl,YAI (by decide),YAM (by omega)];congr 1;omega
 unfold atI;rw[e];show (xs++[v])[xs.length]?=some v;simp
def ZmL (b:Expr):Prop:=∀o i,subscripted b false o i=operate [o,i] (getItem o i)
def IxR (X:Cx)(r:R2):Prop:=
 ∀(value slice:Expr) (Bb:AA) (s:AE) (U:St) (H:Hp) (x y:V) (v u:Value) (Q:VK),Inv X Bb U H s->RelV x v->RelV y u->r x y H Q ->
  subscripted slice false v u=operate [v,u] (getItem v u)->wpAny (model X.prog X.w) X.A (subscriptTail value slice v u) (EP X Bb U Q) X.xe s
def MtR (X:Cx)(id:String)(r:V->List V->Hp->VK->Prop):Prop:=
 ∀(Bb:AA) (s:AE) (U:St) (H:Hp) (x:V) (xs:List V) (v:Value) (us:AC) (Q:VK),Inv X Bb U H s->RelV x v->Vals xs us->r x xs H Q ->
  wpAny (model X.prog X.w) X.A (call (.builtin id) (v::us)) (EP X Bb U Q) X.xe s
section
variable {X:Cx}{a b:Expr}{ta tb:TE}{pos:Pos}
theorem Zbj (hr:IxR X r)(ha:PE X a ta)(hb:PE X b tb)(hs:ZmL b):PE X (.Subscript a b pos) (tOp r ta tb):=by intro Bb s U H Q I h;exact Subscript_ (binT ha hb I h λv u s2 x y H2 I2 rx ry q=>hr a b Bb s2 U H2 x y v u Q I2 rx ry q (hs _ _))
def rIxL (K:Q4):R2:=λx y H Q=>∃p xs i v,x=.ref p/\y=.int i/\SqL K H p xs/\atI xs i=some v/\Q v H
def rIxT (K:Q4):R2:=λx y H Q=>∃p xs i v,x=.ref p/\y=.int i/\SqT K H p xs/\atI xs i=some v/\Q v H
def rIxS:R2:=λx y H Q=>∃z i c,x=.str z/\y=.int i/\z.length<=sizeLine/\atI z.cps.toList i=some c/\Q (.str ⟨#[c]⟩) H
theorem Zmm:IxR X (rIxL X.K):=by
 intro value slice Bb s U H x y v u Q I rx ry h hs;obtain⟨p,xs,i,z,rfl,rfl,hq,he,q⟩:=h;cases rx;obtain⟨t,rfl⟩:=ry;obtain⟨its,r,pl,hz⟩:=I.list hq;obtain⟨j,h1,h2,h3,h4,h5⟩:=ZgJ he;obtain⟨w,ew,rw'⟩:=r.get h2;have hl:=r.length;have hn:=ZfJ;have fin:EP X Bb U Q w s:=⟨z,H,I,rw',q⟩;by_cases h0:0<=i
 .have hj:i.toNat=j:=by rw[seqIndex_of h0 h5]at h1;exact Option.some.inj h1
  exact item_listR pl.isList h0 (by omega) (by rw[hj];simpa using ew) fin hs
 .have hj:(i+(its.toArray.size:Int)).toNat=j:=by rw[seqIndex_neg (by omega) h4]at h1;rw[YAJ,<-hl];exact Option.some.inj h1
  exact subscriptTail_builtinR (x:=w) pl.isList.typeIs slot_list_getitem.lookup
   (wpAny_getItem_list_neg (Q:=λr s'=>r=w/\EP X Bb U Q r s') pl.isList (by omega) (by rw[YAJ]<;>omega) (by omega) (by rw[hj];simpa using ew) ⟨rfl,fin⟩) hs
theorem Zof:IxR X (rIxT X.K):=by
 intro value slice Bb s U H x y v u Q I rx ry h hs;obtain⟨p,xs,i,z,rfl,rfl,hq,he,q⟩:=h;cases rx;obtain⟨t,rfl⟩:=ry;obtain⟨its,r,pl,hz⟩:=I.tuple hq;obtain⟨j,h1,h2,h3,h4,h5⟩:=ZgJ he;obtain⟨w,ew,rw'⟩:=r.get h2;have hl:=r.length;have hn:=ZfJ;have fin:EP X Bb U Q w s:=⟨z,H,I,rw',q⟩;exact subscriptTail_builtinR (x:=w) pl.typeIs slot_tuple_getitem.lookup
  (getItem_tuple (j:=j) (Q:=λr s'=>r=w/\EP X Bb U Q r s') pl (by omega) (by omega) (by rw[YAJ,<-hl];exact h1) (by simpa using ew) ⟨rfl,fin⟩) hs
theorem Zog:IxR X rIxS:=by
 intro value slice Bb s U H x y v u Q I rx ry h hs;obtain⟨z,i,c,rfl,rfl,hz,he,q⟩:=h;obtain⟨t,rfl⟩:=rx;obtain⟨t',rfl⟩:=ry;obtain⟨j,h1,h2,h3,h4,h5⟩:=ZgJ he;have hl:z.cps.toList.length=z.length:=by simp[Str.length]
 rw[hl]at h1 h4 h5;have hn:=ZfJ;exact tail_any (typeIs_str s z t) slot_str_getitem.lookup (getItem_str (c:=c) (by have e1:decide (i < -(2 ^ 63:Int))=false:=decide_eq_false (by omega);have e2:decide (i>=2 ^ 63)=false:=decide_eq_false (by omega);rw[e1,e2,Bool.or_false]) (by rw[h1];simpa using h2) ⟨.str ⟨#[c]⟩,H,I.tok _,⟨_,rfl⟩,q⟩) hs
theorem Zfp (lo hi:Option Int)(n:Nat):(sliceBounds lo hi none n).1=((HT.sIx n 0 lo:Nat):Int)/\(sliceBounds lo hi none n).2.1=((HT.sIx n n hi:Nat):Int)/\(sliceBounds lo hi none n).2.2=1:=by
 refine⟨?_,?_,rfl⟩
 .cases lo with
  | none=>simp[sliceBounds,HT.sIx]
  | some i=>
   simp only[sliceBounds,HT.sIx,Option.getD_none,show (1:Int)>0 by decide,if_true];by_cases h:i<0
   .simp only[h,if_true]<;>omega
   .simp only[h,if_false]<;>omega
 .cases hi with
  | none=>simp[sliceBounds,HT.sIx]
  | some i=>
   simp only[sliceBounds,HT.sIx,Option.getD_none,show (1:Int)>0 by decide,if_true];by_cases h:i<0
   .simp only[h,if_true]<;>omega
   .simp only[h,if_false]<;>omega
theorem ZeD (its:AC)(lo hi:Option Int):slicePick its.toArray lo hi none=((its.drop (HT.sIx its.length 0 lo)).take (HT.sIx its.length its.length hi-HT.sIx its.length 0 lo)).toArray:=by obtain⟨h1,h2,h3⟩:=Zfp lo hi its.toArray.size;unfold slicePick;rw[h1,h2,h3];simp only[sliceRange_one,pick_run,YAJ]<;>rfl
def rSlL (K:Q4):V->Option Int->Option Int->Hp->VK->Prop:=λx lo hi H Q=>∃a xs,x=.ref a/\SqL K H a xs/\∀p,H p=none->Q (.ref p) (upd H p (.lst (cutV xs lo hi)))
theorem ZlB:SlR X (rSlL X.K):=by intro Bb s U H x v vl vu lo hi sl Q I rx hs pl pu h;obtain⟨a,xs,rfl,hx,q⟩:=h;cases rx;obtain⟨its,r,ht,hz⟩:=I.list hx;have Bd:=r.length;refine⟨"list",_,slot_list_getitem.lookup,ht.isList.typeIs,?_⟩;refine wpAny_getItem_list_slice ht.isList hs pl pu .none (by simp) ?_ (by rw[YAJ]<;>omega);rw[ZeD,<-Bd];refine⟨.ref s.heap.objs.size,_,I.laid (t':=s.toks) (o:=.lst (cutV xs lo hi)) (λb ob q=>YAB _ q) (YAS _) ?_,rfl,q _ (I.hok.fresh (YAS _))⟩;exact⟨YAK (ZgE xs lo hi) hz,_,0,(r.drop (HT.sIx xs.length 0 lo)).take (HT.sIx xs.length xs.length hi-HT.sIx xs.length 0 lo),YAQ _ rfl⟩
def Zbe:V->Bool
 | .non=>true
 | .bl _=>true
 | .int _=>true
 | .str _=>true
 | _=>false
def eqV:V->V->Bool
 | .non,.non=>true
 | .bl a,.bl b=>a == b
 | .bl a,.int b=>(if a then 1 else 0) == b
 | .int a,.bl b=>a == (if b then 1 else 0)
 | .int a,.int b=>a == b
 | .str a,.str b=>a == b
 | _,_=>false
theorem Zlj (ry:RelV y u)(rx:RelV x v)(fy:Zbe y=true)(fx:Zbe x=true):SeqAt.EqAt A s u v (eqV y x):=by
 cases y with
 | non=>
  cases ry;cases x with
  | non=>cases rx;exact SeqAt.EqAt.same _
  | bl b=>cases rx;exact SeqAt.EqAt.none_bool b
  | int b=>obtain⟨t,rfl⟩:=rx;exact SeqAt.EqAt.none_int b t
  | str b=>obtain⟨t,rfl⟩:=rx;exact SeqAt.EqAt.none_str b t
  | _=>exact absurd (show false=true from fx) YAC
 | bl a=>
  cases ry;cases x with
  | non=>cases rx;exact SeqAt.EqAt.bool_none a
  | bl b=>cases rx;exact SeqAt.EqAt.bool_bool a b
  | int b=>obtain⟨t,rfl⟩:=rx;exact SeqAt.EqAt.bool_int a b t
  | str b=>obtain⟨t,rfl⟩:=rx;exact SeqAt.EqAt.bool_str a b t
  | _=>exact absurd (show false=true from fx) YAC
 | int a=>
  obtain⟨t',rfl⟩:=ry;cases x with
  | non=>cases rx;exact SeqAt.EqAt.int_none a t'
  | bl b=>cases rx;exact SeqAt.EqAt.int_bool a t' b
  | int b=>obtain⟨t,rfl⟩:=rx;exact SeqAt.EqAt.int_int a t' b t
  | str b=>obtain⟨t,rfl⟩:=rx;exact SeqAt.EqAt.int_str a t' b t
  | _=>exact absurd (show false=true from fx) YAC
 | str a=>
  obtain⟨t',rfl⟩:=ry;cases x with
  | non=>cases rx;exact SeqAt.EqAt.str_none a t'
  | bl b=>cases rx;exact SeqAt.EqAt.str_bool a t' b
  | int b=>obtain⟨t,rfl⟩:=rx;exact SeqAt.EqAt.str_int a t' b t
  | str b=>obtain⟨t,rfl⟩:=rx;exact SeqAt.EqAt.str_str a t' b t
  | _=>exact absurd (show false=true from fx) YAC
 | _=>exact absurd (show false=true from fy) YAC
def eqU (x:V)(u:Value):Bool:=match u with
 | .none=>eqV .non x
 | .bool b=>eqV (.bl b) x
 | .int i _=>eqV (.int i) x
 | .str z _=>eqV (.str z) x
 | _=>false
theorem Zli (r:RelV y u)(f:Zbe y=true):eqU x u=eqV y x:=by
 cases y with
 | non=>cases r;rfl
 | bl b=>cases r;rfl
 | int i=>obtain⟨t,rfl⟩:=r;rfl
 | str z=>obtain⟨t,rfl⟩:=r;rfl
 | _=>exact absurd (show false=true from f) YAC
theorem Zea {x:V}:∀ {xs:List V} {us:AC},Vals xs us->xs.all Zbe=true->us.any (eqU x)=xs.any λy=>eqV y x
 | _,_,.nil,_=>rfl
 | y::xs,u::us,.cons r t,f=>by rw[List.all_cons,YAP]at f;rw[List.any_cons,List.any_cons,Zli r f.1,Zea t f.2]
theorem ZcJ {A:AH}{s:AE}{x:V}{v:Value}(rx:RelV x v)(fx:Zbe x=true):∀ {xs:List V} {us:AC},Vals xs us->xs.all Zbe=true->∀u∈us,SeqAt.EqAt A s u v (eqU x u)
 | _,_,.nil,_=>λu hu=>by cases hu
 | y::xs,u::us,.cons r t,f=>λu' hu=>by
  rw[List.all_cons,YAP]at f;rcases YAE.mp hu with rfl | hu
  .rw[Zli r f.1];exact Zlj r rx f.1 fx
  .exact ZcJ rx fx t f.2 u' hu
def inV (x:V)(xs:List V):Bool:=xs.any λy=>eqV y x
def rIn (K:Q4)(neg:Bool):R2:=λx y H Q=>∃p xs,y=.ref p/\(SqL K H p xs\/SqT K H p xs)/\Zbe x=true/\xs.all Zbe=true/\Q (.bl (if neg then !inV x xs else inV x xs)) H
theorem ZiL:OpR X (compareOp .In) (rIn X.K false):=by
 intro Bb s U H x y v u Q I rx ry h;obtain⟨p,xs,rfl,hq,fx,fs,q⟩:=h;cases ry;rcases hq with hq | hq
 .obtain⟨its,r,pl,hz⟩:=I.list hq;refine SeqAt.in_listAt (eqU x) pl.isList (λw hw=>ZcJ rx fx r fs w (by simpa using hw)) ⟨.bl _,H,I,rfl,?_⟩;rw[show its.toArray.any (eqU x)=its.any (eqU x) by simp,Zea r fs];exact q
 .obtain⟨its,r,pl,hz⟩:=I.tuple hq;refine SeqAt.in_tupleAt (eqU x) pl (λw hw=>ZcJ rx fx r fs w (by simpa using hw)) ⟨.bl _,H,I,rfl,?_⟩;rw[show its.toArray.any (eqU x)=its.any (eqU x) by simp,Zea r fs];exact q
theorem Zfw:OpR X (compareOp .NotIn) (rIn X.K true):=by
 intro Bb s U H x y v u Q I rx ry h;obtain⟨p,xs,rfl,hq,fx,fs,q⟩:=h;cases ry;rcases hq with hq | hq
 .obtain⟨its,r,pl,hz⟩:=I.list hq;refine SeqAt.notIn_listAt (eqU x) pl.isList (λw hw=>ZcJ rx fx r fs w (by simpa using hw)) ⟨.bl _,H,I,rfl,?_⟩;rw[show its.toArray.any (eqU x)=its.any (eqU x) by simp,Zea r fs];exact q
 .obtain⟨its,r,pl,hz⟩:=I.tuple hq;refine SeqAt.notIn_tupleAt (eqU x) pl (λw hw=>ZcJ rx fx r fs w (by simpa using hw)) ⟨.bl _,H,I,rfl,?_⟩;rw[show its.toArray.any (eqU x)=its.any (eqU x) by simp,Zea r fs];exact q
theorem Zf5:Zb0 X (.type "list") (λxs H Q=>∃p ys,xs=[.ref p]/\(SqL X.K H p ys\/SqT X.K H p ys)/\∀l,H l=none->Q (.ref l) (upd H l (.lst ys))):=by
 intro Bb s U H xs us Q I r h;obtain⟨p,ys,rfl,hq,q⟩:=h;obtain⟨u,rfl,rx⟩:=vals1 r;cases rx;have fin:∀(its:AC),Vals ys its->ys.length<=sizeLine->∀(h':Heap) (c':Nat),(∀b o',s.heap.get? b=some o'->h'.get? b=some o') ->
   h'.get? s.heap.objs.size=some { cls:=.type "list",dict:=none,data:=.seq its.toArray c',slots:=#[] }->EP X Bb U Q (.ref s.heap.objs.size) { s with heap:=h' }:=λits r' hz h' c' kp e=>
  ⟨.ref s.heap.objs.size,_,I.laid (t':=s.toks) kp (YAS _) (show ObjOk X.prog X.w _ h' _ (.lst ys) from⟨hz,its,c',r',e⟩),rfl,q _ (I.hok.fresh (YAS _))⟩
 rcases hq with hq | hq
 .obtain⟨its,r',pl,hz⟩:=I.list hq;have Bd:=r'.length;obtain⟨o,ho,hc,n,hd⟩:=pl.isList;exact call_list_seq p (.inl rfl) ho hc hd (λh' c' kp e=>fin its r' hz h' c' kp e) (by simp only[YAJ]<;>omega)
 .obtain⟨its,r',pl,hz⟩:=I.tuple hq;have Bd:=r'.length;obtain⟨o,ho,hc,n,hd⟩:=pl;exact call_list_seq p (.inr rfl) ho hc hd (λh' c' kp e=>fin its r' hz h' c' kp e) (by simp only[YAJ]<;>omega)
def tyV (K:Q4)(T:String)(x:V)(H:Hp):Prop:=match x with
 | .str _=>T="str"
 | .int _=>T="int"
 | .ref p=>(T="list"/\∃xs,SqL K H p xs)\/(T="tuple"/\∃o,K.lookup p=some o/\o.cls=.type "tuple"/\o.dict=none) \/
   (T="dict"/\((∃kvs,H p=some (.dK kvs))\/∃kvs,H p=some (.dT kvs)))\/(T="set"/\∃S n,H p=some (.set S n))
 | _=>False
theorem ZkK (I:Inv X Bb U H s)(r:RelV x v)(ty:tyV X.K T x H):
  s.TypeIs v T/\∀a,v=.ref a->∃ob,s.heap.get? a=some ob/\ob.dict=none:=by
 cases x with
 | str z=>
  obtain⟨t,rfl⟩:=r;cases (show T="str" from ty);exact⟨typeIs_str s z t,λ_ e=>nomatch e⟩
 | int i=>
  obtain⟨t,rfl⟩:=r;cases (show T="int" from ty);exact⟨typeIs_int s i t,λ_ e=>nomatch e⟩
 | ref p=>
  cases r;rcases ty with⟨rfl,xs,hq⟩|⟨rfl,o,hk,hc,hd⟩|⟨rfl,hk⟩|⟨rfl,S,n,hk⟩
  .obtain⟨its,_,pl,_⟩:=I.list hq;refine⟨pl.isList.typeIs,λa e=>?_⟩;cases e;obtain⟨o,n,e,c,hd,_⟩:=pl;exact⟨o,e,hd⟩
  .refine⟨⟨o,I.kIn p o hk,hc⟩,λa e=>?_⟩;cases e;exact⟨o,I.kIn _ o hk,hd⟩
  .have z:∃o,s.heap.get? p=some o/\o.ExactDict:=by
    rcases hk with⟨kvs,hk⟩|⟨kvs,hk⟩
    .obtain⟨_,_,_,_,o,_,_,e,ex,_⟩:=I.hok p _ hk;exact⟨o,e,ex⟩
    .obtain⟨_,_,_,_,o,_,_,e,ex,_⟩:=I.hok p _ hk;exact⟨o,e,ex⟩
   obtain⟨o,e,ex⟩:=z;refine⟨⟨o,e,ex.1⟩,λa e2=>?_⟩;cases e2;exact⟨o,e,ex.2.1⟩
  .obtain⟨o,_,_,_,e,ex,_⟩:=I.hok p _ hk;refine⟨⟨o,e,ex.1⟩,λa e2=>?_⟩;cases e2;exact⟨o,e,ex.2.1⟩
 | _=>exact False.elim ty
def tBM0 (K:Q4)(T:String)(r:V->List V->Hp->VK->Prop)(to:TE):TE:=λU H Q=>to U H λx H1=>tyV K T x H1/\r x [] H1 Q
def tBM (K:Q4)(T:String)(r:V->List V->Hp->VK->Prop)(to:TE)(t:TA):TE:=λU H Q=>to U H λx H1=>tyV K T x H1/\t U H1 λxs H2=>r x xs H2 Q
variable {o e:Expr}{es:List Expr}{to:TE}{t:TA}{name:Str}{Bg Bh:Pos}{T id:String}{r:V->List V->Hp->VK->Prop}
theorem ZiD (pa:PlainAttrs T) (slot:Slot T name id) (hty:typeOf (.builtin id)=pure (.type "method_descriptor")) (hm:MtR X id r) (ho:PE X o to)
  (hbase:attributeBase o name X.env (eval o X.env)=eval o X.env:=by rfl) (hline:(Bg.endLine == Bh.line)=true:=by rfl):PE X (.Call (.Attribute o name Bg) [] [] Bh) (tBM0 X.K T r to):=by
 intro Bb s U H Q I h;refine wpAny_Call_method0_late hbase hline (thn (ho Bb s U H _ I h) λv s1 zz=>?_);obtain⟨x,H1,I1,r1,ty,q1⟩:=zz;obtain⟨h1,h2⟩:=ZkK I1 r1 ty;exact⟨T,id,pa,slot,hty,h1,h2,Calls.callWith_builtin rfl (PySem.evalArgs_none (hm Bb s1 U H1 x [] v [] Q I1 r1 .nil q1))⟩
theorem Zfv (pa:PlainAttrs T) (slot:Slot T name id) (hty:typeOf (.builtin id)=pure (.type "method_descriptor")) (hm:MtR X id r) (ho:PE X o to) (ha:PA X (e::es) t)
  (hbase:attributeBase o name X.env (eval o X.env)=eval o X.env:=by rfl)
  (hfew:((backTo Bh (starEach (e::es) X.env)).all (λx=>!x.1)&&(backToKw Bh (keywordEach [] X.env)).all (λx=>x.1.isSome)
   && decide ((e::es).length+([]:List Keyword).length+(if ([]:List Keyword).isEmpty then 0 else 1)<30))=true:=by rfl)
  (hline:(Bg.endLine == Bh.line)=true:=by rfl) (hs:starEach (e::es) X.env=(false,eval e X.env)::starEach es X.env:=by rfl) (hplain:(backTo Bh (starEach es X.env)).any (·.1)=false:=by rfl):
  PE X (.Call (.Attribute o name Bg) (e::es) [] Bh) (tBM X.K T r to t):=by
 intro Bb s U H Q I h;refine wpAny_Call_method_late hbase hfew hline rfl (thn (ho Bb s U H _ I h) λv s1 zz=>?_);obtain⟨x,H1,I1,r1,ty,q1⟩:=zz;obtain⟨h1,h2⟩:=ZkK I1 r1 ty;refine⟨T,id,pa,slot,hty,h1,h2,?_⟩;have hA:=ha Bh Bb s1 U H1 _ I1 q1;rw[hs]at hA ⊢;refine Calls.callWith_builtin (by show (false || (backTo Bh (starEach es X.env)).any (·.1))=false;rw[hplain]<;>rfl) (Calls.evalArgs_plain ?_);exact thn hA λus s2 ⟨vs,H2,I2,r2,q2⟩=>hm Bb s2 U H2 x vs v us Q I2 r1 r2 q2
end
def MtM (X:Cx)(id:String)(r:V->List V->Hp->VK->Prop):Prop:=
 ∀(Bb:AA) (s:AE) (U:St) (H:Hp) (x:V) (xs:List V) (v:Value) (us:AC) (Q:VK),Inv X Bb U H s->RelV x v->Vals xs us->r x xs H Q ->
  wpAny (model X.prog X.w) X.A (call (.builtin id) (v::us)) (EP X Bb U Q) X.xe s
theorem Vals.one (h:Vals [x] us):∃u,us=[u]/\RelV x u:=by
 cases h with
 | cons r n=>cases n;exact⟨_,rfl,r⟩
theorem Vals.two (h:Vals [x,y] us):∃u v,us=[u,v]/\RelV x u/\RelV y v:=by
 cases h with
 | cons r t=>
  cases t with
  | cons q n=>cases n;exact⟨_,_,rfl,r,q⟩
theorem Vals.zero:∀ {us:AC},Vals [] us->us=[]
 | _,.nil=>rfl
theorem Vals.dropLast (h:Vals xs us):Vals xs.dropLast us.dropLast:=by
 induction h with
 | nil=>exact .nil
 | cons r t ih=>
  cases t with
  | nil=>exact .nil
  | cons q t'=>exact .cons r ih
theorem ZhU (l:List α):l.eraseIdx (l.length-1)=l.dropLast:=by
 induction l with
 | nil=>rfl
 | cons a r ih=>
  cases r with
  | nil=>rfl
  | cons b r=>
   have e:(a::b::r).length-1=((b::r).length-1)+1:=by have h1:(a::b::r).length=r.length+2:=rfl;have h2:(b::r).length=r.length+1:=rfl;omega
   rw[e,List.eraseIdx_cons_succ,ih];all_goals rfl
section
theorem Inv.lset {its its':AC}{n:Nat}{f:Array Value->Array Value}{t':Nat}(I:Inv X Bb U H s)(hH:H l=some (.lst xs))
  (e:s.heap.get? l=some { cls:=.type "list",data:=.seq its.toArray n }) (hf:f its.toArray=its'.toArray) (hv:Vals ys its') (hz:ys.length<=sizeLine):
  Inv X Bb U (upd H l (.lst ys)) { s with heap:=s.heap.update l (Obj.mapSeq f),toks:=t' }:=by
 have q:=PySem.IsL.update e f;rw[hf]at q;refine I.write (x:=l) (e:=l) (by rw[hH];exact trivial) (.inl rfl) (λb' u hb hu=>(YAw s.heap (Obj.mapSeq f) (YAh hb)).trans hu) ⟨_,q⟩ ?_;exact⟨hz,its',_,hv,q⟩
theorem Inv.lnew (I:Inv X Bb U H s)(hv:Vals ys its)(hz:ys.length<=sizeLine):
  Inv X Bb U (upd H s.heap.objs.size (.lst ys)) { s with heap:=s.heap.push { cls:=.type "list",data:=.seq its.toArray },toks:=t' }:=
 I.laid (λ_ _ q=>YAB _ q) (YAS _) ⟨hz,its,0,hv,YAQ _ rfl⟩
theorem Inv.fresh (I:Inv X Bb U H s):H s.heap.objs.size=none:=I.hok.fresh (YAS _)
theorem Inv.lstM (I:Inv X Bb U H s)(hH:H l=some (.lst xs)):xs.length<=sizeLine/\∃(its:AC) (n:Nat),Vals xs its/\xs.length=its.length/\s.heap.get? l=some { cls:=.type "list",data:=.seq its.toArray n }:=by obtain⟨z,its,n,r,e⟩:=I.hok l _ hH;exact⟨z,its,n,r,r.length,e⟩
theorem Zkd (h:n<=sizeLine):Builtin.List.listTooLong n=false:=by unfold Builtin.List.listTooLong;exact decide_eq_false (by omega)
end
section
def rAppend:V->List V->Hp->VK->Prop:=λx vs H Q=>∃l xs y,x=.ref l/\vs=[y]/\H l=some (.lst xs)/\xs.length<sizeLine/\Q .non (upd H l (.lst (xs++[y])))
theorem ZbM:MtM X "list.append" rAppend:=by intro Bb s U H x vs v us Q I rx rv h;obtain⟨l,xs,y,rfl,rfl,hH,hz,q⟩:=h;cases rx;obtain⟨u,rfl,ru⟩:=rv.one;obtain⟨z,its,n,r,hl,e⟩:=I.lstM hH;refine call_meets F.slot_list_append ⟨_,e,rfl⟩ F.entry_list_append (F.args_list_append_2 _ _) (PySem.list_append l its.toArray n u (by rw[YAJ];omega)) ⟨e,?_⟩;refine⟨.non,_,I.lset (its':=its++[u]) hH e (by simp) (r.append (.cons ru .nil)) ?_,rfl,q⟩;rw[YAH,YAd];omega
def rExtend:V->List V->Hp->VK->Prop:=λx vs H Q=>∃l b xs zs,x=.ref l/\vs=[.ref b]/\H l=some (.lst xs)/\H b=some (.lst zs)/\xs.length+zs.length<=sizeLine/\Q .non (upd H l (.lst (xs++zs)))
theorem ZnR:MtM X "list.extend" rExtend:=by
 intro Bb s U H x vs v us Q I rx rv h;obtain⟨l,b,xs,zs,rfl,rfl,hH,hB,hz,q⟩:=h;cases rx;obtain⟨u,rfl,ru⟩:=rv.one;cases ru;obtain⟨z,its,n,r,hl,e⟩:=I.lstM hH;obtain⟨z2,its2,n2,r2,hl2,e2⟩:=I.lstM hB;have hsz:its.toArray.size+its2.toArray.size<=sizeLine:=by rw[YAJ,YAJ];omega
 have hlong:¬(!its.toArray.isEmpty&&Builtin.List.listTooLong (its.toArray.size+its2.toArray.size))=true:=by rw[Zkd hsz,YCE];exact YAC
 refine call_meets F.slot_list_extend ⟨_,e,rfl⟩ F.entry_list_extend (F.args_list_extend_2 _ _)
  (AutoSeq1.list_extend_list_list_0 l its.toArray n b its2.toArray n2 hlong (by rw[YAJ];omega) (by omega)) ⟨e,e2,?_⟩
 refine⟨.non,_,I.lset (its':=its++its2) hH e (by simp) (r.append r2) ?_,rfl,q⟩;rw[YAH];omega
def rPop:V->List V->Hp->VK->Prop:=λx vs H Q=>∃l xs y,x=.ref l/\vs=[]/\H l=some (.lst xs)/\xs[xs.length-1]?=some y/\Q y (upd H l (.lst xs.dropLast))
theorem ZnQ:MtM X "list.pop" rPop:=by
 intro Bb s U H x vs v us Q I rx rv h;obtain⟨l,xs,y,rfl,rfl,hH,hy,q⟩:=h;cases rx;have hus:=rv.zero;subst hus;obtain⟨z,its,n,r,hl,e⟩:=I.lstM hH;obtain⟨u,hu,ru⟩:=r.get hy;have hy':its.toArray[its.toArray.size-1]?=some u:=by show its.toArray[its.length-1]?=some u;rw[<-YAo,<-hl];exact hu
 refine call_meets F.slot_list_pop ⟨_,e,rfl⟩ F.entry_list_pop (F.args_list_pop_1 _) (MeetsSeq.list_pop_last l its.toArray n u hy' (by rw[YAJ];omega)) ⟨e,?_⟩;refine⟨y,_,I.lset (its':=its.dropLast) hH e ?_ r.dropLast ?_,ru,q⟩
 .show its.toArray.eraseIdxIfInBounds (its.toArray.size-1)=its.dropLast.toArray;rw[YAJ,List.eraseIdxIfInBounds_toArray,ZhU]
 .rw[YBQ];omega
def rClear:V->List V->Hp->VK->Prop:=λx vs H Q=>∃l xs,x=.ref l/\vs=[]/\H l=some (.lst xs)/\Q .non (upd H l (.lst []))
theorem Zkh:MtM X "list.clear" rClear:=by intro Bb s U H x vs v us Q I rx rv h;obtain⟨l,xs,rfl,rfl,hH,q⟩:=h;cases rx;have hus:=rv.zero;subst hus;obtain⟨z,its,n,r,hl,e⟩:=I.lstM hH;refine call_meets F.slot_list_clear ⟨_,e,rfl⟩ F.entry_list_clear (F.args_list_clear_1 _) (AutoSeq1.list_clear_list_0 l its.toArray n (by rw[YAJ];omega)) ⟨e,?_⟩;exact⟨.non,_,I.lset (its':=[]) (ys:=[]) hH e rfl .nil (YAx _),rfl,q⟩
def rCat:R2:=λx y H Q=>∃l b xs zs,x=.ref l/\y=.ref b/\H l=some (.lst xs)/\H b=some (.lst zs)/\xs.length+zs.length<=sizeLine/\∀p,H p=none->Q (.ref p) (upd H p (.lst (xs++zs)))
theorem Zg3:OpR X (binaryOp .Add) rCat:=by
 intro Bb s U H x y v u Q I rx ry h;obtain⟨l,b,xs,zs,rfl,rfl,hH,hB,hz,q⟩:=h;cases rx;cases ry;obtain⟨z,its,n,r,hl,e⟩:=I.lstM hH;obtain⟨z2,its2,n2,r2,hl2,e2⟩:=I.lstM hB;refine PySem.P.add_list e e2 ?_ (by rw[YAJ,YAJ];omega);have ea:its.toArray++its2.toArray=(its++its2).toArray:=by simp
 rw[ea];exact⟨.ref _,_,I.lnew (t':=s.toks) (r.append r2) (by rw[YAH];omega),rfl,q _ I.fresh⟩
end
section
end
section
end
end L2
namespace Att
open PySem PySem.W PySem.Calls PyProof.Rows
theorem ZdT:∀(ns:List Int) (vs:AC),WellAll P h vs (ns.map WData.int)->IntsAre vs ns:=by
 intro ns;induction ns with
 | nil=>
  intro vs w;rw[YDQ]at w;cases w;exact .nil
 | cons n ns ih=>
  intro vs w;rw[YAc]at w;cases w with
  | cons a b=>
   cases a;exact .cons _ _ (ih _ b)
theorem Zil {l:OpenLaw}{n:Nat}(hn:l.most=some n){P:Params}{h:Heap}{args:List WData}{vals:AC}
  (hpre:l.row.toRowW.claim.pre args=true) (hwl:WellAll P h vals args):
  ∃a vs ns,vals=[Value.ref a]/\args=[WData.list (ns.map WData.int)]/\h.get? a=some { cls:=.type "list",data:=.seq vs.toArray }/\IntsAre vs ns/\ns.length<=n:=by
 have hsh:WShape.hasAll [] args [.list .int]=true:=(pre_splitW hpre).1;have hc:l.pre.holds [] { args:=args }=true:=(pre_splitW hpre).2;obtain⟨d,r,rfl,h1,h2⟩:=hasAllW_cons hsh;obtain rfl:=hasAllW_nil h2;obtain⟨xs,rfl,h3⟩:=hasW_list h1;obtain⟨ns,rfl⟩:=items_int h3;have Bd:ns.length<=n:=by
  unfold OpenLaw.pre at hc;have h4:(WTm.not (.lt (.lit (.int (n:Int))) (.len (.arg 0)))).holds [] { args:=[.list (ns.map .int)] }=true:=by have h4:=(holds_andW hc).1;rw[hn]at h4;exact h4
  have h5:=condW_of h4 (w_not (w_lt w_lit (w_len_list (w_arg rfl))));rw[YAD]at h5;refine Nat.le_of_not_lt λq=>?_;have q':(n:Int)<((ns.length:Nat):Int):=by omega
  first
   | (rw[decide_eq_true q']at h5;exact absurd h5 (by decide))
   | (simp at h5;omega)
 cases hwl with
 | cons w1 w2=>
  cases w2;cases w1 with
  | list ho hall=>exact⟨_,_,ns,rfl,rfl,ho,ZdT ns _ hall,Bd⟩
theorem Ziy (l:OpenLaw)(args:List WData):l.row.toRowW.claim.post args (.bool true) args=true:=
 postW_of (r:=l.row.toRowW) (X:=(true == true))
  (show WShape.has [] (.bool true) .bool=true by first | rfl | decide | simp[WShape.has,WShape.arms,WShape.armsAll])
  (show (WTm.eq .res (.lit (.bool true))).value [] { args:=args,res:=some (.bool true),after:=args }=some (.bool (true == true)) from w_eq_bool (w_res rfl) w_lit) rfl
theorem attach_call {l:OpenLaw}{n:Nat}{q:AG}{loose:AJ}{XP:(AB)->Heap->Prop}{YP:AI->Heap->Prop}{d:DefRec}
  (hn:l.most=some n) (hdf:d.params.defaults=[])
  (call:∀(w:AI) (s_0 s_1:AE) (mg mb:AB) (fa:AD) (o:Obj) (pm cd doc:Value) (a:AD) (vs:AC) (ns:List Int),
   Ground q loose [] XP w s_0 mg mb s_1.heap->YP w s_1.heap ->
   s_1.heap.get? fa=some o->o.data=.func (docDef d.name d.params d.body d.scope pm cd doc)->s_1.heap.CodeRec cd d.name->mg d.name=some (.ref fa) ->
   s_1.heap.get? a=some { cls:=.type "list",data:=.seq vs.toArray }->IntsAre vs ns->ns.length<=n->s_1.gens=#[] ->
   codeAny (model l.prog w) callerA (.call (.ref fa) ⟨[.ref a],[]⟩) (λr s'=>r=.ok (.ret (.bool true))/\OldK s_1.heap s'.heap/\s'.os=s_1.os/\AllBare s'.gens) s_1):
  WalkO q loose XP YP l.row.toRowW d [] (λf vs=>PySem.call f vs):=by
 intro w s_0 s_1 mg mb G Y fa o pm cd doc dV kV ho hd hcd hD hmg hg args vals as hpre hlay hrd hwl hlo;obtain rfl:dV=.none:=Dflts.none hD hdf;obtain rfl:kV=.none:=Dflts.noKw hD;obtain⟨a,vs,ns,rfl,rfl,hobj,hints,Bd⟩:=Zil hn hpre hwl;refine enter_call (codeAny_mono (call w s_0 s_1 mg mb fa o pm cd doc a vs ns G Y ho (fd_plain hd) hcd hmg hobj hints Bd hg) λr s' hq=>?_);obtain⟨rfl,h2,h3,h4⟩:=hq;exact⟨.inl ⟨.bool true,.bool true,[],rfl,λ_=>rfl,.bool true,Ziy l _,λ_=>⟨List.Pairwise.nil,λ_ hm=>(nomatch hm)⟩⟩,h2,h3,h4⟩
section
def ledger (h:Heap)(L d:AD):AA:=(List.range h.objs.size).filterMap λa=>if a=L\/a=d then none else (h.get? a).map λo=>(a,o)
end
end Att
namespace L2
open PySem PySem.Spec PyProof.Rows
theorem Zdw:∀ {vs:AC} {ns:List Int},IntsAre vs ns->Vals (ns.map V.int) vs
 | _,_,.nil=>.nil
 | _,_,.cons n t h=>.cons ⟨t,rfl⟩ (Zdw h)
def Only (H:Hp):Prop:=∀b,H b=none\/∃o xs,H b=some (.frz o (.lst xs))
theorem Zkm {P:AG}{w:AI}{K:Q4}{mg mb:AB}{CX:CXT}{k:Nat}{fa a:AD}{fd:AF}{x:Str}{sp:Sp}{s_1:AE}{vs:AC}{ns:List Int}
  (KX:K.In s_1.heap) (hns:s_1.heap.Ns mainGlobals mg) (hb:s_1.heap.Ns builtinsNs mb) (hbb:∀x:Str,x≠"__name__"->mb x=bootBuiltins x) (hlim:s_1.heap.NoLimit) (hg:s_1.gens=#[])
  (ha:s_1.heap.get? a=some { cls:=.type "list",data:=.seq vs.toArray }) (hi:IntsAre vs ns) (hl:ns.length<=sizeLine) (hr:Room k callerA)
  (F:∀base:Heap,K.In base->base.Ns mainGlobals mg->FnOk P w K mg base CX k fa fd [x] sp) (hbind:∀(s:AE) (u:Value),BindsTo s fd ⟨[u],[]⟩ [(x,u)])
  (hsp:∀H:Hp,Only H->SqL K H a (ns.map V.int)->sp [.ref a] H (λv _=>v=.bl true) λ_ _ _=>False)
  (hCX:∀H e s',CX [] H s_1 (λ_ _ _=>False) e s'->False):
  codeAny (model P w) callerA (.call (.ref fa) ⟨[.ref a],[]⟩) (λr s'=>r=.ok (.ret (.bool true))/\OldK s_1.heap s'.heap/\s'.os=s_1.os/\AllBare s'.gens) s_1:=by
 have rv:=Zdw hi;have lenV:=hi.length;have core:∀H:Hp,Only H->SqL K H a (ns.map V.int)->HOk P w H s_1.heap->(∀b,H b≠none->b=a)->(H a≠none->K.lookup a=none) ->
   codeAny (model P w) callerA (.call (.ref fa) ⟨[.ref a],[]⟩) (λr s'=>r=.ok (.ret (.bool true))/\OldK s_1.heap s'.heap/\s'.os=s_1.os/\AllBare s'.gens) s_1:=by
  intro H hO hS hok hA hK;have base_of:∀ {b:AD} {o:Obj},s_1.heap.get? b=some o->H b=none->(hidT s_1.heap H).get? b=some o:=λe n=>Zhc e n;have noA:∀ {b:AD} {o:Obj} {es:Array DictEntry} {ep:Nat},s_1.heap.get? b=some o->o.data=.dict es ep->H b=none:=λ{b o es ep} e d=>by
   cases q:H b with
   | none=>rfl
   | some u=>
    have e':b=a:=hA b (by rw[q];simp);subst e';rw[ha]at e;cases e;have d':Data.seq vs.toArray _=Data.dict es ep:=d;cases d'
  have nsK:∀ {b:AD} {m:AB},s_1.heap.Ns b m->(hidT s_1.heap H).Ns b m:=λ{b m} ⟨o,es,ep,e,d,r⟩=>⟨o,es,ep,base_of e (noA e d),d,r⟩;have hKb:K.In (hidT s_1.heap H):=λb o e=>base_of (KX b o e) (by
   cases q:H b with
   | none=>rfl
   | some u=>
    have e':b=a:=hA b (by rw[q];simp);subst e';rw[hK (by rw[q];simp)]at e;cases e)
  have hM:Mod K mg (hidT s_1.heap H):=⟨hKb,nsK hns,⟨mb,nsK hb,hbb⟩,let ⟨mc,h1,h2⟩:=hlim;⟨mc,nsK h1,h2⟩⟩;have e0:Env0 P w K mg (hidT s_1.heap H) callerA [] s_1 H:=⟨rfl,hM,λb o e=>ZiO e,YCC (ZfT _ _),trivial,λb hb=>absurd (show b∈([]:List AD) from hb) (by simp),hok,.of_eq hg⟩;refine codeAny_mono ((F _ hKb (nsK hns)).run callerA [] s_1 H ⟨[.ref a],[]⟩ [.ref a] [.ref a] _ _ hr e0 (hbind s_1 (.ref a)) (.cons rfl .nil) (hsp H hO hS)) λr s' h=>?_;cases r with
  | error e=>exact(hCX H e s' h).elim
  | ok fl=>
   cases fl with
   | next=>exact False.elim h
   | brk=>exact False.elim h
   | cont=>exact False.elim h
   | ret u=>
    obtain⟨v,H',os,bare,un,hok',r',q⟩:=h;have q':v=.bl true:=q;subst q';obtain rfl:u=Value.bool true:=r';refine⟨rfl,OldK.of_keep λb o e=>?_,os,bare⟩;cases q:H b with
    | none=>exact un.keep b o e q (by intro z;exact absurd (show b∈([]:List AD) from z) (by simp)) (by simp)
    | some u=>
     rcases hO b with z | ⟨ob,xs,z⟩
     .rw[q]at z;cases z
     .have z2:=un.frzs b ob _ z;obtain⟨e1,_⟩:=hok b _ z;obtain⟨e2,_⟩:=hok' b _ z2;rw[e]at e1;cases e1;exact e2
 cases hk:K.lookup a with
 | some o=>
  have e:=KX a o hk;rw[ha]at e;cases e;refine core (λ_=>none) (λ_=>.inl rfl) (.inr ⟨_,vs.toArray,_,hk,rfl,rfl,rfl,by rw[YAJ,lenV];exact hl,by simpa using rv⟩) (λb u z=>by have z':(none:Option HO)=some u:=z;cases z') (λb z=>absurd rfl z) λz=>absurd rfl z
 | none=>
  refine core (λb=>if b=a then some (.frz { cls:=.type "list",data:=.seq vs.toArray } (.lst (ns.map V.int))) else none) (λb=>?_) (.inl (.inr ⟨{ cls:=.type "list",data:=.seq vs.toArray },YAM rfl⟩)) (λb u z=>?_) (λb z=>?_) λ_=>hk
  .by_cases hb:b=a
   .exact .inr ⟨_,_,YAM hb⟩
   .exact .inl (YAI hb)
  .by_cases hb:b=a
   .have z':=(YAM hb).symm.trans z;cases z';subst hb;exact⟨ha,by rw[YAD];exact hl,vs,_,rv,ha⟩
   .have z':=(YAI hb).symm.trans z;cases z'
  .by_cases hb:b=a
   .exact hb
   .exact absurd (YAI hb) z
abbrev KOf {K:Q4}{h:Heap}(_:K.In h):Q4:=K
theorem ZoG {l:PySem.W.OpenLaw}{n k:Nat}{q:AG}{loose:AJ}{XP:(AB)->Heap->Prop}{YP:AI->Heap->Prop}{d:DefRec}{K:Params->Q4}{CX:AI->CXT}{sp:AI->Sp}{x:Str}
  (hn:l.most=some n) (hn2:n<=sizeLine) (hdf:d.params.defaults=[]) (hr:Room k callerA)
  (hY:∀(w:AI) (h:Heap),YP w h->(K w.params).In h)
  (F:∀(w:AI) (mg:AB) (fa:AD) (h:Heap),(K w.params).In h->h.Ns mainGlobals mg->mg d.name=some (.ref fa) ->
   ∃fd:AF,(∀(s:AE) (u:Value),BindsTo s fd ⟨[u],[]⟩ [(x,u)]) /\
    ∀base:Heap,(K w.params).In base->base.Ns mainGlobals mg->FnOk l.prog w (K w.params) mg base (CX w) k fa fd [x] (sp w))
  (hsp:∀(w:AI) (H:Hp) (a:AD) (ns:List Int),ns.length<=n->Only H->SqL (K w.params) H a (ns.map V.int)->sp w [.ref a] H (λv _=>v=.bl true) λ_ _ _=>False)
  (hCX:∀(w:AI) (H:Hp) (s:AE) (e:Value) (s':AE),CX w [] H s (λ_ _ _=>False) e s'->False):
  PySem.W.WalkO q loose XP YP l.row.toRowW d [] (λf vs=>PySem.call f vs):=by
 refine Att.attach_call hn hdf λw s_0 s_1 mg mb fa o pm cd doc a vs ns G Y ho hd hcd hmg hobj hints Bd hg=>?_;have KX:=hY w _ Y;obtain⟨fd,hb,hF⟩:=F w mg fa _ KX G.T.g hmg;exact Zkm KX G.T.g G.T.b G.T.builtins G.T.nolimit hg hobj hints (YAK Bd hn2) hr hF hb (λH hO hS=>hsp w H a ns Bd hO hS) λH e s'=>hCX w H s_1 e s'
def inClass (s:Stmt)(j:Nat):Stmt:=match s with
 | .ClassDef _ _ _ body _ _ _ _ _ _ _=>body.getD j (.Pass ⟨0,0,0,0⟩)
 | _=>.Pass ⟨0,0,0,0⟩
def Zch (s:Stmt):Arguments:=match s with
 | .FunctionDef _ a _ _ _ _ _ _ _ _=>a
 | _=>{ posonlyargs:=[],args:=[],vararg:=none,kwonlyargs:=[],kw_defaults:=[],kwarg:=none,defaults:=[] }
def Zbc (s:Stmt):List Stmt:=match s with
 | .FunctionDef _ _ b _ _ _ _ _ _ _=>b
 | _=>[]
def Zaj (s:Stmt):Scope:=match s with
 | .FunctionDef _ _ _ _ _ _ sc _ _ _=>sc
 | _=>{ kind:=.function,names:=[],isGenerator:=false,isCoroutine:=false }
abbrev CX0:CXT:=λ_ _ _ _ _ _=>False
abbrev E0:XK:=λ_ _ _=>False
theorem Zao:Zb1 CX0 X E0:=λ_ _ _ _ _ _ _ h=>h.elim
structure Fun (K:Q4)(x qual:Str)(st:Stmt)(f:AD)(fd:AF):Prop where
 ex:∃(oc:Value) (od:Option AD) (kV doc pm:Value) (an:Option AD) (Bc ct:Value) (osl:Array (Option Value)),
  fd=PySem.W.fnOf x qual (Zch st) (Zbc st) (Zaj st) .none kV doc pm an Bc ct/\K.lookup f=some ⟨oc,od,.func fd,osl⟩/\PySem.W.codeIn K Bc qual=true
 kp:PySem.W.keepIn K (.ref f)=true
section
variable {P:AG}{w:AI}{K:Q4}{mg:AB}{base:Heap}
theorem Fun.ok {x qual:Str}{st:Stmt}{f:AD}{fd:AF}{N ps:AJ}{k:Nat}{sp:Sp}(F:Fun K x qual st f fd)(S:FnScope N ps (Zaj st))(len:∀vs H Q E,sp vs H Q E->vs.length=ps.length)
  (hbody:∀(Bc:Value) (A:AH) (outer:List Env) (s:AE) (H:Hp) (vs:List V) (Q:VK) (E:XK),Room k (A.deeper (envOfC qual (Zaj st) s.heap.objs.size f Bc))->sp vs H Q E ->
   ∃t,PSs (cxOf CX0 P w K mg base N qual (Zaj st) f Bc A outer s H E).nox (Zbc st) t/\t { nx:=λ_ H'=>Q .non H',rt:=Q } (start N vs) H):FnOk P w K mg base CX0 (k+1) f fd ps sp:=by
 obtain⟨oc,od,kV,doc,pm,an,Bc,ct,osl,rfl,lk,hcd⟩:=F.ex;refine Zmx lk hcd S len λA outer s H vs Q E hr hsp=>?_;obtain⟨t,h,q⟩:=hbody Bc A outer s H vs Q E hr hsp;exact⟨t,h.nox,q⟩
theorem Fun.binds {x qual:Str}{st:Stmt}{f:AD}{fd:AF}{ps:AJ}(F:Fun K x qual st f fd)
  (h:∀(kV doc pm:Value) (an:Option AD) (Bc ct:Value) (us:AC),us.length=ps.length->bindArgs (PySem.W.fnOf x qual (Zch st) (Zbc st) (Zaj st) .none kV doc pm an Bc ct) ⟨us,[]⟩=pure (ps.zip us)):Binds K fd ps []:=by
 obtain⟨oc,od,kV,doc,pm,an,Bc,ct,osl,rfl,lk,hcd⟩:=F.ex;exact .all (h kV doc pm an Bc ct)
theorem Zle {x qual:Str}{st:Stmt}{f:AD}{oc:Value}{od an:Option AD}{osl:Array (Option Value)}{kV doc pm Bc ct:Value}(l:K.lookup f=some ⟨oc,od,.func (PySem.W.fnOf x qual (Zch st) (Zbc st) (Zaj st) .none kV doc pm an Bc ct),osl⟩)
  (c:PySem.W.codeIn K Bc qual=true) (k:PySem.W.keepIn K (.ref f)=true):Fun K x qual st f (PySem.W.fnOf x qual (Zch st) (Zbc st) (Zaj st) .none kV doc pm an Bc ct):=⟨⟨oc,od,kV,doc,pm,an,Bc,ct,osl,rfl,l,c⟩,k⟩
end
theorem ZaG (hr:Room k A):A.units+1<cLine:=YCV (Nat.add_le_add_left (by decide:1<=64) _) hr.units
theorem Zdy (h:n<=1000):n<sizeLine:=YCV h (by decide)
section
theorem pv (i:Nat) {x:Str} {pos:Pos} (hN:X.N[i]?=some x:=by rfl) (hv:Vis X.env.scope x:=by first | exact Or.inl rfl | exact Or.inr (Or.inl rfl) | exact Or.inr (Or.inr rfl)) (hd:(x == ("__debug__":Str))=false:=by decide)
  (hcd:(x == ("__classdict__":Str))=false:=by decide):PE X (.Name x pos) (tVar i):=Znm hN hv hd hcd
end
theorem iteF {A B:Prop}(h:B):if false=true then A else B:=by rw[YAI YAC];exact h
theorem iteT {A B:Prop}(h:A):if true=true then A else B:=by rw[YAM rfl];exact h
theorem ite2 {c A B:Prop}[Decidable c](h1:c->A)(h2:¬c->B):if c then A else B:=by
 by_cases h:c
 .rw[YAM h];exact h1 h
 .rw[YAI h];exact h2 h
def Same (H H':Hp):Prop:=∀b o,H b=some o->H' b=some o
theorem Same.refl (H:Hp):Same H H:=λ_ _ h=>h
theorem Same.trans (a:Same H H1)(b:Same H1 H2):Same H H2:=λc o h=>b c o (a c o h)
theorem Same.free (e:Same H H'){l:AD}(h:H' l=Option.none):H l=Option.none:=by
 cases q:H l with
 | none=>rfl
 | some o=>
  rw[e l o q]at h;cases h
theorem Same.seq {K:Q4}{H H':Hp}{a:AD}{xs:List V}(e:Same H H')(h:SqL K H a xs):SqL K H' a xs:=by
 rcases h with (h | ⟨o,h⟩) | h
 .exact .inl (.inl (e _ _ h))
 .exact .inl (.inr ⟨o,e _ _ h⟩)
 .exact .inr h
section
variable {κ:Type}[DecidableEq κ]
def valV (kvs:List (κ×V))(k:κ):Option V:=(kvs.find? λkv=>decide (kv.1=k)).map (·.2)
def putK (kvs:List (κ×V))(k:κ)(v:V):List (κ×V):=
 if (kvs.any λkv=>decide (kv.1=k))=true then kvs.map (λkv=>if kv.1=k then (kv.1,v) else kv) else kvs++[(k,v)]
def ZdZ (kvs:List (κ×V))(k:κ):List (κ×V):=kvs.filter λkv=>decide (kv.1≠k)
theorem Zbd {p:κ×V}{r:List (κ×V)}{k:κ}(e:p.1=k):valV (p::r) k=some p.2:=by simp[valV,YCs,e]
theorem ZaW {p:κ×V}{r:List (κ×V)}{k:κ}(e:¬p.1=k):valV (p::r) k=valV r k:=by simp[valV,YCs,e]
theorem ZcA (k:κ):∀kvs:List (κ×V),(kvs.any λkv=>decide (kv.1=k))=(valV kvs k).isSome
 | []=>rfl
 | p::r=>by
  rw[List.any_cons];by_cases e:p.1=k
  .simp only[Zbd e,decide_eq_true e,Bool.true_or,Option.isSome_some]
  .rw[ZaW e,decide_eq_false e,Bool.false_or];exact ZcA k r
theorem ZgN (k j:κ)(y:V):∀kvs:List (κ×V),valV (kvs.map λkv=>if kv.1=k then (kv.1,y) else kv) j=(valV kvs j).map λx=>if j=k then y else x
 | []=>rfl
 | p::r=>by
  have ih:=ZgN k j y r;rw[YAc];by_cases h:p.1=k
  .rw[YAM h];by_cases e:p.1=j
   .rw[Zbd (p:=(p.1,y)) e,Zbd e,YDK,YAM (e.symm.trans h)]
   .rw[ZaW (p:=(p.1,y)) e,ZaW e,ih]
  .rw[YAI h];by_cases e:p.1=j
   .rw[Zbd (p:=p) e,Zbd e,YDK,YAI (λz=>h (e.trans z))]
   .rw[ZaW (p:=p) e,ZaW e,ih]
theorem Zfi (k j:κ)(y:V):∀kvs:List (κ×V),valV kvs k=none->valV (kvs++[(k,y)]) j=if j=k then some y else valV kvs j
 | [],_=>by
  by_cases e:k=j
  .rw[YAM e.symm];exact Zbd (p:=(k,y)) e
  .rw[YAI (λz=>e z.symm)];exact ZaW (p:=(k,y)) e
 | p::r,hn=>by
  rw[YCk];have hk:¬p.1=k:=λz=>by rw[Zbd z]at hn;cases hn
  rw[ZaW hk]at hn;have ih:=Zfi k j y r hn;by_cases e:p.1=j
  .rw[Zbd e,Zbd e,YAI (λz=>hk (e.trans z))]
  .rw[ZaW e,ZaW e,ih]
theorem ZgM (kvs:List (κ×V))(k j:κ)(y:V):valV (putK kvs k y) j=if j=k then some y else valV kvs j:=by
 unfold putK;by_cases a:(kvs.any λkv=>decide (kv.1=k))=true
 .rw[YAM a,ZgN];rw[ZcA]at a;by_cases e:j=k
  .obtain⟨x,hx⟩:=Option.isSome_iff_exists.mp a;rw[YAM e,e,hx,YDK,YAM rfl]
  .rw[YAI e];cases valV kvs j with
   | none=>rfl
   | some x=>rw[YDK,YAI e]
 .rw[YAI a];refine Zfi k j y kvs ?_;rw[ZcA]at a;cases q:valV kvs k with
  | none=>rfl
  | some x=>rw[q]at a;exact(a rfl).elim
theorem ZbV (kvs:List (κ×V))(k:κ)(v:V):(putK kvs k v).length<=kvs.length+1:=by
 unfold putK;split
 .rw[YAD];omega
 .rw[YAH,YAl,YCo];omega
theorem ZeF {kvs:List (κ×V)}{k:κ}(v:V)(h:valV kvs k=none):putK kvs k v=kvs++[(k,v)]:=by unfold putK;rw[ZcA,h];exact YAI (by decide)
theorem RelO.isSome_eq (r:RelO o u):o.isSome=u.isSome:=by
 cases o with
 | none=>cases u with
  | none=>rfl
  | some _=>exact(show False from r).elim
 | some _=>cases u with
  | none=>exact(show False from r).elim
  | some _=>rfl
theorem KV.val (r:KV kvs vs)(k:κ):RelO (valV kvs k) (valueAt vs k):=by
 unfold KV at r;induction r with
 | nil=>exact True.intro
 | @cons p q ps qs h t ih=>
  obtain⟨h1,h2⟩:=h;by_cases e:p.1=k
  .have e':q.1=k:=h1.symm.trans e;have b:valueAt (q::qs) k=some q.2:=by simp[valueAt,YCs,e']
   rw[Zbd e,b];exact h2
  .have e':¬q.1=k:=λz=>e (h1.trans z);have b:valueAt (q::qs) k=valueAt qs k:=by simp[valueAt,YCs,e']
   rw[ZaW e,b];exact ih
theorem KV.any (r:KV kvs vs)(k:κ):(kvs.any λkv=>decide (kv.1=k))=vs.any λkv=>decide (kv.1=k):=by
 unfold KV at r;induction r with
 | nil=>rfl
 | cons h t ih=>rw[List.any_cons,List.any_cons,ih,h.1]
theorem KV.repl (r:KV kvs vs)(k:κ){y:V}{u:Value}(ry:RelV y u):
  KV (kvs.map λkv=>if kv.1=k then (kv.1,y) else kv) (vs.map λkv=>if kv.1=k then (kv.1,u) else kv):=by
 unfold KV at r ⊢;induction r with
 | nil=>exact .nil
 | @cons p q ps qs h t ih=>
  rw[YAc,YAc];refine .cons ?_ ih;obtain⟨h1,h2⟩:=h;by_cases e:p.1=k
  .rw[YAM e,YAM (h1.symm.trans e)];exact⟨h1,ry⟩
  .rw[YAI e,YAI (λz=>e (h1.trans z))];exact⟨h1,h2⟩
theorem KV.put (r:KV kvs vs)(k:κ){y:V}{u:Value}(ry:RelV y u):KV (putK kvs k y) (stored vs k u):=by
 unfold putK stored;rw[r.any k];by_cases e:(vs.any λkv=>decide (kv.1=k))=true
 .rw[YAM e,YAM e];exact r.repl k ry
 .rw[YAI e,YAI e];exact Paired.snoc r ⟨rfl,ry⟩
theorem KV.drop (r:KV kvs vs)(k:κ):KV (ZdZ kvs k) (without vs k):=by
 unfold KV at r ⊢;unfold ZdZ without;induction r with
 | nil=>exact .nil
 | @cons p q ps qs h t ih=>
  obtain⟨h1,h2⟩:=h;rw[List.filter_cons,List.filter_cons];by_cases e:p.1=k
  .have a:¬decide (p.1≠k)=true:=by simp[e]
   have b:¬decide (q.1≠k)=true:=by simp[h1.symm.trans e]
   rw[YAI a,YAI b];exact ih
  .have e':¬q.1=k:=λz=>e (h1.trans z);have a:decide (p.1≠k)=true:=by simp[e]
   have b:decide (q.1≠k)=true:=by simp[e']
   rw[YAM a,YAM b];exact .cons ⟨h1,h2⟩ ih
theorem KV.keys {kvs:List (κ×V)}{vs:List (κ×Value)}(r:KV kvs vs):kvs.map (·.1)=vs.map (·.1):=by
 unfold KV at r;induction r with
 | nil=>rfl
 | cons h t ih=>rw[YAc,YAc,ih,h.1]
theorem KV.length (r:KV kvs vs):kvs.length=vs.length:=Paired.length r
theorem Zhg (kvs:List (κ×V))(k:κ):(ZdZ kvs k).length<=kvs.length:=YBB _ _
end
theorem ZfQ (r:RelV (kV k) u):(ZaD P w).is k u=true:=by
 cases k with
 | inl i=>obtain⟨t,e⟩:=(show ∃t,u=Value.int i t from r);subst e;exact Zgq P w i t
 | inr x=>obtain⟨t,e⟩:=(show ∃t,u=Value.str x t from r);subst e;exact ZdK P w x t
theorem ZfR {P:AG}{w:AI}:∀ {ks:List Key} {us:AC},Vals (ks.map kV) us->ItemsAre (ZaD P w) ks us
 | [],_,r=>by rw[YDQ]at r;cases r;exact .nil
 | k::ks,_,r=>by
  rw[YAc]at r;cases r with
  | cons h t=>exact .cons (ZfQ h) (ZfR t)
abbrev KT (H:Hp):List (List Key×V)->List (List Key×AD×Value)->Prop:=Paired λp q=>p.1=q.1/\H q.2.1=some (.tup (p.1.map kV))/\RelV p.2 q.2.2
theorem KT.val (r:KT H kvs xs)(k:List Key):RelO (valV kvs k) ((atKey xs k).map (·.2)):=by
 induction r with
 | nil=>exact True.intro
 | @cons p q ps qs h t ih=>
  obtain⟨h1,_,h2⟩:=h;by_cases e:p.1=k
  .have e':q.1=k:=h1.symm.trans e;have b:atKey (q::qs) k=some q.2:=by simp[atKey,YCs,e']
   rw[Zbd e,b];exact h2
  .have e':¬q.1=k:=λz=>e (h1.trans z);have b:atKey (q::qs) k=atKey qs k:=by simp[atKey,YCs,e']
   rw[ZaW e,b];exact ih
theorem KT.repl (r:KT H kvs xs)(k:List Key){y:V}{u:Value}(ry:RelV y u):
  KT H (kvs.map λkv=>if kv.1=k then (kv.1,y) else kv) (xs.map (putAt k u)):=by
 induction r with
 | nil=>exact .nil
 | @cons p q ps qs h t ih=>
  rw[YAc,YAc];refine .cons ?_ ih;obtain⟨h1,h2,h3⟩:=h;unfold putAt;by_cases e:p.1=k
  .rw[YAM e,YAM (h1.symm.trans e)];exact⟨h1,h2,ry⟩
  .rw[YAI e,YAI (λz=>e (h1.trans z))];exact⟨h1,h2,h3⟩
theorem KT.put (r:KT H kvs xs)(k:List Key){b:AD}{y:V}{u:Value}(hb:H b=some (.tup (k.map kV)))(ry:RelV y u):
  KT H (putK kvs k y) (storedH xs k b u):=by
 have e:(kvs.any λkv=>decide (kv.1=k))=(atKey xs k).isSome:=by rw[ZcA,(r.val k).isSome_eq,Option.isSome_map]
 unfold putK storedH;rw[e];by_cases q:(atKey xs k).isSome=true
 .rw[YAM q,YAM q];exact r.repl k ry
 .rw[YAI q,YAI q];exact Paired.snoc r ⟨rfl,hb,ry⟩
theorem KT.keeps (r:KT H kvs xs)(ht:∀b ys,H b=some (.tup ys)->H' b=some (.tup ys)):KT H' kvs xs:=
 Paired.mapP r λ_ _ z=>⟨z.1,ht _ _ z.2.1,z.2.2⟩
section
theorem Znd (ok:HOk P w H h)(e:Rd H a u):ObjOk P w H h a u:=e.ok ok
theorem Zgy (ok:HOk P w H h)(e:Rd H a (.dK kvs)):kvs.length<=sizeLine/\(a == sysModules)=false/\∃vs,KV kvs vs/\h.DictOf (ZaD P w) a vs:=
 show ObjOk P w H h a (.dK kvs) from Znd ok e
theorem ZhW (ok:HOk P w H h)(e:H a=some (.dK kvs)):kvs.length<=sizeLine/\(a == sysModules)=false/\∃vs,KV kvs vs/\h.DictOf (ZaD P w) a vs:=Zgy ok (.inl e)
theorem ZfO (ok:HOk P w H h)(e:H a=some (.tup (ks.map kV))):(tupleKind (ZaD P w)).is h ks a:=by obtain⟨_,its,r,o,h1,h2,n,h3⟩:=(show ObjOk P w H h a (.tup (ks.map kV)) from ok a _ e);exact⟨o,its.toArray,n,h1,h2,h3,by simpa using ZfR r⟩
theorem ZhV (ok:HOk P w H h)(e:Rd H a (.dT kvs)):kvs.length<=sizeLine/\(a == sysModules)=false /\
  ∃xs,KT H kvs xs/\h.DictOfH (tupleKind (ZaD P w)) a xs:=by
 obtain⟨z,y,xs,r,o,es,ep,h1,h2,h3,h4,h5⟩:=(show ObjOk P w H h a (.dT kvs) from Znd ok e);refine⟨z,y,xs,r,o,es,ep,h1,h2,h3,h4,λx hx=>?_,h5⟩;have all:∀ {l:List (List Key×V)} {m:List (List Key×AD×Value)},KT H l m->∀x∈m,(tupleKind (ZaD P w)).is h x.1 x.2.1:=by
  intro l m q;induction q with
  | nil=>intro x hx;exact nomatch hx
  | @cons p q ps qs hq t ih=>
   intro x hx;rcases YAE.mp hx with e | hx
   .subst e;exact ZfO ok (by rw[<-hq.1];exact hq.2.1)
   .exact ih x hx
 exact all r x hx
theorem ZpZ (ok:HOk P w H h)(e:H a=some (.dT kvs)):kvs.length<=sizeLine/\(a == sysModules)=false /\
  ∃xs,KT H kvs xs/\h.DictOfH (tupleKind (ZaD P w)) a xs:=ZhV ok (.inl e)
end
def DGet (H:Hp)(a:AD)(y:V)(r:Option V):Prop:=
 (∃kvs k,Rd H a (.dK kvs)/\y=kV k/\r=valV kvs k)\/∃kvs k b,Rd H a (.dT kvs)/\y=.ref b/\H b=some (.tup (k.map kV))/\r=valV kvs k
def DPut (H:Hp)(a:AD)(y v:V)(H':Hp):Prop:=
 (∃kvs k,H a=some (.dK kvs)/\y=kV k/\kvs.length<sizeLine/\H'=upd H a (.dK (putK kvs k v))) \/
 ∃kvs k b,H a=some (.dT kvs)/\y=.ref b/\H b=some (.tup (k.map kV))/\kvs.length<sizeLine/\H'=upd H a (.dT (putK kvs k v))
theorem DGet.k {H:Hp}{a:AD}{kvs:List (Key×V)}{k:Key}(e:H a=some (.dK kvs)):DGet H a (kV k) (valV kvs k):=.inl ⟨kvs,k,.inl e,rfl,rfl⟩
theorem DGet.t {H:Hp}{a b:AD}{kvs:List (List Key×V)}{k:List Key}(e:H a=some (.dT kvs))(eb:H b=some (.tup (k.map kV))):DGet H a (.ref b) (valV kvs k):=.inr ⟨kvs,k,b,.inl e,rfl,eb,rfl⟩
theorem DPut.k {H:Hp}{a:AD}{kvs:List (Key×V)}{k:Key}{v:V}(e:H a=some (.dK kvs))(hl:kvs.length<sizeLine):DPut H a (kV k) v (upd H a (.dK (putK kvs k v))):=.inl ⟨kvs,k,e,rfl,hl,rfl⟩
theorem DPut.t {H:Hp}{a b:AD}{kvs:List (List Key×V)}{k:List Key}{v:V}(e:H a=some (.dT kvs))(eb:H b=some (.tup (k.map kV)))(hl:kvs.length<sizeLine):
  DPut H a (.ref b) v (upd H a (.dT (putK kvs k v))):=.inr ⟨kvs,k,b,e,rfl,eb,hl,rfl⟩
section
theorem Inv.big (I:Inv X Bb U H s):sysModules<s.heap.objs.size:=by have h:mainGlobals<s.heap.objs.size:=(I.mod.glob.keeps I.bk).lt;exact Nat.lt_trans (by decide) h
theorem Zjy (hu:A.units+1<cLine)(I:Inv X Bb U H s)(g:DGet H a y (some v))(ry:RelV y u)(h:∀w' s',Inv X Bb U H s'->RelV v w'->Q w' s'):
  wpAny (model X.prog X.w) A (getItem (.ref a) u) Q E s:=by
 rcases g with⟨kvs,k,e,ey,l⟩|⟨kvs,k,b,e,ey,eb,l⟩
 .subst ey;obtain⟨z,hd,vs,rel,dd⟩:=Zgy I.hok e;obtain⟨w',hw,rw'⟩:=RelO.some_of (v:=v) (o:=valueAt vs k) (by rw[l];exact rel.val k);exact wpAny_getItem_of (ZfQ ry) dd.mapOf hw (h w' _ (I.tok _) rw')
 .subst ey;cases (show u=Value.ref b from ry);obtain⟨z,hd,xs,rel,dd⟩:=ZhV I.hok e;obtain⟨w',hw,rw'⟩:=RelO.some_of (v:=v) (o:=(atKey xs k).map (·.2)) (by rw[l];exact rel.val k);obtain⟨p,hp,hp2⟩:=YCw.mp hw;refine wpAny_getItem_heap (tupleKind_room_in1 hu) (ZfO I.hok eb) dd hp ?_;rw[hp2];exact h w' _ (I.tok _) rw'
theorem d_in (hu:A.units+1<cLine)(I:Inv X Bb U H s)(g:DGet H a y o)(ry:RelV y u)(h:∀s',Inv X Bb U H s'->Q (.bool o.isSome) s'):
  wpAny (model X.prog X.w) A (compareOp .In u (.ref a)) Q E s:=by
 rcases g with⟨kvs,k,e,ey,l⟩|⟨kvs,k,b,e,ey,eb,l⟩
 .subst ey;obtain⟨z,hd,vs,rel,dd⟩:=Zgy I.hok e;refine wpAny_in_of (ZfQ ry) hd dd.mapOf ?_;rw[<-(rel.val k).isSome_eq,<-l];exact h _ (I.tok _)
 .subst ey;cases (show u=Value.ref b from ry);obtain⟨z,hd,xs,rel,dd⟩:=ZhV I.hok e;refine wpAny_in_heap (tupleKind_room_in1 hu) (ZfO I.hok eb) hd dd ?_;have q:=(rel.val k).isSome_eq;rw[Option.isSome_map]at q;rw[<-q,<-l];exact h _ (I.tok _)
theorem ZmC (hu:A.units+1<cLine)(I:Inv X Bb U H s)(g:DGet H a y o)(ry:RelV y u)(h:∀s',Inv X Bb U H s'->Q (.bool (!o.isSome)) s'):
  wpAny (model X.prog X.w) A (compareOp .NotIn u (.ref a)) Q E s:=by
 rcases g with⟨kvs,k,e,ey,l⟩|⟨kvs,k,b,e,ey,eb,l⟩
 .subst ey;obtain⟨z,hd,vs,rel,dd⟩:=Zgy I.hok e;refine wpAny_notIn_of (ZfQ ry) hd dd.mapOf ?_;rw[<-(rel.val k).isSome_eq,<-l];exact h _ (I.tok _)
 .subst ey;cases (show u=Value.ref b from ry);obtain⟨z,hd,xs,rel,dd⟩:=ZhV I.hok e;refine wpAny_notIn_heap (tupleKind_room_in1 hu) (ZfO I.hok eb) hd dd ?_;have q:=(rel.val k).isSome_eq;rw[Option.isSome_map]at q;rw[<-q,<-l];exact h _ (I.tok _)
theorem Zd3 (I:Inv X Bb U H s)(mu:Mut (H a))(hs:Heap.SameBut a s.heap h')(he:∃q,h'.get? a=some q)(new:ObjOk X.prog X.w (upd H a ob) h' a ob):
  Inv X Bb U (upd H a ob) { s with heap:=h',toks:=t' }:=
 I.write (x:=a) (e:=a) mu (.inl rfl) (λb q hb z=>(hs.2 b hb).trans z) he new
theorem Zhh (z:kvs.length<=sizeLine)(hd:(a == sysModules)=false)(rel:KV kvs vs)(dd:h'.DictOf (ZaD P w) a vs):
  ObjOk P w H' h' a (.dK kvs):=⟨z,hd,vs,rel,dd⟩
theorem Zjx (hu:A.units+1<cLine)(I:Inv X Bb U H s)(g:DPut H a y v H')(ry:RelV y u)(rv:RelV v r)(h:∀s',Inv X Bb U H' s'->Q () s'):
  wpAny (model X.prog X.w) A (setItem (.ref a) u r) Q E s:=by
 rcases g with⟨kvs,k,e,ey,l,eH⟩|⟨kvs,k,b,e,ey,eb,l,eH⟩
 .subst ey eH;obtain⟨z,hd,vs,rel,dd⟩:=ZhW I.hok e;have hz:vs.length<=sizeLine:=by rw[<-rel.length];exact z
  have hl:(putK kvs k v).length<=sizeLine:=by have:=ZbV kvs k v;omega
  refine wpAny_setItem_pairs (hsz:=hz) (ZfQ ry) dd λh' dd' hs=>h _ ?_;have he:∃q,h'.get? a=some q:=let ⟨q,_,_,hq,_⟩:=dd';⟨q,hq⟩;exact Zd3 I (by rw[e];exact True.intro) hs he (Zhh hl hd (rel.put k rv) dd')
 .subst ey eH;cases (show u=Value.ref b from ry);obtain⟨z,hd,xs,rel,dd⟩:=ZpZ I.hok e;have hz:xs.length<=sizeLine:=by rw[<-Paired.length rel];exact z
  have hl:(putK kvs k v).length<=sizeLine:=by have:=ZbV kvs k v;omega
  refine wpAny_setItem_heap (hsz:=hz) (tupleKind_room_in1 hu) (ZfO I.hok eb) dd λh' dd' hs=>h _ ?_;obtain⟨q,es,ep,hq,h2,h3,h4,_,h5⟩:=dd';refine Zd3 I (by rw[e];exact True.intro) hs ⟨q,hq⟩ ⟨hl,hd,_,(rel.put k eb rv).keeps λc ys ec=>?_,q,es,ep,hq,h2,h3,h4,h5⟩;rw[Zai (ZpR ec e (λz=>nomatch z))];exact ec
end
section
theorem Zox (I:Inv X Bb U H s)(e:H a=some (.dK kvs))(ry:RelV (kV k) u)(l:(valV kvs k).isSome=true)(h:∀s',Inv X Bb U (upd H a (.dK (ZdZ kvs k))) s'->Q () s'):
  wpAny (model X.prog X.w) A (delItem (.ref a) u) Q E s:=by
 obtain⟨z,hd,vs,rel,dd⟩:=ZhW I.hok e;refine wpAny_delItem_slot dd.typeIs (by decide) PySem.F.slot_dict_delitem
  (call_meetsIn PySem.F.slot_dict_delitem dd.typeIs PySem.F.entry_dict_delitem (PySem.F.args_dict_delitem_2 _ _) (meets_dict_delitem_pairs (ZaD X.prog X.w) a (ZfQ ry)) ⟨vs,dd,by rw[<-rel.length];exact z,by rw[<-(rel.val k).isSome_eq];exact l,λh' dd' hs=>h _ ?_⟩)
 have he:∃q,h'.get? a=some q:=let ⟨q,_,_,hq,_⟩:=dd';⟨q,hq⟩;exact Zd3 I (by rw[e];exact True.intro) hs he (Zhh (YAK (Zhg kvs k) z) hd (rel.drop k) dd')
theorem Zp3 (I:Inv X Bb U H s)(e:H a=some (.dK kvs))(ry:RelV (kV k) u)(l:valV kvs k=some v)(hm:more=[]\/∃x,more=[x])
  (h:∀w' s',Inv X Bb U (upd H a (.dK (ZdZ kvs k))) s'->RelV v w'->Q w' s'):wpAny (model X.prog X.w) A (call (.builtin "dict.pop") (.ref a::u::more)) Q E s:=by
 obtain⟨z,hd,vs,rel,dd⟩:=ZhW I.hok e;obtain⟨w',hw,rw'⟩:=RelO.some_of (v:=v) (o:=valueAt vs k) (by rw[<-l];exact rel.val k);have hp:(keyPart u).isSome=true:=by
  cases k with
  | inl i=>obtain⟨t,q⟩:=(show ∃t,u=Value.int i t from ry);subst q;rfl
  | inr x=>obtain⟨t,q⟩:=(show ∃t,u=Value.str x t from ry);subst q;rfl
 have ha:argsOk "dict.pop" ⟨.ref a::u::more,[]⟩:=by
  rcases hm with q | ⟨x,q⟩
  .subst q;exact PySem.F.args_dict_pop_2 _ _
  .subst q;exact PySem.F.args_dict_pop_3 _ _ _
 refine call_meetsIn PySem.F.slot_dict_pop dd.typeIs PySem.F.entry_dict_pop ha (meets_dict_pop_there (ZaD X.prog X.w) a (ZfQ ry) more hm hp)
  ⟨vs,w',dd,by rw[<-rel.length];exact z,hw,λh' dd' hs=>h w' _ ?_ rw'⟩
 have he:∃q,h'.get? a=some q:=let ⟨q,_,_,hq,_⟩:=dd';⟨q,hq⟩;exact Zd3 I (by rw[e];exact True.intro) hs he (Zhh (YAK (Zhg kvs k) z) hd (rel.drop k) dd')
theorem Zp4 (I:Inv X Bb U H s)(e:Rd H a (.dK kvs))(h:∀t s',Inv X Bb U H s'->Q (.int kvs.length t) s'):wpAny (model X.prog X.w) A (call (.builtin "len") [.ref a]) Q E s:=by obtain⟨z,hd,vs,rel,dd⟩:=Zgy I.hok e;refine call_len_dict hd dd (by rw[<-rel.length];rw[sizeLine_eq]at z;omega) ?_;rw[<-rel.length];exact h _ _ (I.tok _)
end
def NoSl (i:Expr):Prop:=∀ov iv,subscripted i false ov iv=operate [ov,iv] (getItem ov iv)
theorem Zlz {prog:AG}{w:AI}{A:AH}{E:Q33}{s:AE}{env:Env}{value slice:Expr}{pos:Pos}{T id:String}{Q:Q33}
  (hl:typeLookup (.type T) "__getitem__"=pure (some (.builtin id))) (hs:NoSl slice)
  (h:wpAny (model prog w) A (eval value env) (λo s_1=>wpAny (model prog w) A (eval slice env) (λi s_2=>s_2.TypeIs o T/\wpAny (model prog w) A (getItem o i) Q E s_2) E s_1) E s):
  wpAny (model prog w) A (eval (.Subscript value slice pos) env) Q E s:=by
 refine Subscript_ (YBI h (λo s_1 h9=>YBI h9 (λi s_2 h_2=>?_) λ_ _ x=>x) λ_ _ x=>x);obtain⟨hT,h_2⟩:=h_2;unfold subscriptTail;refine YAA ?_;rw[getitemInPython_of_ne hT.not_modules];refine YAA (wpAny_specialOf hT hl ?_);have fin:wpAny (model prog w) A (subscripted slice false o i) (λr s₃=>wpAny (model prog w) A (letTemporaryGo value o r >>= λ_=>pure r) Q E s₃) E s_2:=by rw[hs o i];exact wpAny_operating (YBI h_2 (λr s₃ h₃=>YAA (wpAny_letTemporaryGo (YAF h₃))) λ_ _ x=>x)
 first
  | exact YAF (YAA fin)
  | exact YAA (YAF (YAA fin))
  | exact YAA fin
theorem Zgz (I:Inv X Bb U H s)(g:DGet H a y o):s.TypeIs (.ref a) "dict":=by
 rcases g with⟨kvs,k,e,_,_⟩|⟨kvs,k,b,e,_,_,_⟩
 .obtain⟨_,_,vs,_,dd⟩:=Zgy I.hok e;exact dd.typeIs
 .obtain⟨_,_,xs,_,dd⟩:=ZhV I.hok e;exact dd.typeIs
def ZmZ (td ty:TE):TE:=λU H Q=>td U H λx H1=>ty U H1 λy H2=>∃a v,x=.ref a/\DGet H2 a y (some v)/\Q v H2
def tDIn (ty td:TE):TE:=λU H Q=>ty U H λy H1=>td U H1 λx H2=>∃a o,x=.ref a/\DGet H2 a y o/\Q (.bl o.isSome) H2
def Zig (ty td:TE):TE:=λU H Q=>ty U H λy H1=>td U H1 λx H2=>∃a o,x=.ref a/\DGet H2 a y o/\Q (.bl (!o.isSome)) H2
def Znb (td ty tv:TE):TS:=λD U H=>tv U H λv H1=>td U H1 λx H2=>ty U H2 λy H3=>∃a H4,x=.ref a/\DPut H3 a y v H4/\D.nx U H4
section
theorem ZeM (hu:X.A.units+1<cLine)(ho:PE X o td)(hi:PE X i ty)(hs:NoSl i):PE X (.Subscript o i pos) (ZmZ td ty):=by intro Bb s U H Q I h;refine Zlz PySem.F.slot_dict_getitem.lookup hs (thn (ho Bb s U H _ I h) λu s1 ⟨x,H1,I1,rx,q1⟩=>thn (hi Bb s1 U H1 _ I1 q1) λiv s2 zz=>?_);obtain⟨y,H2,I2,ry,a,v,ex,g,q2⟩:=zz;subst ex;obtain rfl:u=Value.ref a:=rx;exact⟨Zgz I2 g,Zjy hu I2 g ry λw' s3 I3 rw'=>⟨v,H2,I3,rw',q2⟩⟩
theorem Znp (hu:X.A.units+1<cLine)(hi:PE X i ty)(ho:PE X o td):PC X .In i o (tDIn ty td):=by intro Bb s U H Q I h;refine thn (hi Bb s U H _ I h) λiv s1 ⟨y,H1,I1,ry,q1⟩=>thn (ho Bb s1 U H1 _ I1 q1) λu s2 zz=>?_;obtain⟨x,H2,I2,rx,a,ov,ex,g,q2⟩:=zz;subst ex;obtain rfl:u=Value.ref a:=rx;exact d_in hu I2 g ry λs3 I3=>⟨.bl ov.isSome,H2,I3,rfl,q2⟩
theorem ZiF (hu:X.A.units+1<cLine)(hi:PE X i ty)(ho:PE X o td):PC X .NotIn i o (Zig ty td):=by intro Bb s U H Q I h;refine thn (hi Bb s U H _ I h) λiv s1 ⟨y,H1,I1,ry,q1⟩=>thn (ho Bb s1 U H1 _ I1 q1) λu s2 zz=>?_;obtain⟨x,H2,I2,rx,a,ov,ex,g,q2⟩:=zz;subst ex;obtain rfl:u=Value.ref a:=rx;exact ZmC hu I2 g ry λs3 I3=>⟨.bl (!ov.isSome),H2,I3,rfl,q2⟩
theorem Zgn (hu:X.A.units+1<cLine)(ho:PE X o td)(hi:PE X i ty)(hv:PE X value tv)(hs:swapsWith value (some (.Subscript o i pos')) pos.line X.env=pure false):
  PS X (.Assign [.Subscript o i pos'] value pos) (Znb td ty tv):=by
 intro Bb s U H D I h;refine wpAny_Assign_Subscript (thn (hv Bb s U H _ I h) λr s1 ⟨v,H1,I1,rv,q1⟩=>thn (ho Bb s1 U H1 _ I1 q1) λu s2 ⟨x,H2,I2,rx,q2⟩=>thn (hi Bb s2 U H2 _ I2 q2) λiv s3 zz=>?_) hs;obtain⟨y,H3,I3,ry,a,H4,ex,g,q3⟩:=zz;subst ex;obtain rfl:u=Value.ref a:=rx;exact Zjx hu I3 g ry rv λs4 I4=>⟨U,H4,I4,q3⟩
end
theorem Zhi (h:Heap)(hb:sysModules<h.objs.size):ObjOk P w H (h.push { cls:=.type "dict",data:=.dict #[] }) h.objs.size (.dK []):=
 ⟨YAx _,beq_eq_false_iff_ne.mpr (YAh (YAf hb)),[],.nil,Heap.DictOf.new h⟩
def tDNewK:TE:=λ_ H Q=>∀p,H p=none->Q (.ref p) (upd H p (.dK []))
section
theorem ZeL:PE X (.Dict [] [] pos) tDNewK:=λBb s U H Q I h=>
 wpAny_Dict_empty ⟨.ref s.heap.objs.size,_,I.laid (a:=s.heap.objs.size) (o:=.dK []) (t':=s.toks) (λ_ _ q=>YAB _ q) (YAS _) (Zhi s.heap I.big),rfl,h _ (I.hok.fresh (YAS _))⟩
end
def ZgP:List (TE×TE)->St->Hp->(List (V×V)->Hp->Prop)->Prop
 | [],_,H,Q=>Q [] H
 | (tk,tv)::r,U,H,Q=>tk U H λx H1=>tv U H1 λy H2=>ZgP r U H2 λps H3=>Q ((x,y)::ps) H3
abbrev VV:List (V×V)->List (Value×Value)->Prop:=Paired λp q=>RelV p.1 q.1/\RelV p.2 q.2
def PPs (X:Cx)(pos:Pos)(keys:List (Option Expr))(values:List Expr)(trs:List (TE×TE)):Prop:=
 ∀(Bb:AA) (s:AE) (U:St) (H:Hp) (Q:List (V×V)->Hp->Prop),Inv X Bb U H s->ZgP trs U H Q ->
  wpAny (model X.prog X.w) X.A (evalPairs (pairTrees keys values X.env pos)) (λvs s'=>∃ps H',Inv X Bb U H' s'/\VV ps vs/\Q ps H') X.xe s
theorem ZlS:PPs X pos [] [] []:=λBb s U H Q I h=>pairTrees_nil_walk ⟨[],H,I,.nil,h⟩
theorem Zj6 (hk:PE X k tk)(hv:PE X v tv)(hr:PPs X pos ks vs trs):
  PPs X pos (some k::ks) (v::vs) ((tk,tv)::trs):=λBb s U H Q I h=>
 pairTrees_cons_walk (thn (hk Bb s U H _ I h) λu s1 ⟨x,H1,I1,rx,q1⟩=>thn (hv Bb s1 U H1 _ I1 q1) λw2 s2 ⟨y,H2,I2,ry,q2⟩=>
  thn (hr Bb s2 U H2 _ I2 q2) λws s3 ⟨ps,H3,I3,rel,q3⟩=>⟨(x,y)::ps,H3,I3,.cons ⟨rx,ry⟩ rel,q3⟩)
def Zcp (kvs more:List (Key×V)):List (Key×V):=more.foldl (λacc kv=>putK acc kv.1 kv.2) kvs
theorem KV.merge:∀ {more:List (Key×V)} {rs:List (Key×Value)} {kvs:List (Key×V)} {vs:List (Key×Value)},KV more rs->KV kvs vs->KV (Zcp kvs more) (merged vs rs):=by
 intro more rs kvs vs r;unfold KV at r;induction r generalizing kvs vs with
 | nil=>intro q;exact q
 | @cons p q ps qs h t ih=>
  intro r0;have e:KV (putK kvs p.1 p.2) (stored vs q.1 q.2):=by have:=r0.put p.1 h.2;rw[<-h.1];exact this
  exact ih e
theorem ZcM:∀(more kvs:List (Key×V)),(Zcp kvs more).length<=kvs.length+more.length
 | [],kvs=>by show kvs.length<=kvs.length+0;omega
 | p::r,kvs=>by have h1:=ZcM r (putK kvs p.1 p.2);have h2:=ZbV kvs p.1 p.2;show (Zcp (putK kvs p.1 p.2) r).length<=_;rw[YAl];omega
theorem ZeA {P:AG}{w:AI}:∀ {kvs:List (Key×V)} {ws:List (Value×Value)},VV (kvs.map λkv=>(kV kv.1,kv.2)) ws->∃rs,Carries (ZaD P w) ws rs/\KV kvs rs
 | [],_,r=>by rw[YDQ]at r;cases r;exact⟨[],True.intro,.nil⟩
 | p::kvs,_,r=>by
  rw[YAc]at r;cases r with
  | @cons a b as bs h t=>
   obtain⟨rs,c,q⟩:=ZeA (P:=P) (w:=w) t;obtain⟨b1,b2⟩:=b;exact⟨(p.1,b2)::rs,⟨ZfQ h.1,rfl,c⟩,.cons ⟨rfl,h.2⟩ q⟩
def ZmW (trs:List (TE×TE)):TE:=λU H Q=>∀p,H p=none->ZgP trs U (upd H p (.dK [])) λps H2=>H2 p=some (.dK [])/\∃kvs:List (Key×V),ps=kvs.map (λkv=>(kV kv.1,kv.2))/\kvs.length<=15/\Q (.ref p) (upd H2 p (.dK (Zcp [] kvs)))
theorem ZlX (h:PPs X pos keys values trs)(hall:keys.all (·.isSome)=true)(hl:keys.length=values.length)(h0:keys≠[])
  (h15:keys.length<=15):PE X (.Dict keys values pos) (ZmW trs):=by
 intro Bb s U H Q I q;have hn:=I.hok.fresh (YAS s.heap.objs.size);have I1:=I.laid (a:=s.heap.objs.size) (o:=.dK []) (h':=s.heap.push { cls:=.type "dict",data:=.dict #[] }) (t':=s.toks) (λ_ _ q=>YAB _ q) (YAS _) (Zhi s.heap I.big);refine wpAny_Dict_walk (knd:=ZaD X.prog X.w) hall hl h0 h15 (thn (h Bb _ U _ _ I1 (q _ hn)) λws s2 zz=>?_);obtain⟨ps,H2,I2,rel,e,kvs,ep,lk,q2⟩:=zz;subst ep;obtain⟨rs,c,rk⟩:=ZeA (P:=X.prog) (w:=X.w) rel;obtain⟨z,hd,vs0,r0,dd⟩:=ZhW I2.hok e;cases r0;refine⟨rs,c,dd,λh' dd' hs=>⟨.ref s.heap.objs.size,_,?_,rfl,q2⟩⟩;have hz:(Zcp [] kvs).length<=sizeLine:=by have h1:=ZcM kvs [];rw[YCo]at h1;rw[sizeLine_eq];omega
 have he:∃q,h'.get? s.heap.objs.size=some q:=let ⟨q,_,_,hq,_⟩:=dd';⟨q,hq⟩;exact Zd3 I2 (by rw[e];exact True.intro) hs he (Zhh hz hd (rk.merge .nil) dd')
structure M1 (X:Cx)(o:Expr)(m:Str)(Bg:Pos)(e:Expr)(Bh:Pos):Prop where
 base:attributeBase o m X.env (eval o X.env)=eval o X.env
 few:((backTo Bh (starEach [e] X.env)).all (λx=>!x.1)&&(backToKw Bh (keywordEach [] X.env)).all (λx=>x.1.isSome)
  && decide (([e]:List Expr).length+([]:List Keyword).length+(if ([]:List Keyword).isEmpty then 0 else 1)<30))=true
 line:(Bg.endLine == Bh.line)=true
 trees:backTo Bh (starEach [e] X.env)=[(false,eval e X.env)]
structure M2 (X:Cx)(o:Expr)(m:Str)(Bg:Pos)(e f:Expr)(Bh:Pos):Prop where
 base:attributeBase o m X.env (eval o X.env)=eval o X.env
 few:((backTo Bh (starEach [e,f] X.env)).all (λx=>!x.1)&&(backToKw Bh (keywordEach [] X.env)).all (λx=>x.1.isSome)
  && decide (([e,f]:List Expr).length+([]:List Keyword).length+(if ([]:List Keyword).isEmpty then 0 else 1)<30))=true
 line:(Bg.endLine == Bh.line)=true
 trees:backTo Bh (starEach [e,f] X.env)=[(false,eval e X.env),(false,eval f X.env)]
def IsD (H:Hp)(a:AD):Prop:=(∃kvs,Rd H a (.dK kvs))\/∃kvs,Rd H a (.dT kvs)
theorem Zok (I:Inv X Bb U H s)(d:IsD H a):
  s.TypeIs (.ref a) "dict"/\(∀b,Value.ref a=.ref b->∃ob,s.heap.get? b=some ob/\ob.dict=none)/\(a == sysModules)=false:=by
 rcases d with⟨kvs,e⟩|⟨kvs,e⟩
 .obtain⟨_,hd,vs,_,dd⟩:=Zgy I.hok e;refine⟨dd.typeIs,λb q=>?_,hd⟩;cases q;obtain⟨ob,_,_,h1,h2,_⟩:=dd;exact⟨ob,h1,h2.2.1⟩
 .obtain⟨_,hd,xs,_,dd⟩:=ZhV I.hok e;refine⟨dd.typeIs,λb q=>?_,hd⟩;cases q;obtain⟨ob,_,_,h1,h2,_⟩:=dd;exact⟨ob,h1,h2.2.1⟩
section
end
def ZkR (td ty:TE):TE:=λU H Q=>td U H λx H1=>∃a,x=.ref a/\IsD H1 a/\ty U H1 λy H2=>∃kvs k v,H2 a=some (.dK kvs)/\y=kV k/\valV kvs k=some v/\Q v (upd H2 a (.dK (ZdZ kvs k)))
section
theorem Zj9 (ho:PE X o td) (he:PE X e ty) (m:M1 X o "pop" Bg e Bh):PE X (.Call (.Attribute o "pop" Bg) [e] [] Bh) (ZkR td ty):=by intro Bb s U H Q I h;refine wpAny_Call_method m.base m.few m.line PySem.F.plainAttrs_dict PySem.F.slot_dict_pop PySem.F.type_dict_pop (thn (ho Bb s U H _ I h) λu s1 zz=>?_);obtain⟨x,H1,I1,rx,a,ex,d,q1⟩:=zz;subst ex;obtain rfl:u=Value.ref a:=rx;obtain⟨t1,t2,_⟩:=Zok I1 d;refine⟨t1,t2,?_⟩;rw[m.trees];refine Calls.callWith_builtin rfl (Calls.evalArgs_plain (YCu (thn (he Bb s1 U H1 _ I1 q1) λiv s2 ⟨y,H2,I2,ry,kvs,k,v,ea,ey,l,q2⟩=>Calls.spliced_nil ?_)));subst ey;exact Zp3 I2 ea ry l (.inl rfl) λw' s3 I3 rw'=>⟨v,_,I3,rw',q2⟩
end
section
end
section
end
section
theorem ZjC:Zb0 X (.builtin "len") (λxs H Q=>∃a kvs,xs=[V.ref a]/\H a=some (.dK kvs)/\Q (.int kvs.length) H):=by intro Bb s U H xs us Q I r h;obtain⟨a,kvs,rfl,ha,q⟩:=h;obtain⟨u,rfl,ru⟩:=vals1 r;cases ru;exact Zp4 I (.inl ha) λt s' I'=>⟨.int kvs.length,H,I',⟨t,rfl⟩,q⟩
end
section
variable {κ:Type}[DecidableEq κ]
end
def clOf (cells:List (Str×AD)):List (Str×NameKind)->List (Str×AD)->List (Str×AD)
 | [],acc=>acc
 | (n,k)::r,acc=>if k == NameKind.free then clOf cells r ((n,(cells.lookup n).getD 0)::acc) else clOf cells r acc
theorem Ze7 {cells:List (Str×AD)}:∀(names:List (Str×NameKind)) (acc:List (Str×AD)) (p:Str×AD),p∈acc->p∈clOf cells names acc
 | [],_,_,h=>h
 | (n,k)::r,acc,p,h=>by
  unfold clOf;split
  .exact Ze7 r _ p (YAX _ h)
  .exact Ze7 r acc p h
theorem Ze8 {cells:List (Str×AD)}{x:Str}:∀(names:List (Str×NameKind)) (acc:List (Str×AD)),(x,NameKind.free)∈names->(x,(cells.lookup x).getD 0)∈clOf cells names acc
 | [],_,h=>by cases h
 | (n,k)::r,acc,h=>by
  unfold clOf;rcases YAE.mp h with e | h
  .have e1:x=n:=congrArg Prod.fst e;have e2:NameKind.free=k:=congrArg Prod.snd e;subst e1 e2;exact Ze7 r _ _ YAg
  .split
   .exact Ze8 r _ h
   .exact Ze8 r _ h
theorem ZgG {cells:List (Str×AD)}:∀(names:List (Str×NameKind)) (acc:List (Str×AD)) (p:Str×AD),p∈clOf cells names acc->p∈acc\/((p.1,NameKind.free)∈names/\p.2=(cells.lookup p.1).getD 0)
 | [],_,_,h=>.inl h
 | (n,k)::r,acc,p,h=>by
  unfold clOf at h;split at h
  .rename_i hk
   have hk':k=NameKind.free:=by simpa using hk
   rcases ZgG r _ p h with q | ⟨q,e⟩
   .rcases YAE.mp q with q | q
    .subst q;subst hk';exact .inr ⟨YAg,rfl⟩
    .exact .inl q
   .exact .inr ⟨YAX _ q,e⟩
  .rcases ZgG r _ p h with q | ⟨q,e⟩
   .exact .inl q
   .exact .inr ⟨YAX _ q,e⟩
theorem Zez (h:∀y∈sc.names,y.2=NameKind.free->∃c,env.cells.lookup y.1=some c):closureFor sc env=pure (clOf env.cells sc.names []):=by
 have all:∀(names:List (Str×NameKind)) (acc:List (Str×AD)),(∀y∈names,y.2=NameKind.free->∃c,env.cells.lookup y.1=some c) ->
   (forIn names acc λ(y:Str×NameKind) (cs:List (Str×AD))=>(if (y.2 == NameKind.free)=true then (do let a <-cellOf env y.1;pure (ForInStep.yield ((y.1,a)::cs))) else pure (ForInStep.yield cs):Sem (ForInStep (List (Str×AD)))))=pure (clOf env.cells names acc):=by
  intro names;induction names with
  | nil=>intro acc _;rfl
  | cons y r ih=>
   intro acc hy;obtain⟨n,k⟩:=y;rw[List.forIn_cons];unfold clOf;by_cases hk:k=NameKind.free
   .subst hk;obtain⟨c,hc⟩:=hy (n,NameKind.free) YAg rfl;have hc':env.cells.lookup n=some c:=hc;simp only[beq_self_eq_true,if_true,cellOf,hc',pure_bind,Option.getD_some];exact ih _ λz hz=>hy z (YAX _ hz)
   .have hb:(k == NameKind.free)=false:=by simpa using hk
    simp only[hb,YBp,if_false,pure_bind];exact ih _ λz hz=>hy z (YAX _ hz)
 have q:=all sc.names [] h;unfold closureFor;show (forIn sc.names [] λ(y:Str×NameKind) (cs:List (Str×AD))=>_) >>= _=_
 first
  | (rw[q];rfl)
  | (refine Eq.trans (congrArg (λt=>t >>= λcs=>pure cs) q) ?_;rfl)
structure CmpScope (X:Cx)(sc:Scope):Prop where
 kind:sc.kind=.function
 nocell:∀y∈sc.names,y.2≠NameKind.cell
 loc:∀y∈sc.names,y.2=NameKind.local->sc.names.lookup y.1=some .local
 clos:∀y∈sc.names,y.2=NameKind.free->(X.env.kindOf y.1=some .cell\/X.env.kindOf y.1=some .free)
def pick (ix:List (Option Nat))(U:St):St:=ix.map λo=>o.bind λi=>(U[i]?).join
def Zjj (N M:AJ)(sc:Scope)(ix:List (Option Nat)):Bool:=
 ix.length == N.length&&(N.zip ix).all λp=>match p.2 with | none=>true | some i=>decide (M[i]?=some p.1)&&decide (sc.names.lookup p.1=some NameKind.free)
def bx (X:Cx)(sc:Scope)(N:AJ)(fp:List AD)(s_0:AE)(H:Hp)(pn:AA):Cx:=
 { X with N:=N,s_0:=s_0,H_0:=H,env:=compEnvC sc (clOf X.env.cells sc.names []) s_0.heap.objs.size X.env,outer:=X.stack,stack:=X.stack,ex:=fp,fn:=λ_=>false,pn:=pn,xe:=λ_ _=>False }
theorem ZdC (h:(relabel sc env).names.lookup x=some k):(x,k)∈sc.names\/(k=.cell/\(x,NameKind.free)∈sc.names):=by
 have m:=YBl h;unfold relabel at m;obtain⟨⟨n,k'⟩,hm,e⟩:=YAt.mp m;dsimp only at e;split at e
 .rename_i hc
  have e1:n=x:=congrArg Prod.fst e;have e2:NameKind.cell=k:=congrArg Prod.snd e;have e3:k'=NameKind.free:=by rw[YAP,YAP]at hc;simpa using hc.1.1
  subst e1 e2 e3;exact .inr ⟨rfl,hm⟩
 .have e1:n=x:=congrArg Prod.fst e;have e2:k'=k:=congrArg Prod.snd e;subst e1 e2;exact .inl hm
theorem Zda {env:Env}{x:Str}:∀ {names:List (Str×NameKind)},names.lookup x=some NameKind.free ->
  (names.map λ(n,k)=>if (k == NameKind.free&&env.scope.kind == .function&&env.kindOf n == some .cell) then (n,NameKind.cell) else (n,k)).lookup x=some .cell \/
  (names.map λ(n,k)=>if (k == NameKind.free&&env.scope.kind == .function&&env.kindOf n == some .cell) then (n,NameKind.cell) else (n,k)).lookup x=some .free
 | [],h=>by simp at h
 | (n,k)::r,h=>by
  by_cases hx:x=n
  .subst hx;simp only[YBb,beq_self_eq_true]at h;cases h;simp only[YAc];split
   .left;simp[YBb]
   .right;simp[YBb]
  .have hb:(x == n)=false:=by simpa using hx
   simp only[YBb,hb]at h;have ih:=Zda (env:=env) h;simp only[YAc];split
   .simpa only[YBb,hb] using ih
   .simpa only[YBb,hb] using ih
theorem ZcK {α:Type}{x:Str}{c:α}:∀ {l:List (Str×α)},(x,c)∈l->∃c',l.lookup x=some c'
 | [],h=>by cases h
 | (n,d)::r,h=>by
  by_cases hx:x=n
  .subst hx;exact⟨d,by simp[YBb]⟩
  .have hb:(x == n)=false:=by simpa using hx
   rcases YAE.mp h with e | h
   .exact absurd (congrArg Prod.fst e) hx
   .obtain⟨c',e⟩:=ZcK h;exact⟨c',by simpa only[YBb,hb] using e⟩
section
theorem Inv.capt (I:Inv X Bb U H s)(S:CmpScope X sc):∀y∈sc.names,y.2=NameKind.free->∃c,X.env.cells.lookup y.1=some c:=λy hy e=>I.ok.has y.1 (S.clos y hy e)
theorem Inv.clcell (I:Inv X Bb U H s)(S:CmpScope X sc){x:Str}{c:AD}(h:(clOf X.env.cells sc.names []).lookup x=some c):X.env.cells.lookup x=some c:=by
 rcases ZgG _ _ _ (YBl h) with q | ⟨q,e⟩
 .cases q
 .obtain⟨c',hc⟩:=I.capt S _ q rfl;have hc':X.env.cells.lookup x=some c':=hc;have e':c=(X.env.cells.lookup x).getD 0:=e;rw[hc',Option.getD_some]at e';rw[e'];exact hc'
theorem Inv.clhas (I:Inv X Bb U H s)(S:CmpScope X sc){x:Str}(h:(x,NameKind.free)∈sc.names):∃c,(clOf X.env.cells sc.names []).lookup x=some c/\X.env.cells.lookup x=some c:=by obtain⟨c,e⟩:=ZcK (Ze8 (cells:=X.env.cells) sc.names [] h);exact⟨c,e,I.clcell S e⟩
theorem Inv.block (I:Inv X Bb U H s)(S:CmpScope X sc)(hix:Zjj N X.N sc ix=true)(hf:∀b∈fp,FpOk X Bb H b/\b<s.heap.objs.size)
  (hk:∀b o,s.heap.get? b=some o->h1.get? b=some o) (hn:h1.Ns s.heap.objs.size m):
  Inv (bx X sc N fp s H (X.pn++Bb)) [] (pick ix U) H { s with heap:=h1,toks:=tk }:=by
 have hC:∀b o,s.heap.get? b=some o->b≠s.heap.objs.size:=λb o e=>YAf (YAL e);have hcell:∀x c,(clOf X.env.cells sc.names []).lookup x=some c->∃v,s.heap.IsCell c v:=λx c e=>I.cell x c (I.clcell S e);have stk:∀b,b≠X.env.locals->b∉X.fs->b∉frs X.stack:=λb h1 h2 hb=>by
  rcases YAE.mp (I.stkSub b hb) with z | z
  .exact h1 z
  .exact h2 z
 rw[Zjj,YAP]at hix;refine⟨⟨I.ok.mod,S.kind,I.ok.glob,I.ok.blt,YAS _,?_,?_,?_,I.ok.hd,I.ok.frames,.inl rfl,?_,I.bs,YAK I.ok.bsz I.sz,?_,?_,I.stack,I.stkFree⟩,
  rfl,I.bare,Un.kept hk,⟨m,hn,?_⟩,?_,I.fresh,?_,?_,I.hok.kept hk,?_⟩
 .intro x y c e1 e2;exact I.ok.inj x y c (I.clcell S e1) (I.clcell S e2)
 .intro x hx;have hx:(relabel sc X.env).names.lookup x=some .cell\/(relabel sc X.env).names.lookup x=some .free:=hx;have hm:(x,NameKind.free)∈sc.names:=by
   rcases hx with hx | hx
   .rcases ZdC hx with q | ⟨_,q⟩
    .exact absurd rfl (S.nocell _ q)
    .exact q
   .rcases ZdC hx with q | ⟨q,_⟩
    .exact q
    .cases q
  obtain⟨c,e,_⟩:=I.clhas S hm;exact⟨c,e⟩
 .intro x c z;cases z
 .intro b hb;obtain⟨f,Bl⟩:=hf b hb;refine⟨YAf Bl,λx c e=>f.2.2.2.2.1 x c (I.clcell S e)⟩
 .intro b o e hb;obtain⟨⟨_,_,_,f3,_⟩,_⟩:=hf b hb;rcases f3 with z | z
  .exact I.ok.noex b o e z
  .exact absurd (YAL e) (Nat.not_lt.mpr (YAK I.ok.bsz z))
 .intro b hb;obtain⟨⟨_,f1,f2,_⟩,_⟩:=hf b hb;exact stk b f1 f2
 .intro i x v e1 e2 e3;have e1:N[i]?=some x:=e1;have hi:∃j,ix[i]?=some (some j)/\U[j]?=some (some v):=by
   unfold pick at e2;rw[YAi]at e2;cases q:ix[i]? with
   | none=>rw[q]at e2;cases e2
   | some o=>
    rw[q]at e2;cases o with
    | none=>cases e2
    | some j=>
     refine⟨j,rfl,?_⟩;have e4:(U[j]?).join=some v:=Option.some.inj e2;cases q2:U[j]? with
     | none=>rw[q2]at e4;cases e4
     | some w=>rw[q2]at e4;cases w with
      | none=>cases e4
      | some w=>rw[<-e4];rfl
  obtain⟨j,hj,hU⟩:=hi;have hz:(x,some j)∈N.zip ix:=by
   have q:(N.zip ix)[i]?=some (x,some j):=by rw[List.getElem?_zip_eq_some];exact⟨e1,hj⟩
   exact YAq q
  have hp:=YBD.mp hix.2 _ hz;dsimp only at hp;rw[YAP]at hp;have hM:X.N[j]?=some x:=of_decide_eq_true hp.1;have hfr:sc.names.lookup x=some NameKind.free:=of_decide_eq_true hp.2;have hmem:=YBl hfr;obtain⟨mo,hno,hlo⟩:=I.loc;have hvis:Vis X.env.scope x:=by
   rcases S.clos _ hmem rfl with z | z
   .exact .inr (.inl z)
   .exact .inr (.inr z)
  obtain⟨u,ru,l⟩:=hlo j x v hM hU hvis;refine⟨u,ru,.inr ⟨?_,?_⟩⟩
  .exact Zda (env:=X.env) hfr
  .obtain⟨c,e,e'⟩:=I.clhas S hmem;refine⟨c,e,?_⟩;rcases l with⟨k,_⟩|⟨_,c',ec,z⟩
   .rcases S.clos _ hmem rfl with q | q
    .rw[k]at q;cases q
    .rw[k]at q;cases q
   .rw[e']at ec;cases ec;obtain⟨o,ho,hd⟩:=z;exact⟨o,hk _ _ ho,hd⟩
 .intro x c e;obtain⟨v,o,ho,hd⟩:=hcell x c e;exact⟨v,o,hk _ _ ho,hd⟩
 .intro x c e;exact I.freeC x c (I.clcell S e)
 .intro p hp;have hp:p∈X.pn++Bb:=by
   rcases YAV.mp hp with z | z
   .exact z
   .cases z
  obtain⟨e,n,ne,nf,d⟩:=I.pin p hp;exact⟨hk _ _ e,n,hC _ _ e,stk p.1 ne nf,d⟩
 .show (pick ix U).length=N.length;unfold pick;rw[YAD];simpa using hix.1
theorem Inv.unblock (I:Inv X Bb U H s)(hf:∀b∈fp,FpOk X Bb H b)(J:Inv (bx X sc N fp s H (X.pn++Bb)) [] τ H' s')(hs:Heap.SameBut s.heap.objs.size s'.heap h'):
  Inv X Bb U H' { s' with heap:=h' }:=by
 have nC:∀b o,s.heap.get? b=some o->b≠s.heap.objs.size:=λb o e=>YAf (YAL e);have hfr:H' s.heap.objs.size=none:=J.free;have u:Un (frs X.stack) fp H H' s.heap s'.heap:=J.base;have ok:HOk X.prog X.w H' h':=λb ob e=>by
  refine(J.hok b ob e).stay (λc w' hc q=>(hs.2 c ?_).trans q) (λ_ q=>q) λ_ _ q=>q;rintro rfl;rcases hc with rfl | hc
  .rw[hfr]at e;cases e
  .rw[hfr]at hc;cases hc
 refine I.call' (ch:=fp) J.os ⟨λb o e n h1 h2=>(hs.2 b (nC b o e)).trans (u.keep b o e n h1 h2),λb o e n h1 h2=>?_,u.free,λb o e h2=>?_,u.tups,u.frzs,u.tbls⟩ ok J.bare λb hb=>?_
 .obtain⟨sl,q⟩:=u.slot b o e n h1 h2;exact⟨sl,(hs.2 b (nC b o e)).trans q⟩
 .obtain⟨o',q⟩:=u.there b o e h2;exact⟨o',(hs.2 b (nC b o e)).trans q⟩
 .obtain⟨_,f1,_,f3,f4,f5⟩:=hf b hb;exact⟨f3,f1,f4,f5⟩
end
def PIfs (X:Cx)(ifs:List Expr)(t:TT):Prop:=
 ∀(Bb:AA) (s:AE) (U:St) (H:Hp) (Q:Bool->Hp->Prop),Inv X Bb U H s->t U H Q ->
  wpAny (model X.prog X.w) X.A (forIn ifs true λc r=>if r=true then do let ok <-isTrue c X.env (eval c X.env);pure (ForInStep.yield ok) else pure (ForInStep.yield r)) (TP X Bb U Q) X.xe s
def tAll:TT:=λ_ H Q=>Q true H
theorem ZcF:PIfs X [] tAll:=λ_ _ _ H _ I h=>wpAny_tests_nil ⟨H,I,h⟩
theorem ZeH (h:PT X c t):PIfs X [c] t:=λBb s U H Q I q=>wpAny_tests_one (h Bb s U H Q I q)
theorem Zf2 (W:Nat->AE->Prop)
  (turn:∀n s,W n s->wpAny (model prog w) A (pyNext it) (λr s_1=>match r with
   | none=>R (.ok .next) s_1
   | some v=>wpAny (model prog w) A (letOwnedTupleGo tgt it v) (λ_ s1_'=>wpAny (model prog w) A (assign tgt env v) (λ_ s_2=>
     wpAny (model prog w) A (forIn ifs true λc r=>if r=true then do let ok <-isTrue c env (eval c env);pure (ForInStep.yield ok) else pure (ForInStep.yield r)) (λok s₃=>
      if ok=true then wpAny (model prog w) A (eval el env) (λx s₄=>
       wpAny (model prog w) A (call (.builtin "list.append") [acc,x]) (λ_ s₅=>∃m,m<n/\W m s₅) (λ_ _=>False) s₄) (λ_ _=>False) s₃
      else ∃m,m<n/\W m s₃) (λ_ _=>False) s_2) (λ_ _=>False) s1_') (λ_ _=>False) s_1) (λ_ _=>False) s)
  (n:Nat) (h:W n s):codeAny (model prog w) A (.compLoop (.ListComp el [⟨tgt,iter,ifs,0⟩] scp pos) 0 it acc env) R s:=by
 refine codeAny_loop rfl W (λn s hI=>?_) n h;show wpAny _ A ((compTurn (.ListComp el [⟨tgt,iter,ifs,0⟩] scp pos) 0 it acc env).onRaise (λx=>do noteFrame x env;theTreesLotGoes x)) _ _ s;refine wpAny_noted ?_;rw[compTurn_list];refine YAA (YDF (YAA (YBI (turn n s hI) (λr s1 q1=>?_) λ_ _ z=>z.elim)));cases r with
 | none=>exact YAF q1
 | some v=>
  refine YAA (YBI q1 (λ_ s1' q1'=>?_) λ_ _ z=>z.elim);refine YAA (YBI q1' (λ_ s2 q2=>YAA (YBI q2 (λok s3 q3=>?_) λ_ _ z=>z.elim)) λ_ _ z=>z.elim);cases ok with
  | false=>exact YAF ⟨rfl,q3⟩
  | true=>exact YAA (YAA (YBI q3 (λx s4 q4=>YAA (YBI q4 (λ_ s5 q5=>YAF (YAF ⟨rfl,q5⟩)) λ_ _ z=>z.elim)) λ_ _ z=>z.elim))
def Zlx (ix:List (Option Nat))(wi:TI)(g:TG)(tt:TT)(te:TE):TE:=λU H Q=>wi U H λJ H1=>∀acc,H1 acc=none->∃W:Nat->Nat->St->Hp->Prop,(∃m,W 0 m (pick ix U) (upd H1 acc (.lst []))) /\
 ∀i m τ H2,W i m τ H2->(J.stop i H2/\Q (.ref acc) H2)\/(J.go i H2/\∃Nx:St->Hp->Prop,(∀τ' H',Nx τ' H'->∃m',m'<m/\W (i+1) m' τ' H') /\
  ∀x H3,J.yld i H2 x H3->g x τ H3 λτ2 H4=>tt τ2 H4 λb H5=>if b=true then te τ2 H5 λy H6=>∃ys,H6 acc=some (.lst ys)/\ys.length<sizeLine/\Nx τ2 (upd H6 acc (.lst (ys++[y]))) else Nx τ2 H5)
section
theorem Zey {Q:VK}{Bb:AA}{s:AE}{U:St}{H:Hp}{it:AD}{fp:List AD}{tn:Nat->Heap->Prop}{J:It}{RR:Value->AD->Result->AE->Prop}
  (hc:X.calm=true) (S:CmpScope X sc) (hix:Zjj N X.N sc ix=true)
  (hg:∀fp s_0 H_0 pn,PG (bx X sc N fp s_0 H_0 pn) tg g) (ht:∀fp s_0 H_0 pn,PIfs (bx X sc N fp s_0 H_0 pn) ifs tt) (he:∀fp s_0 H_0 pn,PE (bx X sc N fp s_0 H_0 pn) elt te)
  (I:Inv X Bb U H s) (T:Turn X.prog X.w X.K tg J fp it tn) (st:tn 0 s.heap) (hf:∀b∈fp,FpOk X Bb H b)
  (q:∀acc,H acc=none->∃W:Nat->Nat->St->Hp->Prop,(∃m,W 0 m (pick ix U) (upd H acc (.lst []))) /\
   ∀i m τ H2,W i m τ H2->(J.stop i H2/\Q (.ref acc) H2)\/(J.go i H2/\∃Nx:St->Hp->Prop,(∀τ' H',Nx τ' H'->∃m',m'<m/\W (i+1) m' τ' H') /\
    ∀x H3,J.yld i H2 x H3->g x τ H3 λτ2 H4=>tt τ2 H4 λb H5=>if b=true then te τ2 H5 λy H6=>∃ys,H6 acc=some (.lst ys)/\ys.length<sizeLine/\Nx τ2 (upd H6 acc (.lst (ys++[y]))) else Nx τ2 H5))
  (hR:∀(acc:AD) (s₃ s':AE) (τ:St) (H':Hp),Inv X Bb U (upd H acc (.lst [])) s₃->(∀b∈fp,FpOk X Bb (upd H acc (.lst [])) b)->Inv (bx X sc N fp s₃ (upd H acc (.lst [])) (X.pn++Bb)) [] τ H' s'->Q (.ref acc) H' ->
   RR (.ref acc) s₃.heap.objs.size (.ok .next) s'):
  wpAny (model X.prog X.w) X.A (newList []) (λacc s₃=>wpAny (model X.prog X.w) X.A (newFunctionEnv sc X.env.globals (clOf X.env.cells sc.names []) [] X.env.qual none .none (some X.env)) (λcenv s₄=>
   codeAny (model X.prog X.w) X.A (.compStart (.ListComp elt [⟨tg,iter,ifs,0⟩] sc pos) 0 (.ref it) acc { cenv with scope:=relabel sc X.env }) (RR acc cenv.locals) s₄) X.xe s₃) X.xe s:=by
 refine YBk ?_;have hfr:=I.fresh;have I3:=I.lnew (its:=[]) (ys:=[]) (t':=s.toks) .nil (YAx _);have fne:∀b∈fp,b<s.heap.objs.size:=λb hb=>by obtain⟨o,e,_⟩:=T.obj 0 _ st b hb;exact YAL e
 have hf3:∀b∈fp,FpOk X Bb (upd H s.heap.objs.size (.lst [])) b:=λb hb=>by obtain⟨f0,f⟩:=hf b hb;refine⟨?_,f⟩;rw[Zai (YAf (fne b hb))];exact f0
 have q3:=q _ hfr;have st3:tn 0 (s.heap.push { cls:=.type "list",data:=.seq ([]:AC).toArray }):=T.keep _ _ _ st λb _ o e=>YAB _ e;generalize e3:({ s with heap:=s.heap.push { cls:=.type "list",data:=.seq ([]:AC).toArray },toks:=s.toks }:AE)=s3 at I3;have es3:s3.heap=s.heap.push { cls:=.type "list",data:=.seq ([]:AC).toArray }:=by rw[<-e3]
 rw[<-es3]at st3;have hf3':∀b∈fp,FpOk X Bb (upd H s.heap.objs.size (.lst [])) b/\b<s3.heap.objs.size:=λb hb=>⟨hf3 b hb,by rw[es3,YBW];exact YCx (fne b hb)⟩;refine wpAny_newFunctionEnv S.nocell (by intro y hy;cases hy) (λh9 hns1 hsb1=>?_) S.kind;have hk:∀b o,s3.heap.get? b=some o->h9.get? b=some o:=λb o e=>hsb1.extBut b o (YAf (YAL e)) (YAB _ e);have I4:=I3.block (N:=N) (ix:=ix) (tk:=s3.toks+([]:List (Str×Value)).length) S hix hf3' hk hns1;have st4:tn 0 h9:=T.keep _ _ _ st3 λb _ o e=>hk b o e;obtain⟨W,⟨m0,w0⟩,turn⟩:=q3;have statN:∀ {H':Hp},(∀b∈fp,H' b=none)->∀b∈fp,FpOk (bx X sc N fp s3 (upd H s.heap.objs.size (.lst [])) (X.pn++Bb)) [] H' b:=λ{H'} hn b hb=>by
  obtain⟨⟨_,f1,f2,f3,f4,f5⟩,Bl⟩:=hf3' b hb;refine⟨hn b hb,YAf Bl,λz=>?_,.inl hb,λx c e=>f4 x c (I3.clcell S e),λp hp=>?_⟩
  .rcases YAE.mp (I3.stkSub b z) with z | z
   .exact f1 z
   .exact f2 z
  .refine f5 p ?_;rcases YAV.mp hp with z | z
   .exact z
   .cases z
 have loop:∀s4:AE,s4={ s3 with heap:=h9,toks:=s3.toks+([]:List (Str×Value)).length } ->
   codeAny (model X.prog X.w) X.A (.compLoop (.ListComp elt [⟨tg,iter,ifs,0⟩] sc pos) 0 (.ref it) (.ref s.heap.objs.size) (compEnvC sc (clOf X.env.cells sc.names []) s3.heap.objs.size X.env)) (RR (.ref s.heap.objs.size) s3.heap.objs.size) s4:=by
  rintro s4 rfl;refine Zf2 (λn s'=>∃i τ H',Inv (bx X sc N fp s3 (upd H s.heap.objs.size (.lst [])) (X.pn++Bb)) [] τ H' s'/\tn i s'.heap/\(∀b∈fp,H' b=none)/\W i n τ H') ?_ m0 ⟨0,_,_,I4,st4,λb hb=>(hf3 b hb).1,w0⟩;rintro n s5 ⟨i,τ,H5,I5,st5,fr5,w5⟩;rcases turn i n τ H5 w5 with⟨stop,qn⟩|⟨go,Nx,hN,step⟩
  .refine thn (T.done (bx X sc N fp s3 (upd H s.heap.objs.size (.lst [])) (X.pn++Bb)) rfl rfl rfl hc i [] s5 τ H5 (λ_ _=>False) I5 (statN fr5) st5 stop) λr s6 zz=>?_;obtain⟨hr,I6⟩:=zz;subst hr;exact hR _ _ _ _ _ I3 hf3 I6 qn
  .refine thn (T.item (bx X sc N fp s3 (upd H s.heap.objs.size (.lst [])) (X.pn++Bb)) rfl rfl rfl hc i [] s5 τ H5 (λ_ _=>False) I5 (statN fr5) st5 go) λr s6 zz=>?_;obtain⟨u,hr,h6⟩:=zz;subst hr;refine thn h6 λ_ s7 zz=>?_;obtain⟨x,H7,I7,r7,y7,st7,fr7⟩:=zz;have I7':=I7.pinned (statN fr7) (T.obj _ _ st7);refine thn (hg _ _ _ _ _ s7 τ H7 x u _ I7' r7 (step x H7 y7)) λ_ s8 zz=>?_;obtain⟨τ8,H8,I8,q8⟩:=zz;have again:∀ {s9:AE} {τ9:St} {H9:Hp},Inv (bx X sc N fp s3 (upd H s.heap.objs.size (.lst [])) (X.pn++Bb)) ([]++Zft fp s7.heap) τ9 H9 s9->Nx τ9 H9 ->
     ∃m,m<n/\∃i τ H',Inv (bx X sc N fp s3 (upd H s.heap.objs.size (.lst [])) (X.pn++Bb)) [] τ H' s9/\tn i s9.heap/\(∀b∈fp,H' b=none)/\W i m τ H':=λ{s9 τ9 H9} I9 n9=>by
    obtain⟨m',hm,w9⟩:=hN τ9 H9 n9;refine⟨m',hm,i+1,τ9,H9,I9.unpinned,T.keep _ _ _ st7 λb hb o e=>(I9.pin (b,o) (YBN _ (YBN _ (Zcl hb e)))).1,λb hb=>?_,w9⟩;obtain⟨o,e,d⟩:=T.obj _ _ st7 b hb;exact(I9.pin (b,o) (YBN _ (YBN _ (Zcl hb e)))).2.1
   refine thn (ht _ _ _ _ _ s8 τ8 H8 _ I8 q8) λok s9 zz=>?_;obtain⟨H9,I9,q9⟩:=zz;cases ok with
   | false=>exact again I9 q9
   | true=>
    rw[YAM rfl]at q9 ⊢;refine thn (he _ _ _ _ _ s9 τ8 H9 _ I9 q9) λyv s10 zz=>?_;obtain⟨y,H10,I10,r10,ys,ha,hz,q10⟩:=zz;refine thn (ZbM _ s10 τ8 H10 (.ref s.heap.objs.size) [y] (.ref s.heap.objs.size) [yv] (λv H'=>v=.non/\Nx τ8 H') I10 rfl (.cons r10 .nil) ⟨_,ys,y,rfl,rfl,ha,hz,rfl,q10⟩) λ_ s11 zz=>?_;obtain⟨_,H11,I11,_,_,q11⟩:=zz;exact again I11 q11
 exact codeAny_compStart_list (loop _ rfl) (T.self _ 0 _ _ _ st4 (loop _ rfl))
theorem ZdF (hc:X.calm=true)(S:CmpScope X sc)(hix:Zjj N X.N sc ix=true)(hi:PI X tg iter wi)
  (hg:∀fp s_0 H_0 pn,PG (bx X sc N fp s_0 H_0 pn) tg g) (ht:∀fp s_0 H_0 pn,PIfs (bx X sc N fp s_0 H_0 pn) ifs tt) (he:∀fp s_0 H_0 pn,PE (bx X sc N fp s_0 H_0 pn) elt te)
  (hs:∀x,foldedSetIterable iter X.env x=pure x:=by intro _;rfl):PE X (.ListComp elt [⟨tg,iter,ifs,0⟩] sc pos) (Zlx ix wi g tt te):=by
 intro Bb s U H Q I h;rw[eval_ListComp];refine wpAny_comprehension_free (use:=none) rfl hs (Zez (I.capt S)) S.kind S.loc (thn (hi Bb s U H _ I h) λv s1 h1=>thn h1 λitv s2 h2=>?_);obtain⟨it,fp,tn,J,H2,e,I2,T,st2,f2,q⟩:=h2;subst e;refine Zey (Q:=Q) (RR:=λacc C=>compPost (model X.prog X.w) X.A X.xe none (EP X Bb U Q) acc C) hc S hix hg ht he I2 T st2 f2 q ?_;intro acc s3 s' τ H' I3 hf3 J' qq;obtain⟨m,hn,_⟩:=J'.loc;exact⟨m,hn,λh' hs'=>⟨.ref acc,H',I3.unblock hf3 J' hs',rfl,qq⟩⟩
theorem Zgo (hsw:swapsWith (.ListComp elt [⟨tg,iter,ifs,0⟩] sc pos) (some (.Name x px)) spos.line X.env=pure true)
  (hN:X.N.Nodup) (hi':X.N[i]?=some x) (hx:X.env.scope.names.lookup x=some .local) (hc:X.calm=true) (S:CmpScope X sc) (hix:Zjj N X.N sc ix=true) (hi:PI X tg iter wi)
  (hg:∀fp s_0 H_0 pn,PG (bx X sc N fp s_0 H_0 pn) tg g) (ht:∀fp s_0 H_0 pn,PIfs (bx X sc N fp s_0 H_0 pn) ifs tt) (he:∀fp s_0 H_0 pn,PE (bx X sc N fp s_0 H_0 pn) elt te)
  (hs:∀x,foldedSetIterable iter X.env x=pure x:=by intro _;rfl):PS X (.Assign [.Name x px] (.ListComp elt [⟨tg,iter,ifs,0⟩] sc pos) spos) (tAsg (Zlx ix wi g tt te) (Zdj i)):=by
 intro Bb s U H D I h;rw[exec_Assign_Name_used _ _ _ _ hsw];refine YAA (YDF (YAA ?_));show wpAny _ X.A (do let _ <-comprehension (.ListComp elt [⟨tg,iter,ifs,0⟩] sc pos) sc X.env _ (newList []) false (eval iter X.env) (some (assign (.Name x px) X.env))) _ _ s;refine YAA (YBI (wpAny_comprehension_free (use:=some (assign (.Name x px) X.env)) (Q:=λ_ s'=>SP X Bb D .next s') rfl hs (Zez (I.capt S)) S.kind S.loc
  (thn (hi Bb s U H _ I h) λv s1 h1=>thn h1 λitv s2 h2=>?_)) (λ_ s' hq=>YAF (YAF hq)) λ_ _ z=>z)
 obtain⟨it,fp,tn,J,H2,e,I2,T,st2,f2,q⟩:=h2;subst e;refine Zey (Q:=λy H1=>Zdj i y U H1 D.nx) (RR:=λacc C=>compPost (model X.prog X.w) X.A X.xe (some (assign (.Name x px) X.env)) (λ_ s'=>SP X Bb D .next s') acc C) hc S hix hg ht he I2 T st2 f2 q ?_;intro acc s3 s' τ H' I3 hf3 J' qq;show wpAny _ X.A (assign (.Name x px) X.env (.ref acc)) _ _ _;have I5:Inv X Bb U H' s':=I3.unblock hf3 J' (.refl ..);obtain⟨m,hn,_⟩:=J'.loc;have hn:s'.heap.Ns s3.heap.objs.size m:=hn;have hLC:s3.heap.objs.size≠X.env.locals:=Nat.ne_of_gt I3.lt;refine wpAny_assign_Name (Zfm I5 hN hi' (.inl hx) (v:=.ref acc) rfl (λs6 I6 ⟨a,sb,ha⟩=>?_) (.inr hx));have ea:a≠s3.heap.objs.size:=by
  rcases ha with ha | ha
  .rw[ha];exact YAh hLC
  .obtain⟨v,o,ho,_⟩:=I3.cell x a ha;exact YAf (YAL ho)
 refine⟨m,hn.sameBut sb (YAh ea),λh' hs'=>?_⟩;have hfr:H' s3.heap.objs.size=none:=J'.free;refine⟨_,H',?_,qq⟩;have ok:HOk X.prog X.w H' h':=λb ob e=>by
  refine(I6.hok b ob e).stay (λc w' hc q=>(hs'.2 c ?_).trans q) (λ_ q=>q) λ_ _ q=>q;rintro rfl;rcases hc with rfl | hc
  .rw[hfr]at e;cases e
  .rw[hfr]at hc;cases hc
 have l3:X.s_0.heap.objs.size<=s3.heap.objs.size:=I3.sz;have cne:∀y c,X.env.cells.lookup y=some c->c≠s3.heap.objs.size:=λy c e z=>by obtain⟨v,o,ho,_⟩:=I3.cell y c e;exact absurd (YAL ho) (by rw[z];exact YAv _)
 exact I6.turned (t':=s6.toks) (it:=s3.heap.objs.size) (λb o hb e=>(hs'.2 b hb).trans e) hfr hLC (.inr l3) cne λp hp z=>by have:=(I3.pin p hp).1;exact absurd (YAL this) (by rw[z];exact YAv _)
end
abbrev tx (l:Q11):V:=.str ⟨l.toArray⟩
theorem Zeg:tx a=tx b↔a=b:=by
 constructor
 .intro h;have h1:(⟨a.toArray⟩:Str)=⟨b.toArray⟩:=V.str.inj h;have h2:a.toArray=b.toArray:=congrArg Str.cps h1;simpa using h2
 .rintro rfl;rfl
theorem Zcs:decide (tx a=tx b)=decide (a=b):=by
 by_cases h:a=b
 .subst h;simp
 .rw[decide_eq_false h,decide_eq_false λz=>h (Zeg.mp z)]
theorem Zdh (l:Q11):(⟨l.toArray⟩:Str).length=l.length:=by show l.toArray.size=l.length;simp
def rT (C:Q11->Q11->Prop)(g:Q11->Q11->V):R2:=λx y H Q=>∃a b,x=tx a/\y=tx b/\C a b/\Q (g a b) H
def cut {α:Type}(l:List α)(lo hi:Option Int):List α:=(l.drop (HT.sIx l.length 0 lo)).take (HT.sIx l.length l.length hi-HT.sIx l.length 0 lo)
theorem Zex (l:List α)(lo hi:Option Int):(cut l lo hi).length<=l.length:=by unfold cut;rw[YAa,YAk];omega
theorem Zdd (l:List α)(b:Nat):cut l none (some (b:Int))=l.take b:=by
 unfold cut;rw[HT.sIx_nat,HT.sIx_none];apply YCz;intro i;simp only[YCq,YCr,Nat.zero_add,Nat.sub_zero];by_cases h1:i<min b l.length
 .rw[YAM h1,YAM (by omega)]
 .rw[YAI h1];by_cases h2:i<b
  .rw[YAM h2,YBe (by omega)]
  .rw[YAI h2]
theorem ZbY (l:List α)(a:Nat):cut l (some (a:Int)) none=l.drop a:=by
 unfold cut;rw[HT.sIx_nat,HT.sIx_none];apply YCz;intro i;simp only[YCq,YCr];by_cases h1:i<l.length-min a l.length
 .rw[YAM h1];congr 1;omega
 .rw[YAI h1,YBe (by omega)]
def clp (n:Nat)(v:Option Int)(d:Int):Int:=match v with
 | none=>d
 | some i=>max 0 (min (if i<0 then i+(n:Int) else i) (n:Int))
theorem Zlm (n d:Nat)(o:Option Int):clp n o (d:Int)=((HT.sIx n d o:Nat):Int):=by
 cases o with
 | none=>rw[HT.sIx_none];rfl
 | some v=>
  have:=HT.clip_eq v n d;unfold clp;dsimp only;rw[<-this];split<;>omega
theorem Zii (lo hi:Option Int)(n:Nat):Builtin.Str.strSliceIndices lo hi 1 n=(List.range (HT.sIx n n hi-HT.sIx n 0 lo)).map λk=>HT.sIx n 0 lo+k:=by
 have g:Builtin.Str.strSliceIndices lo hi 1 n=sliceRange (clp n lo ((0:Nat):Int)) (clp n hi (n:Int)) 1:=by cases lo<;>cases hi<;>rfl
 rw[g,Zlm,Zlm];generalize HT.sIx n 0 lo=a;generalize HT.sIx n n hi=b;unfold sliceRange;have hc:(if (1:Int)>0 then (if (a:Int)<(b:Int) then ((b:Int)-a+1-1)/1 else 0) else (if (a:Int)>(b:Int) then ((a:Int)-b-1-1)/(-1) else 0)).toNat=b-a:=by simp only[show (1:Int)>0 by decide,if_true,Int.ediv_one];split<;>omega
 dsimp only;rw[hc];apply YBx;intro k _;omega
theorem ZjT (l:Q11)(lo hi:Option Int):Txt.slice ⟨l.toArray⟩ lo hi=⟨(cut l lo hi).toArray⟩:=by
 have h1:=HT.sIx_le l.length 0 (YAx _) lo;have h2:=HT.sIx_le l.length l.length (YAS _) hi;unfold Txt.slice;rw[Zdh,Zii];have e:((List.range (HT.sIx l.length l.length hi-HT.sIx l.length 0 lo)).map λk=>HT.sIx l.length 0 lo+k).filterMap (λi=>l.toArray[i]?)=cut l lo hi:=by
  unfold cut;generalize HT.sIx l.length 0 lo=a at *;generalize HT.sIx l.length l.length hi=b at *;have hab:∀n,a+n<=l.length->((List.range n).map λk=>a+k).filterMap (λi=>l.toArray[i]?)=(l.drop a).take n:=by
   intro n;induction n with
   | zero=>intro _;simp
   | succ n ih=>
    intro hn;rw[YCL,YAy,List.filterMap_append,ih (by omega),List.take_add_one];have:(l.drop a)[n]?=l[a+n]?:=YCr;simp[this,YAN (show a+n<l.length by omega)]
  by_cases hle:a<=b
  .exact hab _ (by omega)
  .have:b-a=0:=by omega
   rw[this];simp
 split
 .rename_i hc
  simp only[beq_self_eq_true,YBt,YAD,YBd]at hc;have hc':HT.sIx l.length l.length hi-HT.sIx l.length 0 lo=l.length:=by simpa using hc
  have:cut l lo hi=l:=by
   unfold cut;have ha:HT.sIx l.length 0 lo=0:=by omega
   rw[hc',ha,YBV,YAp (YAS _)]
  rw[this]
 .show (⟨(List.filterMap (λi=>l.toArray[i]?) _).toArray⟩:Str)=_;rw[e]
section
theorem Za2:OpR X (binaryOp .Add) (rT (λa b=>a.length+b.length<=sizeLine) λa b=>tx (a++b)):=by
 rintro Bb s U H x y v u Q I rx ry ⟨a,b,rfl,rfl,hz,q⟩;refine ZhB Bb s U H _ _ v u Q I rx ry ⟨_,_,rfl,rfl,by rw[Zdh,Zdh];exact hz,?_⟩;have e:((⟨a.toArray⟩:Str)++(⟨b.toArray⟩:Str))=⟨(a++b).toArray⟩:=by show (⟨a.toArray++b.toArray⟩:Str)=_;simp
 rw[e];exact q
theorem ZhA:OpR X (compareOp .In) (λx y H Q=>∃c l,x=tx [c]/\y=tx l/\Q (.bl (decide (c∈l))) H):=by
 rintro Bb s U H x y v u Q I rx ry ⟨c,l,rfl,rfl,q⟩;refine Zfx Bb s U H _ _ v u Q I rx ry ⟨_,_,rfl,rfl,?_⟩;have e:=StrLaws.found_one ⟨l.toArray⟩ c;have e':(!(Builtin.Str.occurrences ⟨l.toArray⟩ ⟨[c].toArray⟩ 0 (⟨l.toArray⟩:Str).length 1).isEmpty)=decide (c∈l):=by rw[show ([c].toArray)=#[c] from rfl,e]
 rw[e'];exact q
theorem ZeN:OpR X (compareOp .NotIn) (λx y H Q=>∃c l,x=tx [c]/\y=tx l/\Q (.bl (!decide (c∈l))) H):=by
 rintro Bb s U H x y v u Q I rx ry ⟨c,l,rfl,rfl,q⟩;refine Zdc Bb s U H _ _ v u Q I rx ry ⟨_,_,rfl,rfl,?_⟩;have e:=StrLaws.found_one ⟨l.toArray⟩ c;have e':(!(Builtin.Str.occurrences ⟨l.toArray⟩ ⟨[c].toArray⟩ 0 (⟨l.toArray⟩:Str).length 1).isEmpty)=decide (c∈l):=by rw[show ([c].toArray)=#[c] from rfl,e]
 rw[e'];exact q
theorem ZdO:IxR X (λx y H Q=>∃l i c,x=tx l/\y=.int i/\l.length<=sizeLine/\atI l i=some c/\Q (tx [c]) H):=by rintro value slice Bb s U H x y v u Q I rx ry ⟨l,i,c,rfl,rfl,hz,h,q⟩ hs;exact Zog value slice Bb s U H _ _ v u Q I rx ry ⟨_,i,c,rfl,rfl,by rw[Zdh];exact hz,h,q⟩ hs
theorem ZcC:SlR X (λx lo hi H Q=>∃l,x=tx l/\l.length<=sizeLine/\Q (tx (cut l lo hi)) H):=by
 rintro Bb s U H x v vl vu lo hi sl Q I rx hs pl pu ⟨l,rfl,hz,q⟩;obtain⟨t,rfl⟩:=rx;refine⟨"str",_,F.slot_str_getitem.lookup,typeIs_str _ _ _,?_⟩;have part:∀ {v:Value} {o:Option Int},IsPart v o->∃p:Option (Int×Tok),v=partValue p/\p.map (·.1)=o:=λ{v o} h=>by
  cases h with
  | none=>exact⟨none,rfl,rfl⟩
  | int i t=>exact⟨some (i,t),rfl,rfl⟩
 obtain⟨a,rfl,ea⟩:=part pl;obtain⟨b,rfl,eb⟩:=part pu;refine wpAny_getItem_str_slice (l:=a) (u:=b) (st:=none) hs rfl ?_;have e:(if ((1:Int) == 1&&(Builtin.Str.strSliceIndices lo hi 1 (⟨l.toArray⟩:Str).length).length == (⟨l.toArray⟩:Str).length)=true then (⟨l.toArray⟩:Str) else ⟨((Builtin.Str.strSliceIndices lo hi 1 (⟨l.toArray⟩:Str).length).filterMap ((⟨l.toArray⟩:Str).cps[·]?)).toArray⟩)=⟨(cut l lo hi).toArray⟩:=ZjT l lo hi;unfold sliceMade slicePicked;rw[ea,eb];refine post_val_or_str ?_;refine⟨?_,λt' k=>?_⟩
 .show (if ((1:Int) == 1&&(Builtin.Str.strSliceIndices lo hi 1 (⟨l.toArray⟩:Str).length).length == (⟨l.toArray⟩:Str).length)=true then (⟨l.toArray⟩:Str) else ⟨((Builtin.Str.strSliceIndices lo hi 1 (⟨l.toArray⟩:Str).length).filterMap ((⟨l.toArray⟩:Str).cps[·]?)).toArray⟩).length<=sizeLine;rw[e,Zdh];exact YAK (Zex _ _ _) hz
 .refine⟨tx (cut l lo hi),H,I.tok _,⟨t',?_⟩,q⟩;exact congrArg (λz=>Value.str z t') e
def glue (sep:Q11):Q22->Q11
 | []=>[]
 | [x]=>x
 | x::r=>x++sep++glue sep r
theorem Ze2:∀ls:Q22,glue [] ls=ls.flatten
 | []=>rfl
 | [x]=>by simp[glue]
 | x::y::r=>by show x++[]++glue [] (y::r)=_;rw[Ze2 (y::r)];simp
theorem Zjd (sep:Q11):∀ls:Q22,Str.join ⟨sep.toArray⟩ (ls.map λl=>(⟨l.toArray⟩:Str))=⟨(glue sep ls).toArray⟩
 | []=>rfl
 | [x]=>rfl
 | x::y::r=>by have ih:=Zjd sep (y::r);show (⟨x.toArray⟩:Str)++⟨sep.toArray⟩++Str.join ⟨sep.toArray⟩ ((y::r).map λl=>(⟨l.toArray⟩:Str))=_;rw[ih];show (⟨x.toArray++sep.toArray++(glue sep (y::r)).toArray⟩:Str)=⟨(x++sep++glue sep (y::r)).toArray⟩;simp
theorem ZcX:∀ {ls:Q22} {us:AC},Vals (ls.map tx) us->StrsAre us (ls.map λl=>(⟨l.toArray⟩:Str))
 | [],us,r=>by
  rw[YDQ]at r;cases r;exact .nil
 | l::ls,us,r=>by
  rw[YAc]at r;cases r with
  | cons r1 r2=>
   obtain⟨t,e⟩:=r1;subst e;exact .cons _ t (ZcX r2)
theorem ZiT:MtM X "str.join" (λx vs H Q=>∃sep a ls,x=tx sep/\vs=[.ref a]/\H a=some (.lst (ls.map tx))/\(ls.map List.length).sum+ls.length*sep.length<=16777216/\Q (tx (glue sep ls)) H):=by
 rintro Bb s U H x vs v us Q I rx rv ⟨sep,a,ls,rfl,rfl,ha,hz,q⟩;obtain⟨t,rfl⟩:=rx;obtain⟨u,rfl,ru⟩:=rv.one;cases ru;obtain⟨_,its,n,r,_,e⟩:=I.lstM ha;refine join_list (PySem.IsL.isList e) (ZcX (by simpa using r)) ?_ λt' k=>?_
 .have e1:((ls.map λl=>(⟨l.toArray⟩:Str)).map (·.length)).sum=(ls.map List.length).sum:=by rw[YAu];congr 1;all_goals (apply YBx;intro l _;exact Zdh l)
  rw[e1,YAD,Zdh];exact hz
 .refine⟨tx (glue sep ls),H,I.tok _,⟨t',?_⟩,q⟩;have e2:Txt.join ⟨sep.toArray⟩ (ls.map λl=>(⟨l.toArray⟩:Str))=⟨(glue sep ls).toArray⟩:=by show Builtin.Str.glued _ _=_;rw[StrLaws.glued_eq_join,Zjd]
  rw[e2]
end
def Its (l:Q11):It:=⟨λi _=>i<l.length,λi H x H'=>H'=H/\∃c,l[i]?=some c/\x=tx [c],λi _=>l.length<=i⟩
theorem Zh9 {P:AG} {w:AI} {K:Q4} {tg:Expr} (l:Q11) (t:Tok) (it:AD) (ty:String) (hty:ty="str_ascii_iterator"\/ty="str_iterator"):Turn P w K tg (Its l) [it] it (λi h=>h.IsStrIter it ty ⟨l.toArray⟩ t i) where
 mem:=by simp
 obj:=λi h st b hb=>by
  have e:b=it:=by simpa using hb
  subst e;obtain⟨o,e,c,d⟩:=st;exact⟨o,e,λv z=>by rw[d]at z;cases z⟩
 keep:=λi h h' st k=>by obtain⟨o,e,r⟩:=st;exact⟨o,k it (by simp) o e,r⟩
 item:=by
  intro X hP hw hK hc i Bb s U H E I hf st hg;subst hP hw hK;obtain⟨f0,f1,f2,f3,f4,f5⟩:=hf it (by simp);have hg:i<l.length:=hg;have hx:(⟨l.toArray⟩:Str).cps[i]?=some l[i]:=by show l.toArray[i]?=some l[i];simp[hg]
  have fin:∀(h':Heap) (tk:Tok),h'.IsStrIter it ty ⟨l.toArray⟩ t (i+1)->Heap.SameBut it s.heap h' ->
    ∃u,some (Value.str ⟨#[l[i]]⟩ s.toks)=some u/\wpAny (model X.prog X.w) X.A (letOwnedTupleGo tg (.ref it) u) (λ_ s2=>∃x H',Inv X Bb U H' s2/\RelV x u/\(Its l).yld i H x H'/\s2.heap.IsStrIter it ty ⟨l.toArray⟩ t (i+1)/\∀b∈[it],H' b=none) E { s with heap:=h',toks:=tk }:=λh' tk st' sb=>by
   have I1:Inv X Bb U H { s with heap:=h',toks:=tk }:=I.turned (t':=tk) (λb o hb e=>(sb.2 b hb).trans e) f0 f1 f3 f4 f5;obtain⟨o,e,c,d⟩:=id st';refine⟨_,rfl,Zkr (s:={ s with heap:=h',toks:=tk }) e c d ?_ ⟨tx [l[i]],H,I1,⟨_,rfl⟩,⟨rfl,l[i],by simp[hg],rfl⟩,st',λb hb=>(hf b hb).1⟩⟩;rcases hty with rfl | rfl<;>decide
  rcases hty with rfl | rfl
  .exact wpAny_pyNext_ascii_item st hx λh' st' sb=>fin h' _ st' sb
  .exact wpAny_pyNext_wide_item st hx λh' st' sb=>fin h' _ st' sb
 done:=by
  intro X hP hw hK hc i Bb s U H E I hf st hg;subst hP hw hK;obtain⟨f0,f1,f2,f3,f4,f5⟩:=hf it (by simp);have hg:l.length<=i:=hg;have hx:(⟨l.toArray⟩:Str).cps[i]?=none:=by show l.toArray[i]?=none;simp[hg]
  rcases hty with rfl | rfl
  .exact wpAny_pyNext_ascii_end (I.ok.hd hc) st hx λh' eb=>⟨rfl,I.turned (t':=s.toks) (λb o hb e=>eb b o hb e) f0 f1 f3 f4 f5⟩
  .exact wpAny_pyNext_wide_end (I.ok.hd hc) st hx λh' eb=>⟨rfl,I.turned (t':=s.toks) (λb o hb e=>eb b o hb e) f0 f1 f3 f4 f5⟩
 self:=by
  intro A i s Q E st h;rcases hty with rfl | rfl
  .exact wpAny_pyIter_striter_ascii st h
  .exact wpAny_pyIter_striter_wide st h
section
def Zom (tl:TE):TI:=λU H R=>tl U H λx H1=>∃l,x=tx l/\R (Its l) H1
theorem ZeI (hl:PE X l tl):PI X tg l (Zom tl):=by
 intro Bb s U H R I h;refine thn (hl Bb s U H _ I h) λv s1 zz=>?_;obtain⟨x,H1,I1,r1,q1⟩:=zz;obtain⟨l,rfl,q⟩:=q1;obtain⟨t,rfl⟩:=r1;have fin:∀ty,(ty="str_ascii_iterator"\/ty="str_iterator")->PIE X Bb U tg R (.ref s1.heap.objs.size) { s1 with heap:=s1.heap.push { cls:=.type ty,data:=.fields #[.str ⟨l.toArray⟩ t,.int 0 0] } }:=λty hty=>by
  refine⟨s1.heap.objs.size,[s1.heap.objs.size],_,_,H1,rfl,I1.kept (t':=s1.toks) λb o e=>YAB _ e,Zh9 l t _ ty hty,⟨_,YAQ _ rfl,rfl,rfl⟩,λb hb=>?_,q⟩;have e:b=s1.heap.objs.size:=by simpa using hb
  subst e;exact I1.fpOk (YAS _) (I1.hok.fresh (YAS _))
 cases ha:(⟨l.toArray⟩:Str).cps.all (· < 128)
 .exact wpAny_pyIter_wide ha (fin _ (.inr rfl))
 .exact wpAny_pyIter_ascii ha (fin _ (.inl rfl))
end
theorem Zkt {l:Q11}{g:TG}{tb:TS}{D:Ends}{U:St}{H:Hp}(Pv:Nat->St->Hp->Prop)(h0:Pv 0 U H)
  (hs:∀i c U H,l[i]?=some c->Pv i U H->g (tx [c]) U H λU2 H2=>tb { D with nx:=Pv (i+1),ct:=Pv (i+1),bk:=D.nx } U2 H2) (hd:∀U H,Pv l.length U H->D.nx U H):
  ∃W:Nat->Nat->St->Hp->Prop,(∃m,W 0 m U H)/\∀i m U H,W i m U H ->
   ((Its l).stop i H/\D.nx U H)\/((Its l).go i H/\∃N:St->Hp->Prop,(∀U' H',N U' H'->∃m',m'<m/\W (i+1) m' U' H')/\∀x H',(Its l).yld i H x H'->g x U H' λU2 H2=>tb { D with nx:=N,ct:=N,bk:=D.nx } U2 H2):=by
 refine⟨λi m U H=>m=l.length-i/\i<=l.length/\Pv i U H,⟨l.length,by simp,YAx _,h0⟩,?_⟩;rintro i m U H ⟨rfl,hi,p⟩;by_cases Bl:i<l.length
 .refine .inr ⟨Bl,Pv (i+1),λU' H' p'=>⟨l.length-(i+1),by omega,rfl,Bl,p'⟩,λx H' y=>?_⟩;obtain⟨e,c,hc,y⟩:=y;subst e y;exact hs i c U _ hc p
 .have e:i=l.length:=by omega
  subst e;exact .inl ⟨YAS _,hd U H p⟩
inductive DT where
 | f (v:V)
 | l (xs:List DT)
 | t (xs:List DT)
section
variable (K:Q4)(H:Hp)
mutual
def DatOk:DT->V->Prop
 | .f w,v=>v=w/\Zbe w=true
 | .l ds,v=>∃a vs,v=.ref a/\SqL K H a vs/\DatsOk ds vs
 | .t ds,v=>∃a vs,v=.ref a/\SqT K H a vs/\DatsOk ds vs
def DatsOk:List DT->List V->Prop
 | [],vs=>vs=[]
 | d::ds,vs=>∃v r,vs=v::r/\DatOk d v/\DatsOk ds r
end
end
mutual
def deq:DT->DT->Bool
 | .f v,.f w=>eqV v w
 | .l xs,.l ys=>deqs xs ys
 | .t xs,.t ys=>deqs xs ys
 | .f _,.l _=>false
 | .f _,.t _=>false
 | .l _,.f _=>false
 | .t _,.f _=>false
 | .l _,.t _=>false
 | .t _,.l _=>false
def deqs:List DT->List DT->Bool
 | [],[]=>true
 | x::xs,y::ys=>deq x y&&deqs xs ys
 | [],_::_=>false
 | _::_,[]=>false
end
mutual
def dep:DT->Nat
 | .f _=>0
 | .l xs=>deps xs+1
 | .t xs=>deps xs+1
def deps:List DT->Nat
 | []=>0
 | x::xs=>max (dep x) (deps xs)
end
theorem Zds (h:Zbe v=true):eqV v v=true:=by cases v<;>first | rfl | (simp[eqV];done) | exact absurd (show false=true from h) YAC
theorem DatsOk.length {K:Q4}{H:Hp}:∀ {ds:List DT} {vs:List V},DatsOk K H ds vs->vs.length=ds.length
 | [],vs,h=>by
  unfold DatsOk at h;subst h;rfl
 | d::ds,vs,h=>by unfold DatsOk at h;obtain⟨v,r,rfl,_,hr⟩:=h;rw[YAl,YAl,DatsOk.length hr]
def ZaY (xs ys:List DT)(j:Nat):Bool:=match xs[j]?,ys[j]? with
 | some x,some y=>deq x y
 | _,_=>false
theorem ZgB:∀xs ys:List DT,deqs xs ys=((List.range (min xs.length ys.length)).all (ZaY xs ys)&&xs.length == ys.length)
 | [],[]=>by simp[deqs]
 | [],_::_=>by simp[deqs]
 | _::_,[]=>by simp[deqs]
 | x::xs,y::ys=>by
  have e:min (x::xs).length (y::ys).length=min xs.length ys.length+1:=by simp only[YAl];omega
  have e2:∀j,ZaY (x::xs) (y::ys) (j+1)=ZaY xs ys j:=λj=>by simp[ZaY]
  have e3:ZaY (x::xs) (y::ys) 0=deq x y:=by simp[ZaY]
  rw[deqs,ZgB xs ys,e,List.range_succ_eq_map,List.all_cons,e3,List.all_map];have e4:((λj=>ZaY (x::xs) (y::ys) j) ∘ Nat.succ)=ZaY xs ys:=by funext j;exact e2 j
  have e5:(ZaY (x::xs) (y::ys) ∘ Nat.succ)=ZaY xs ys:=e4;rw[e5,Bool.and_assoc];simp
mutual
theorem DatOk.uniq {K:Q4}{X:Cx}{Bb:AA}{U:St}{H:Hp}{s:AE}(I:Inv X Bb U H s):∀(d e:DT) (v:V),DatOk X.K H d v->DatOk X.K H e v->deq d e=true
 | .f w,.f u,v,h1,h2=>by
  unfold DatOk at h1 h2;obtain⟨rfl,hf⟩:=h1;obtain⟨e,_⟩:=h2;subst e;unfold deq;exact Zds hf
 | .f w,.l ys,v,h1,h2=>by
  unfold DatOk at h1 h2;obtain⟨rfl,hf⟩:=h1;obtain⟨a,vs,rfl,_⟩:=h2;exact absurd (show false=true from hf) YAC
 | .f w,.t ys,v,h1,h2=>by
  unfold DatOk at h1 h2;obtain⟨rfl,hf⟩:=h1;obtain⟨a,vs,rfl,_⟩:=h2;exact absurd (show false=true from hf) YAC
 | .l xs,.f w,v,h1,h2=>by
  unfold DatOk at h1 h2;obtain⟨rfl,hf⟩:=h2;obtain⟨a,vs,rfl,_⟩:=h1;exact absurd (show false=true from hf) YAC
 | .t xs,.f w,v,h1,h2=>by
  unfold DatOk at h1 h2;obtain⟨rfl,hf⟩:=h2;obtain⟨a,vs,rfl,_⟩:=h1;exact absurd (show false=true from hf) YAC
 | .l xs,.l ys,v,h1,h2=>by
  unfold DatOk at h1 h2;obtain⟨a,vs,rfl,q1,r1⟩:=h1;obtain⟨b,ws,e,q2,r2⟩:=h2;cases e;have:=I.list_inj q1 q2;subst this;unfold deq;exact DatsOk.uniq (K:=K) I xs ys vs r1 r2
 | .t xs,.t ys,v,h1,h2=>by
  unfold DatOk at h1 h2;obtain⟨a,vs,rfl,q1,r1⟩:=h1;obtain⟨b,ws,e,q2,r2⟩:=h2;cases e;have:=I.tuple_inj q1 q2;subst this;unfold deq;exact DatsOk.uniq (K:=K) I xs ys vs r1 r2
 | .l xs,.t ys,v,h1,h2=>by
  unfold DatOk at h1 h2;obtain⟨a,vs,rfl,q1,r1⟩:=h1;obtain⟨b,ws,e,q2,r2⟩:=h2;cases e;obtain⟨_,_,⟨o,n,e1,c1,_⟩,_⟩:=I.list q1;obtain⟨_,_,⟨o',e2,c2,_⟩,_⟩:=I.tuple q2;rw[e1]at e2;cases e2;rw[c1]at c2;exact absurd c2 (by simp)
 | .t xs,.l ys,v,h1,h2=>by unfold DatOk at h1 h2;obtain⟨a,vs,rfl,q1,r1⟩:=h1;obtain⟨b,ws,e,q2,r2⟩:=h2;cases e;obtain⟨_,_,⟨o',e2,c2,_⟩,_⟩:=I.tuple q1;obtain⟨_,_,⟨o,n,e1,c1,_⟩,_⟩:=I.list q2;rw[e1]at e2;cases e2;rw[c1]at c2;exact absurd c2 (by simp)
theorem DatsOk.uniq {K:Q4}{X:Cx}{Bb:AA}{U:St}{H:Hp}{s:AE}(I:Inv X Bb U H s):∀(xs ys:List DT) (vs:List V),DatsOk X.K H xs vs->DatsOk X.K H ys vs->deqs xs ys=true
 | [],[],vs,h1,h2=>by unfold deqs;rfl
 | [],y::ys,vs,h1,h2=>by
  unfold DatsOk at h1 h2;subst h1;obtain⟨_,_,e,_⟩:=h2;cases e
 | x::xs,[],vs,h1,h2=>by
  unfold DatsOk at h1 h2;subst h2;obtain⟨_,_,e,_⟩:=h1;cases e
 | x::xs,y::ys,vs,h1,h2=>by unfold DatsOk at h1 h2;obtain⟨v,r,rfl,a1,a2⟩:=h1;obtain⟨v',r',e,b1,b2⟩:=h2;cases e;unfold deqs;rw[DatOk.uniq (K:=K) I x y v a1 b1,DatsOk.uniq (K:=K) I xs ys r a2 b2];rfl
end
section
open SeqAt
theorem Ze4 (hf:Zbe w=true)(r:RelV w u)(hl:s.heap.IsList l items)(hu:A.units<cLine):EqAt A s u (.ref l) false/\EqAt A s (.ref l) u false/\RcAt A s u (.ref l) false/\RcAt A s (.ref l) u false/\RcNeAt A s u (.ref l) true/\RcNeAt A s (.ref l) u true:=by
 cases w with
 | non=>cases r;exact⟨.none_list hl hu,.list_none hl hu,.none_list hl hu,.list_none hl hu,.none_list hl hu,.list_none hl hu⟩
 | bl b=>cases r;exact⟨.bool_list b hl hu,.list_bool b hl hu,.bool_list b hl hu,.list_bool b hl hu,.bool_list b hl hu,.list_bool b hl hu⟩
 | int i=>obtain⟨t,rfl⟩:=r;exact⟨.int_list i t hl hu,.list_int i t hl hu,.int_list i t hl hu,.list_int i t hl hu,.int_list i t hl hu,.list_int i t hl hu⟩
 | str i=>obtain⟨t,rfl⟩:=r;exact⟨.str_list i t hl hu,.list_str i t hl hu,.str_list i t hl hu,.list_str i t hl hu,.str_list i t hl hu,.list_str i t hl hu⟩
 | _=>exact absurd (show false=true from hf) YAC
theorem Ze3 (hf:Zbe w=true)(r:RelV w u)(hl:s.heap.IsTuple l items)(hu:A.units<cLine):EqAt A s u (.ref l) false/\EqAt A s (.ref l) u false/\RcAt A s u (.ref l) false/\RcAt A s (.ref l) u false/\RcNeAt A s u (.ref l) true/\RcNeAt A s (.ref l) u true:=by
 cases w with
 | non=>cases r;exact⟨.none_tuple hl hu,.tuple_none hl hu,.none_tuple hl hu,.tuple_none hl hu,.none_tuple hl hu,.tuple_none hl hu⟩
 | bl b=>cases r;exact⟨.bool_tuple b hl hu,.tuple_bool b hl hu,.bool_tuple b hl hu,.tuple_bool b hl hu,.bool_tuple b hl hu,.tuple_bool b hl hu⟩
 | int i=>obtain⟨t,rfl⟩:=r;exact⟨.int_tuple i t hl hu,.tuple_int i t hl hu,.int_tuple i t hl hu,.tuple_int i t hl hu,.int_tuple i t hl hu,.tuple_int i t hl hu⟩
 | str i=>obtain⟨t,rfl⟩:=r;exact⟨.str_tuple i t hl hu,.tuple_str i t hl hu,.str_tuple i t hl hu,.tuple_str i t hl hu,.str_tuple i t hl hu,.tuple_str i t hl hu⟩
 | _=>exact absurd (show false=true from hf) YAC
theorem Zng {A:AH}{l b:AD}{ps qs:AC}{xs ys:List DT}(hl:s.heap.IsList l ps.toArray)(hb:s.heap.IsList b qs.toArray)(n1:ps.length=xs.length)(n2:qs.length=ys.length)(hu:A.units<cLine)
  (he:∀j (h1:j<ps.length) (h2:j<qs.length),EqAt A.in1 s ps[j] qs[j] (ZaY xs ys j)):RcAt A s (.ref l) (.ref b) (deqs xs ys)/\RcNeAt A s (.ref l) (.ref b) (!deqs xs ys):=by
 rw[ZgB];by_cases hz:ps.length=qs.length
 .have hsz:ps.toArray.size=qs.toArray.size:=by rw[YAJ,YAJ];exact hz
  have e1:((List.range (min xs.length ys.length)).all (ZaY xs ys)&&xs.length == ys.length)=(List.range ps.toArray.size).all (ZaY xs ys):=by
   have:xs.length=ys.length:=by omega
   rw[YAJ,n1,<-this,Nat.min_self];simp
  rw[e1];exact⟨RcAt.lists hl hb hsz hu λj j1 j2=>by simpa using he j (by simpa using j1) (by simpa using j2),RcNeAt.lists hl hb hsz hu λj j1 j2=>by simpa using he j (by simpa using j1) (by simpa using j2)⟩
 .have e1:((List.range (min xs.length ys.length)).all (ZaY xs ys)&&xs.length == ys.length)=false:=by
   have:xs.length≠ys.length:=by omega
   simp[this]
  rw[e1];have hsz:(ps.toArray.size != qs.toArray.size)=true:=by rw[YAJ,YAJ];simpa using hz
  exact⟨RcAt.lists_lengths hl hb hsz hu,RcNeAt.lists_lengths hl hb hsz hu⟩
theorem Znf {A:AH}{l b:AD}{ps qs:AC}{xs ys:List DT}(hl:s.heap.IsTuple l ps.toArray)(hb:s.heap.IsTuple b qs.toArray)(n1:ps.length=xs.length)(n2:qs.length=ys.length)(hu:A.units<cLine)
  (he:∀j (h1:j<ps.length) (h2:j<qs.length),EqAt A.in1 s ps[j] qs[j] (ZaY xs ys j)):RcAt A s (.ref l) (.ref b) (deqs xs ys)/\RcNeAt A s (.ref l) (.ref b) (!deqs xs ys):=by
 have e1:deqs xs ys=((List.range (min ps.toArray.size qs.toArray.size)).all (ZaY xs ys)&&ps.toArray.size == qs.toArray.size):=by rw[ZgB,YAJ,YAJ,n1,n2]
 rw[e1];exact⟨RcAt.tuples hl hb hu λj j1 j2=>by simpa using he j (by simpa using j1) (by simpa using j2),RcNeAt.tuples hl hb hu λj j1 j2=>by simpa using he j (by simpa using j1) (by simpa using j2)⟩
mutual
theorem Zow (I:Inv X Bb U H s):∀(d e:DT) (A:AH) (x y:V) (u v:Value),DatOk X.K H d x->DatOk X.K H e y->RelV x u->RelV y v->A.units+dep d<cLine->EqAt A s u v (deq d e)
 | .f w,.f w',A,x,y,u,v,h1,h2,ru,rv,hu=>by
  unfold DatOk at h1 h2;obtain⟨rfl,f1⟩:=h1;obtain⟨rfl,f2⟩:=h2;unfold deq;exact Zlj ru rv f1 f2
 | .f w,.l ys,A,x,y,u,v,h1,h2,ru,rv,hu=>by
  unfold DatOk at h1 h2;obtain⟨rfl,f1⟩:=h1;obtain⟨a,vs,rfl,q,_⟩:=h2;cases rv;obtain⟨its,_,p,_⟩:=I.list q;unfold deq;exact(Ze4 f1 ru p.isList (by unfold dep at hu;omega)).1
 | .f w,.t ys,A,x,y,u,v,h1,h2,ru,rv,hu=>by
  unfold DatOk at h1 h2;obtain⟨rfl,f1⟩:=h1;obtain⟨a,vs,rfl,q,_⟩:=h2;cases rv;obtain⟨its,_,p,_⟩:=I.tuple q;unfold deq;exact(Ze3 f1 ru (show s.heap.IsTuple a its.toArray from p) (by unfold dep at hu;omega)).1
 | .l xs,.f w,A,x,y,u,v,h1,h2,ru,rv,hu=>by
  unfold DatOk at h1 h2;obtain⟨rfl,f1⟩:=h2;obtain⟨a,vs,rfl,q,_⟩:=h1;cases ru;obtain⟨its,_,p,_⟩:=I.list q;unfold deq;exact(Ze4 f1 rv p.isList (by omega)).2.1
 | .t xs,.f w,A,x,y,u,v,h1,h2,ru,rv,hu=>by
  unfold DatOk at h1 h2;obtain⟨rfl,f1⟩:=h2;obtain⟨a,vs,rfl,q,_⟩:=h1;cases ru;obtain⟨its,_,p,_⟩:=I.tuple q;unfold deq;exact(Ze3 f1 rv (show s.heap.IsTuple a its.toArray from p) (by omega)).2.1
 | .l xs,.t ys,A,x,y,u,v,h1,h2,ru,rv,hu=>by
  unfold DatOk at h1 h2;obtain⟨a,vs,rfl,q,_⟩:=h1;obtain⟨b,ws,rfl,q',_⟩:=h2;cases ru;cases rv;obtain⟨its,_,p,_⟩:=I.list q;obtain⟨its',_,p',_⟩:=I.tuple q';unfold deq;exact EqAt.list_tuple p.isList (show s.heap.IsTuple b its'.toArray from p') (by omega)
 | .t xs,.l ys,A,x,y,u,v,h1,h2,ru,rv,hu=>by
  unfold DatOk at h1 h2;obtain⟨a,vs,rfl,q,_⟩:=h1;obtain⟨b,ws,rfl,q',_⟩:=h2;cases ru;cases rv;obtain⟨its,_,p,_⟩:=I.tuple q;obtain⟨its',_,p',_⟩:=I.list q';unfold deq;exact EqAt.tuple_list (show s.heap.IsTuple a its.toArray from p) p'.isList (by omega)
 | .l xs,.l ys,A,x,y,u,v,h1,h2,ru,rv,hu=>by
  by_cases hxy:x=y
  .subst hxy;rw[DatOk.uniq (K:=X.K) I (.l xs) (.l ys) x h1 h2];unfold DatOk at h1;obtain⟨a,vs,rfl,_⟩:=h1;cases ru;cases rv;exact EqAt.same _
  .unfold DatOk at h1 h2;obtain⟨a,vs,rfl,q,d1⟩:=h1;obtain⟨b,ws,rfl,q',d2⟩:=h2;cases ru;cases rv;obtain⟨its,r,p,_⟩:=I.list q;obtain⟨its',r',p',_⟩:=I.list q';unfold deq;unfold dep at hu;refine EqAt.of_refs (λe=>hxy (by rw[e])) (Zng p.isList p'.isList (by rw[<-r.length,d1.length]) (by rw[<-r'.length,d2.length]) (by omega) λj j1 j2=>?_).1;exact ZdX I xs ys A.in1 vs ws its its' d1 d2 r r' (by show A.units+1+_<_;omega) j j1 j2
 | .t xs,.t ys,A,x,y,u,v,h1,h2,ru,rv,hu=>by
  by_cases hxy:x=y
  .subst hxy;rw[DatOk.uniq (K:=X.K) I (.t xs) (.t ys) x h1 h2];unfold DatOk at h1;obtain⟨a,vs,rfl,_⟩:=h1;cases ru;cases rv;exact EqAt.same _
  .unfold DatOk at h1 h2;obtain⟨a,vs,rfl,q,d1⟩:=h1;obtain⟨b,ws,rfl,q',d2⟩:=h2;cases ru;cases rv;obtain⟨its,r,p,_⟩:=I.tuple q;obtain⟨its',r',p',_⟩:=I.tuple q';unfold deq;unfold dep at hu;refine EqAt.of_refs (λe=>hxy (by rw[e])) (Znf (show s.heap.IsTuple a its.toArray from p) (show s.heap.IsTuple b its'.toArray from p') (by rw[<-r.length,d1.length]) (by rw[<-r'.length,d2.length]) (by omega) λj j1 j2=>?_).1;exact ZdX I xs ys A.in1 vs ws its its' d1 d2 r r' (by show A.units+1+_<_;omega) j j1 j2
theorem ZdX (I:Inv X Bb U H s):∀(xs ys:List DT) (A:AH) (vs ws:List V) (ps qs:AC),DatsOk X.K H xs vs->DatsOk X.K H ys ws->Vals vs ps->Vals ws qs->A.units+deps xs<cLine ->
  ∀(j:Nat) (h1:j<ps.length) (h2:j<qs.length),EqAt A s ps[j] qs[j] (ZaY xs ys j)
 | [],ys,A,vs,ws,ps,qs,d1,d2,r1,r2,hu,j,h1,h2=>by
  unfold DatsOk at d1;subst d1;cases r1;exact absurd h1 (Nat.not_lt_zero _)
 | x::xs,[],A,vs,ws,ps,qs,d1,d2,r1,r2,hu,j,h1,h2=>by
  unfold DatsOk at d2;subst d2;cases r2;exact absurd h2 (Nat.not_lt_zero _)
 | x::xs,y::ys,A,vs,ws,ps,qs,d1,d2,r1,r2,hu,j,h1,h2=>by
  unfold DatsOk at d1 d2;obtain⟨v,vr,rfl,a1,a2⟩:=d1;obtain⟨w,wr,rfl,b1,b2⟩:=d2;unfold deps at hu;cases r1 with
  | cons ru rus=>
   cases r2 with
   | cons rv rvs=>
    cases j with
    | zero=>
     have:=Zow I x y A v w _ _ a1 b1 ru rv (by omega);simpa [ZaY] using this
    | succ j=>
     have:=ZdX I xs ys A vr wr _ _ a2 b2 rus rvs (by omega) j (Nat.lt_of_succ_lt_succ h1) (Nat.lt_of_succ_lt_succ h2);simpa [ZaY] using this
end
theorem Zne (I:Inv X Bb U H s){d e:DT}{A:AH}{x y:V}{u v:Value}(h1:DatOk X.K H d x)(h2:DatOk X.K H e y)(ru:RelV x u)(rv:RelV y v)(hu:A.units+dep d<cLine)(hn:¬(Zbe x=true/\Zbe y=true)):
  RcAt A s u v (deq d e)/\RcNeAt A s u v (!deq d e):=by
 cases d with
 | f w=>
  unfold DatOk at h1;obtain⟨rfl,f1⟩:=h1;cases e with
  | f w'=>
   unfold DatOk at h2;obtain⟨rfl,f2⟩:=h2;exact absurd ⟨f1,f2⟩ hn
  | l ys=>
   unfold DatOk at h2;obtain⟨a,vs,rfl,q,_⟩:=h2;cases rv;obtain⟨its,_,p,_⟩:=I.list q;have z:=Ze4 (A:=A) f1 ru p.isList (by omega);unfold deq;exact⟨z.2.2.1,z.2.2.2.2.1⟩
  | t ys=>
   unfold DatOk at h2;obtain⟨a,vs,rfl,q,_⟩:=h2;cases rv;obtain⟨its,_,p,_⟩:=I.tuple q;have z:=Ze3 (A:=A) f1 ru (show s.heap.IsTuple a its.toArray from p) (by omega);unfold deq;exact⟨z.2.2.1,z.2.2.2.2.1⟩
 | l xs=>
  unfold DatOk at h1;obtain⟨a,vs,rfl,q,d1⟩:=h1;cases ru;obtain⟨its,r,p,_⟩:=I.list q;cases e with
  | f w=>
   unfold DatOk at h2;obtain⟨rfl,f1⟩:=h2;have z:=Ze4 (A:=A) f1 rv p.isList (by omega);unfold deq;exact⟨z.2.2.2.1,z.2.2.2.2.2⟩
  | l ys=>
   unfold DatOk at h2;obtain⟨b,ws,rfl,q',d2⟩:=h2;cases rv;obtain⟨its',r',p',_⟩:=I.list q';unfold deq;unfold dep at hu;exact Zng p.isList p'.isList (by rw[<-r.length,d1.length]) (by rw[<-r'.length,d2.length]) (by omega) λj j1 j2=>ZdX I xs ys A.in1 vs ws its its' d1 d2 r r' (by show A.units+1+_<_;omega) j j1 j2
  | t ys=>
   unfold DatOk at h2;obtain⟨b,ws,rfl,q',d2⟩:=h2;cases rv;obtain⟨its',r',p',_⟩:=I.tuple q';unfold deq;exact⟨RcAt.list_tuple p.isList (show s.heap.IsTuple b its'.toArray from p') (by omega),RcNeAt.list_tuple p.isList (show s.heap.IsTuple b its'.toArray from p') (by omega)⟩
 | t xs=>
  unfold DatOk at h1;obtain⟨a,vs,rfl,q,d1⟩:=h1;cases ru;obtain⟨its,r,p,_⟩:=I.tuple q;cases e with
  | f w=>
   unfold DatOk at h2;obtain⟨rfl,f1⟩:=h2;have z:=Ze3 (A:=A) f1 rv (show s.heap.IsTuple a its.toArray from p) (by omega);unfold deq;exact⟨z.2.2.2.1,z.2.2.2.2.2⟩
  | t ys=>
   unfold DatOk at h2;obtain⟨b,ws,rfl,q',d2⟩:=h2;cases rv;obtain⟨its',r',p',_⟩:=I.tuple q';unfold deq;unfold dep at hu;exact Znf (show s.heap.IsTuple a its.toArray from p) (show s.heap.IsTuple b its'.toArray from p') (by rw[<-r.length,d1.length]) (by rw[<-r'.length,d2.length]) (by omega) λj j1 j2=>ZdX I xs ys A.in1 vs ws its its' d1 d2 r r' (by show A.units+1+_<_;omega) j j1 j2
  | l ys=>
   unfold DatOk at h2;obtain⟨b,ws,rfl,q',d2⟩:=h2;cases rv;obtain⟨its',r',p',_⟩:=I.list q';unfold deq;exact⟨RcAt.tuple_list (show s.heap.IsTuple a its.toArray from p) p'.isList (by omega),RcNeAt.tuple_list (show s.heap.IsTuple a its.toArray from p) p'.isList (by omega)⟩
end
def rEqD (K:Q4)(neg:Bool):R2:=λx y H Q=>(scal x y=true/\Q (.bl (if neg then !decide (x=y) else decide (x=y))) H) \/
 ∃d e,DatOk K H d x/\DatOk K H e y/\¬(Zbe x=true/\Zbe y=true)/\dep d<=60/\Q (.bl (if neg then !deq d e else deq d e)) H
theorem Zk2 (hu:X.A.units+64<cLine):OpR X (compareOp .Eq) (rEqD X.K false):=by
 intro Bb s U H x y v u Q I rx ry h;rcases h with⟨h1,q⟩|⟨d,e,h1,h2,hn,hd,q⟩
 .exact Zpw Bb s U H x y v u Q I rx ry ⟨h1,q⟩
 .exact(Zne I h1 h2 rx ry (by omega) hn).1 _ _ _ _ ⟨.bl _,H,I,rfl,q⟩
theorem Zk1 (hu:X.A.units+64<cLine):OpR X (compareOp .NotEq) (rEqD X.K true):=by
 intro Bb s U H x y v u Q I rx ry h;rcases h with⟨h1,q⟩|⟨d,e,h1,h2,hn,hd,q⟩
 .exact Zpt Bb s U H x y v u Q I rx ry ⟨h1,q⟩
 .exact(Zne I h1 h2 rx ry (by omega) hn).2 _ _ _ _ ⟨.bl _,H,I,rfl,q⟩
theorem DatOk.same {K:Q4}{H H':Hp}(hl:∀a xs,SqL K H a xs->SqL K H' a xs)(ht:∀a xs,SqT K H a xs->SqT K H' a xs):∀ {d:DT} {v:V},DatOk K H d v->DatOk K H' d v:=by
 have both:∀d:DT,(∀v,DatOk K H d v->DatOk K H' d v):=by
  intro d;refine DT.rec (motive_1:=λd=>∀v,DatOk K H d v->DatOk K H' d v) (motive_2:=λds=>∀vs,DatsOk K H ds vs->DatsOk K H' ds vs) ?_ ?_ ?_ ?_ ?_ d
  .intro w v h;unfold DatOk at h ⊢;exact h
  .intro xs ih v h;unfold DatOk at h ⊢;obtain⟨a,vs,e,q,r⟩:=h;exact⟨a,vs,e,hl a vs q,ih vs r⟩
  .intro xs ih v h;unfold DatOk at h ⊢;obtain⟨a,vs,e,q,r⟩:=h;exact⟨a,vs,e,ht a vs q,ih vs r⟩
  .intro vs h;unfold DatsOk at h ⊢;exact h
  .intro x xs h1 h2 vs h;unfold DatsOk at h ⊢;obtain⟨v,r,e,a,b⟩:=h;exact⟨v,r,e,h1 v a,h2 r b⟩
 exact λ{d v} h=>both d v h
theorem Same.seqT {K:Q4}{H H':Hp}{a:AD}{xs:List V}(e:Same H H')(h:SqT K H a xs):SqT K H' a xs:=by
 rcases h with (h | ⟨o,h⟩) | h
 .exact .inl (.inl (e _ _ h))
 .exact .inl (.inr ⟨o,e _ _ h⟩)
 .exact .inr h
theorem Same.dat {K:Q4}{H H':Hp}(e:Same H H'){d:DT}{v:V}(h:DatOk K H d v):DatOk K H' d v:=h.same (λ_ _ q=>e.seq q) (λ_ _ q=>e.seqT q)
theorem Ze6 {K:Q4}{H:Hp}:∀ {vs:List V},vs.all Zbe=true->DatsOk K H (vs.map DT.f) vs
 | [],_=>by unfold DatsOk;rfl
 | v::r,h=>by rw[List.all_cons,YAP]at h;rw[YAc];unfold DatsOk;exact⟨v,r,rfl,by unfold DatOk;exact⟨rfl,h.1⟩,Ze6 h.2⟩
theorem ZcQ (vs:List V):deps (vs.map DT.f)=0:=by
 induction vs with
 | nil=>rfl
 | cons v r ih=>rw[YAc];unfold deps;rw[ih];rfl
theorem Zlh (a b:Q11):eqV (tx a) (tx b)=decide (tx a=tx b):=by
 rw[Zcs];show ((⟨a.toArray⟩:Str) == ⟨b.toArray⟩)=_;by_cases h:a=b
 .subst h;simp
 .rw[decide_eq_false h];exact beq_eq_false_iff_ne.mpr λz=>h (Zeg.mp (congrArg V.str z))
theorem datL {K:Q4}{H:Hp}{a:AD}{vs:List V}(h:SqL K H a vs)(hf:vs.all Zbe=true):DatOk K H (.l (vs.map DT.f)) (.ref a):=by unfold DatOk;exact⟨a,vs,rfl,h,Ze6 hf⟩
theorem datT {K:Q4}{H:Hp}{a:AD}{vs:List V}(h:SqT K H a vs)(hf:vs.all Zbe=true):DatOk K H (.t (vs.map DT.f)) (.ref a):=by unfold DatOk;exact⟨a,vs,rfl,h,Ze6 hf⟩
theorem datF {K:Q4}{H:Hp}{v:V}(hf:Zbe v=true):DatOk K H (.f v) v:=by unfold DatOk;exact⟨rfl,hf⟩
end L2
namespace L2
open PySem PySem.Spec PyProof.Rows
open PySem.W (Frag findIn specialIn typeIn mroIn clsIn InstAt Looks)
def Zfh:AC:=[.type "ValueError",.type "Exception",.type "BaseException",.type "object"]
def Zk9:Value->Bool
 | .ref _=>true
 | _=>false
def xmro (l:AC):Bool:=l.dropWhile Zk9 == Zfh
theorem ZeB {P:AC->Prop}(h0:P Zfh)(h1:∀c r,P r->P (.ref c::r)):∀l:AC,xmro l=true->P l
 | [],e=>by simp[xmro,Zfh]at e
 | v::r,e=>by
  cases hv:Zk9 v with
  | true=>
   cases v with
   | ref c=>
    refine h1 c r (ZeB h0 h1 r ?_);unfold xmro at e ⊢;rw[List.dropWhile_cons,YAM hv]at e;exact e
   | _=>cases hv
  | false=>
   unfold xmro at e;rw[List.dropWhile_cons,YAI (by rw[hv];exact YAC)]at e;rw[show (v::r)=Zfh by simpa using e];exact h0
theorem Zit (self:Value):refuseLoop self "__setattr__" Zfh=pure ():=by
 first | rfl | kernel_rfl
theorem Zj3 (self:Value){l:AC}(e:xmro l=true):refuseLoop self "__setattr__" l=pure ():=
 ZeB (P:=λl=>refuseLoop self "__setattr__" l=pure ()) (Zit self) (λc r h=>by rw[refuseLoop_ref];exact h) l e
theorem Zcj (h:Zfh.contains (.type n)=b){l:AC}(e:xmro l=true):l.contains (.type n)=b:=
 ZeB (P:=λl=>l.contains (.type n)=b) h (λc r h=>by rw[YAZ,h];rfl) l e
structure Xc (K:Frag)(C:AD):Prop where
 ga:findIn K (.ref C) "__getattribute__"=some (some (.builtin "BaseException.__getattribute__"))
 gr:findIn K (.ref C) "__getattr__"=some none
 sa:findIn K (.ref C) "__setattr__"=some (some (.builtin "object.__setattr__"))
 hd:PySem.W.hasDictIn K C=true
 mr:(clsIn K C).any (λcd=>xmro cd.mro)=true
theorem Zh1 (e:xmro l=true):l.isEmpty=false:=by
 cases l with
 | nil=>simp[xmro,Zfh]at e
 | cons _ _=>rfl
theorem Xc.base {K:Frag}{C:AD}(c:Xc K C){n:String}{b:Bool}(h:Zfh.contains (.type n)=b):mroIn K C (.type n)=some b:=by obtain⟨cd,hc,hm⟩:=YCO c.mr;unfold PySem.W.mroIn;rw[hc,YBq,YAI (by rw[Zh1 hm];exact YAC),Zcj h hm]
def xo (a C:AD)(d:Option AD):HO:=.ext λh=>∃(o:Obj) (t:AD),h.get? a=some o/\o.cls=.ref C/\o.dict=d/\o.data=.fields #[.ref t,.none,.none,.none,.bool false,.none]
def xdO (d:AD)(fs:List (Str×V)):HO:=.ext λh=>fs.length<=1000/\∃mA,h.Ns1 d mA/\(∀f,RelO (fs.lookup f) (mA f))/\PySem.Within mA (fs.map (·.1))
inductive XAt (H:Hp) (e C:AD):List (Str×V)->Prop where
 | bare:H e=some (xo e C none)->XAt H e C []
 | full {d:AD} {fs:List (Str×V)}:H e=some (xo e C (some d))->H d=some (xdO d fs)->d≠e->XAt H e C fs
theorem ZmP (h:H a=some o):upd H a o=H:=by
 funext b;unfold upd;by_cases hb:b=a
 .rw[YAM hb,hb,h]
 .rw[YAI hb]
theorem XAt.same (x:XAt H e C fs)(s:Same H H'):XAt H' e C fs:=by
 cases x with
 | bare h=>exact .bare (s _ _ h)
 | full h1 h2 h3=>exact .full (s _ _ h1) (s _ _ h2) h3
section
theorem Zc8 (I:Inv X Bb U H s)(h:H e=some (xo e C d)):∃(o:Obj) (t:AD),s.heap.get? e=some o/\o.cls=.ref C/\o.dict=d/\o.data=.fields #[.ref t,.none,.none,.none,.bool false,.none]:=(I.hok e _ h).1
theorem Zlq (h1:h.get? e=some o)(h2:o.cls=.ref C)(h3:o.dict=d)(h4:o.data=.fields #[.ref t,.none,.none,.none,.bool false,.none]):ObjOk P w H h e (xo e C d):=
 ⟨⟨o,t,h1,h2,h3,h4⟩,⟨o,h1⟩,λa b ⟨o,t,q1,q⟩ k=>⟨o,t,k o q1,q⟩⟩
theorem Zh2 (hz:fs.length<=1000)(h1:h.Ns1 d mA)(h2:∀f,RelO (fs.lookup f) (mA f))(h3:PySem.Within mA (fs.map (·.1))):ObjOk P w H h d (xdO d fs):=by obtain⟨o,es,ep,ho,r⟩:=id h1;refine⟨⟨hz,mA,h1,h2,h3⟩,⟨o,ho⟩,λa b ⟨hz,m,⟨o,es,ep,q,r⟩,z⟩ k=>⟨hz,m,⟨o,es,ep,k o q,r⟩,z⟩⟩
theorem XAt.inst (I:Inv X Bb U H s)(x:XAt H e C fs):∃(ox:Obj) (od:Option Obj),InstAt s.heap e ox C od/\∀name,∃r,(match od with | some o=>PySem.W.lookIn name o | none=>some none)=some r/\RelO (fs.lookup name) r:=by
 cases x with
 | bare h=>
  obtain⟨o,t,h1,h2,h3,h4⟩:=Zc8 I h;exact⟨o,none,⟨h1,h2,by unfold PySem.W.notCls;rw[h4],by rw[h3];trivial⟩,λname=>⟨none,rfl,by trivial⟩⟩
 | @full d _ h h' hne=>
  obtain⟨o,t,h1,h2,h3,h4⟩:=Zc8 I h;obtain⟨⟨_,mA,hn,hr,_⟩,_⟩:=I.hok d _ h';obtain⟨od,hod,hl⟩:=ZdM hn;exact⟨o,some od,⟨h1,h2,by unfold PySem.W.notCls;rw[h4],by rw[h3];exact hod⟩,λname=>⟨mA name,hl name,hr name⟩⟩
theorem ZfY:entryFor table "BaseException.__getattribute__"=some Builtin.«object.__getattribute__»:=F.entry_bexc_ga
theorem Zho {K:Frag}{x:AD}{ox:Obj}{od:Option Obj}{name:Str}{expr:Bool}{u:Value}{prog:AG}{w:AI}{Q:Q33}(KX:K.In s.heap)(I:InstAt s.heap x ox C od)(c:Xc K C)
  (hf:PySem.W.findObj K C od name=some (.value u)) (hh:PySem.W.handedIn u=true) (h:Q u { s with toks:=s.toks+1 }):wpAny (model prog w) A (getAttr (.ref x) name expr) Q E s:=by
 obtain⟨hp,g,d,t,os⟩:=s;have L0:=I.type (M:=model prog w);have L1:=YBj (M:=model prog w) KX c.ga;have L2:=YBj (M:=model prog w) KX c.gr;have L3:=PySem.W.looks_find (M:=model prog w) KX I hf;have L4:=YDI (M:=model prog w) KX (c.base (n:="BaseException") (b:=true) (by decide +kernel));have hx2:(Value.builtin "BaseException.__getattribute__" == Value.builtin "object.__getattribute__")=false:=by decide +kernel
 have slot:=F.excAttr_ValueError.ga;unfold getAttr getAttrBy;refine YAA (wpAny_mkText (YAz (YAA (L0.at (YAA (L1.at ?_))))));dsimp only;rw[hx2,YCE,YAI YAC];unfold getAttrByItsOwn hookBefore;refine YAA ?_;show wpAny _ _ (if onTheHeap (Value.ref C)=true then typeLookup (.ref C) "__getattr__" else pure none) _ _ _;rw[YAM (show onTheHeap (Value.ref C)=true from rfl)];refine L2.at (YAA (YCa (YAz ?_)));unfold callGetattribute;rw[show (expr&&onTheHeap (Value.builtin "BaseException.__getattribute__"))=false from YCE _,YAI YAC];unfold boundAndCalled;rw[slot.bind];refine YAA (YAF ?_);show wpAny _ _ (call (.builtin "BaseException.__getattribute__") [.ref x,.str name t]) _ _ _;refine YCI (codeAny_call_builtin slot.plain ZfY ?_);refine @PySem.W.check_slot (model prog w) _ _ ⟨hp,g,d,t+1,os⟩ "BaseException.__getattribute__" "BaseException" "__getattribute__" (.ref x) [.str name t] [] _ (by decide +kernel) (by decide +kernel) (L0.andThen L4) (F.args_bexc_ga (.ref x) (.str name t)) ?_;refine YAA (YAF (YAA (YAF (YAA (L0.at (YAA (L3.at (YAF ?_))))))));show wpAny _ _ (handedOut u) _ _ _;rw[PySem.W.handedOut_of hh];exact YAF h
theorem xset (I:Inv X Bb U H s)(x:XAt H e C fs)(c:Xc X.K C)(n:NoAttr X.K C f)(hz:fs.length<1000)(ry:RelV y u)
  (h:∀s' H',Inv X Bb U H' s'->XAt H' e C (putF f y fs)->(∀b o,H b=some o->b≠e->(∀d,H e=some (xo e C (some d))->b≠d)->H' b=some o) ->
   (∃d,H' e=some (xo e C (some d))/\(H e=some (xo e C (some d))\/H d=none))->Q () s'):wpAny (model X.prog X.w) A (setAttr (.ref e) f u) Q E s:=by
 obtain⟨ox,od,J,hr⟩:=x.inst I;obtain⟨cd,hc,hd'⟩:=YCO c.hd;obtain⟨cd',hc2,hm⟩:=YCO c.mr;rw[hc]at hc2;cases hc2;refine PySem.W.set_plain I.kIn J c.sa ?_;have SF:=PySem.F.store_object;have hne:=Zh1 hm;have KX:X.K.In ({ s with toks:=s.toks+1 }:AE).heap:=I.kIn;have J1:InstAt ({ s with toks:=s.toks+1 }:AE).heap e ox C od:=J;have L1:Looks (model X.prog X.w) s.heap (mroOf (.ref C)) cd.mro:=(PySem.W.looks_clsIn I.kIn hc).andThen .now;have sub:Looks (model X.prog X.w) s.heap (isInstance (.ref e) (.type "object")) true:=J.type.andThen (YDI I.kIn (c.base (n:="object") (b:=true) (by decide +kernel)));refine codeAny_call_builtin SF.slot.plain SF.entry (@PySem.W.check_slot (model X.prog X.w) _ _ { s with toks:=s.toks+1 } "object.__setattr__" "object" "__setattr__" (.ref e) [.str f s.toks,u] [] _ SF.kind SF.split sub (SF.args (.ref e) (.str f s.toks) u) ?_);rw[PySem.W.osa_eq,refuse_eq];refine YAA (YAA (Looks.here (s:={ s with toks:=s.toks+1 }) J.type (YAA (Looks.here (s:={ s with toks:=s.toks+1 }) L1 ?_))));rw[Zj3 _ hm];refine YAF (YAA (Looks.here (s:={ s with toks:=s.toks+1 }) J.type (YAA (Looks.here (s:={ s with toks:=s.toks+1 }) (YBj I.kIn n) (YAA (YAF ?_))))));dsimp only;refine YAA (YAF (YAA (YAA ?_)));have LC:=PySem.W.looks_clsIn (M:=model X.prog X.w) I.kIn hc;cases x with
 | bare hb=>
  obtain⟨o,t,h1,h2,h3,h4⟩:=Zc8 I hb;obtain⟨oc,odi,oda,osl⟩:=o;dsimp only at h2 h3 h4;subst h2 h3 h4;refine wpAny_loadPart h1 (YAA (Looks.here (s:={ s with toks:=s.toks+1 }) LC ?_));rw[hd'];refine YAA (wpAny_alloc (YAA (wpAny_update (YAB _ h1) (YAF ?_))));dsimp only;refine YAA (YAF (YAA ?_));have Bl:e<s.heap.objs.size:=YAL h1;have hfr:=I.fresh;have hed:s.heap.objs.size≠e:=Nat.ne_of_gt Bl;have ee:(s.heap.push PySem.W.emptyDict).get? s.heap.objs.size=some PySem.W.emptyDict:=YAQ s.heap rfl;have e2:((s.heap.push PySem.W.emptyDict).update e λo=>{ o with dict:=some s.heap.objs.size }).get? e=some ⟨.ref C,some s.heap.objs.size,.fields #[.ref t,.none,.none,.none,.bool false,.none],osl⟩:=YBO _ (YAB _ h1) rfl;have e3:((s.heap.push PySem.W.emptyDict).update e λo=>{ o with dict:=some s.heap.objs.size }).get? s.heap.objs.size=some PySem.W.emptyDict:=by rw[YAw _ _ (YAh hed)];exact ee
  have ns:((s.heap.push PySem.W.emptyDict).update e λo=>{ o with dict:=some s.heap.objs.size }).Ns s.heap.objs.size (λ_=>none):=⟨PySem.W.emptyDict,#[],_,e3,rfl,(λe he=>absurd he (by simp)),λ_=>rfl⟩;have ns1:=Heap.Ns1.of_empty ns;have I1:=I.laid (a:=s.heap.objs.size) (o:=xdO s.heap.objs.size []) (h':=s.heap.push PySem.W.emptyDict) (t':=s.toks+1) (λb u q=>YAB _ q) (YAS _)
   (Zh2 (fs:=[]) (YAx _) (Heap.Ns1.of_empty (h:=s.heap.push PySem.W.emptyDict) ⟨PySem.W.emptyDict,#[],_,ee,rfl,(λe he=>absurd he (by simp)),λ_=>rfl⟩) (λ_=>by trivial) (λy hy=>absurd rfl hy))
  have I2:=I1.write (x:=e) (e:=e) (o:=xo e C (some s.heap.objs.size)) (h':=(s.heap.push PySem.W.emptyDict).update e λo=>{ o with dict:=some s.heap.objs.size }) (t':=s.toks+1)
   (by rw[Zai (YAh hed),hb];exact trivial) (.inl rfl) (λb u hbe q=>by rw[YAw _ _ (YAh hbe)];exact q) ⟨_,e2⟩ (Zlq e2 rfl rfl rfl)
  refine wpAny_nsSet1 (s:={ s with heap:=(s.heap.push PySem.W.emptyDict).update e λo=>{ o with dict:=some s.heap.objs.size },toks:=s.toks+1 }) ns1 λh' hn2 hs2=>?_;have hw:PySem.Within (λx=>if x=f then some u else none) [f]:=λz hz=>by
   by_cases q:z=f
   .rw[q];exact YAg
   .exact absurd (YAI q) hz
  obtain⟨oD,esD,epD,hoD,hdD,hcD⟩:=hn2.count hw;refine YAA (wpAny_lookBehind hoD (by rw[hdD];exact pastItsLine_dict (YAK hcD (by rw[YAd,sizeLine_eq];decide))) ?_);refine YAF (h _ _ (I2.write (x:=s.heap.objs.size) (e:=s.heap.objs.size) (o:=xdO s.heap.objs.size [(f,y)]) (h':=h') (t':=s.toks+1+1) ?_ (.inl rfl) (λb u' hb' q=>(hs2.2 b hb').trans q) ⟨oD,hoD⟩ (Zh2 (by show 1<=1000;decide) hn2 ?_ hw)) ?_ ?_ ⟨_,(by rw[Zai (YAh hed),Zag]),.inr hfr⟩)
  .rw[Zai hed,Zag];exact trivial
  .intro g;show RelO (List.lookup g [(f,y)]) (if g=f then some u else none);by_cases q:g=f
   .rw[YAM q,q];simp[YBb];exact ry
   .have hbq:(g == f)=false:=by simpa using q
    rw[YAI q];simp[YBb,hbq];trivial
  .refine .full (d:=s.heap.objs.size) (by rw[Zai (YAh hed),Zag]) ?_ hed;rw[Zag];rfl
  .intro b o' hb' hbe _;have nb:b≠s.heap.objs.size:=Zad hb' hfr;rw[Zai nb,Zai hbe,Zai nb];exact hb'
 | @full d _ hb hd2 hne2=>
  obtain⟨o,t,h1,h2,h3,h4⟩:=Zc8 I hb;obtain⟨oc,odi,oda,osl⟩:=o;dsimp only at h2 h3 h4;subst h2 h3 h4;obtain⟨⟨hz',mA,hn,hr',hw⟩,_⟩:=I.hok d _ hd2;refine wpAny_loadPart h1 (YAA (Looks.here (s:={ s with toks:=s.toks+1 }) LC ?_));rw[hd'];refine YAF ?_;dsimp only;refine YAA (YAF (YAA ?_));refine wpAny_nsSet1 (s:={ s with toks:=s.toks+1 }) hn λh' hn2 hs2=>?_;obtain⟨oD,esD,epD,hoD,hdD,hcD⟩:=hn2.count (PySem.Within.cons f u hw);refine YAA (wpAny_lookBehind hoD (by rw[hdD];exact pastItsLine_dict (YAK hcD (by rw[YAl,YAD,sizeLine_eq];omega))) ?_);refine YAF (h _ _ (I.write (x:=d) (e:=d) (o:=xdO d (putF f y fs)) (h':=h') (t':=s.toks+1+1) (by rw[hd2];exact trivial) (.inl rfl) (λb u' hb' q=>(hs2.2 b hb').trans q) ⟨oD,hoD⟩ (Zh2 ?_ hn2 ?_ ?_)) ?_ ?_ ⟨d,(by rw[Zai (YAh hne2)];exact hb),.inl hb⟩)
  .have:=Zcw f y fs;omega
  .intro g;show RelO ((putF f y fs).lookup g) (if g=f then some u else mA g);rw[Zam];by_cases q:g=f
   .rw[YAM q,YAM q];exact ry
   .rw[YAI q,YAI q];exact hr' g
  .intro g hg;by_cases q:g=f
   .rw[q];exact(Zcc f y fs).1
   .refine(Zcc f y fs).2 g (hw g λz=>hg ?_);show (if g=f then some u else mA g)=none;rw[YAI q];exact z
  .exact .full (d:=d) (by rw[Zai (YAh hne2)];exact hb) Zag hne2
  .intro b o' hb' hbe hbd;rw[Zai (hbd d hb)];exact hb'
end
abbrev xraw (C t:AD):Obj:={ cls:=.ref C,data:=.fields #[.ref t,.none,.none,.none,.bool false,.none] }
abbrev tupO (vs:AC):Obj:={ cls:=.type "tuple",data:=.seq vs.toArray }
structure Xm (K:Frag)(C:AD):Prop where
 c:Xc K C
 ob:∃(nm q:Str) (N:AD) (bs bm:AC) (Bi:Bool) (sn:AJ) (sub:AC) (ab:Bool) (col:Option Bool) (dd:Option AD) (k0 k1 k2 k3 k5:Option Value),
  K.lookup C=some (excClassObj nm q C N bs bm Bi sn sub ab col dd k0 k1 k2 k3 k5 "ValueError.__new__")
 kp:PySem.W.keepIn K (.ref C)=true
section
variable {prog:AG}{w:AI}{A:AH}{E:Q33}{h:Heap}{g:Array GenState}{d:Drawn}{t:Nat}{os:OsState}{K:Frag}
variable {nm q:Str}{C N:AD}{bs bm:AC}{Bi:Bool}{sn:AJ}{sub:AC}{ab:Bool}{col:Option Bool}{dd:Option AD}{k0 k1 k2 k3 k5:Option Value}
theorem Zhn {M:Model} {rest:AC} {Q:Unit->AE->Prop} (hx:xmro (.ref C::bm)=true) (hC:h.get? C=some (excClassObj nm q C N bs bm Bi sn sub ab col dd k0 k1 k2 k3 k5 "ValueError.__new__"))
  (hq:Q () ⟨h,g,d,t,os⟩):wpAny M A (checkBuiltinCall "ValueError.__new__" ⟨.ref C::rest,[]⟩) Q E ⟨h,g,d,t,os⟩:=by
 have Fn:=YDE;have hcB:=Zcj (n:="ValueError") (b:=true) (by decide +kernel) hx;have hstar:=Fn.noStar;simp only[checkBuiltinCall,Fn.newKind,Fn.newSplit,Fn.newRow];repeat (first | refine YBX hC ?_ | (refine YCl hC ?_;rw[hcB]) | refine wpAny_staticBase_exc hC ?_ | refine wpAny_madeBy_exc hC ?_ | simp only[bne_self_eq_false,YBp,if_false] | wp_step)
 exact hq
theorem xnew {R:Result->AE->Prop} {rest:AC} (hx:xmro (.ref C::bm)=true) (hC:h.get? C=some (excClassObj nm q C N bs bm Bi sn sub ab col dd k0 k1 k2 k3 k5 "ValueError.__new__"))
  (hq:R (.ok (.ret (.ref (h.objs.size+1)))) ⟨(h.push (tupO rest)).push (xraw C h.objs.size),g,d,t,os⟩) (hrest:rest.length<=sizeLine):
  codeAny (model prog w) A (.builtin "ValueError.__new__" ⟨.ref C::rest,[]⟩) R ⟨h,g,d,t,os⟩:=by
 have Fn:=YDE;have hends:=Fn.ends;have hcB:=Zcj (n:="ValueError") (b:=true) (by decide +kernel) hx;have hcA:=Zcj (n:="AttributeError") (b:=false) (by decide +kernel) hx;have hcN:=Zcj (n:="NameError") (b:=false) (by decide +kernel) hx;refine codeAny_builtinAt Fn.entry ?_;unfold Builtin.«BaseException.__new__»;refine PySem.wpAt_bind ?_;show PySem.wpAt _ _ _ (stack >>= _) _ _ _;refine PySem.wpAt_bind (PySem.wpAt_stack λp below=>PySem.wpAt_of_wpAny ?_)
 wp_walk
 refine PySem.wpAt_of_wpAny ?_;rw[Fn.owner];repeat (first | with_reducible refine wpAny_madeHere_exc Fn.canon hC ?_ | with_reducible refine YBX hC ?_ | (with_reducible refine YCl hC ?_;first | rw[hcB] | rw[hcA] | rw[hcN]) | wp_step)
 show R _ _;rw[YBW];exact hq
theorem ZmO {R:Result->AE->Prop} {rest:AC} {init:Value} (KX:K.In h) (hx:xmro (.ref C::bm)=true) (hC:h.get? C=some (excClassObj nm q C N bs bm Bi sn sub ab col dd k0 k1 k2 k3 k5 "ValueError.__new__"))
  (hi:Looks (model prog w) h (typeLookup (.ref C) "__init__") (some init)) (hb:∀self,Looks (model prog w) h (bindSpecial init self) (init,[self])) (hrest:rest.length<=sizeLine)
  (hq:codeAny (model prog w) (A.under (.builtin "type.__call__" ⟨.ref C::rest,[]⟩)) (.call init ⟨.ref (h.objs.size+1)::rest,[]⟩) (PySem.W.InitBack (h.objs.size+1) R) ⟨(h.push (tupO rest)).push (xraw C h.objs.size),g,d,t,os⟩):
  codeAny (model prog w) A (.call (.ref C) ⟨rest,[]⟩) R ⟨h,g,d,t,os⟩:=by
 have f1:=tc_lookup;have f2:=tc_bind (.ref C);have hT:(⟨h,g,d,t,os⟩:AE).TypeIs (.ref C) "type":=⟨_,hC,rfl⟩;have Fn:=YDE;refine codeAny_of_tree ?_;show wpAny _ _ (callAny (.ref C) _) _ _ _;repeat (any_goals (first | assumption | with_reducible refine YBX hC ?_ | wp_step))
 refine⟨rfl,?_⟩;refine codeAny_call_builtin_at (Code.quiet_builtin _ (by decide +kernel)) entry_typeCall (wpAny_check_type_call_sub hC ?_);repeat (first | with_reducible refine YBX hC ?_ | with_reducible refine wpAny_madeBy_exc hC ?_ | wp_step)
 refine codeAny_call_builtin_code (Code.quiet_builtin _ Fn.quiet) (Zhn hx hC ?_);refine xnew hx hC ?_ hrest;show wpAny _ _ _ _ _ _;have k:∀b o,h.get? b=some o->((h.push (tupO rest)).push (xraw C h.objs.size)).get? b=some o:=λb o e=>YAB _ (YAB _ e);have hC1:=k _ _ hC;have hget:((h.push (tupO rest)).push (xraw C h.objs.size)).get? (h.objs.size+1)=some { cls:=.ref C,data:=.fields #[.ref h.objs.size,.none,.none,.none,.bool false,.none] }:=by heap_get
 have hcC:(Value.ref C::bm).contains (.ref C)=true:=by simp
 have i1:=hi.keeps k;have b1:=(hb (.ref (h.objs.size+1))).keeps k;have t1:Looks (model prog w) ((h.push (tupO rest)).push (xraw C h.objs.size)) (typeOf (.ref (h.objs.size+1))) (.ref C):=(Looks.ld hget).andThen .now;unfold isInstance;repeat (first | with_reducible refine YBX hget ?_ | (with_reducible refine YCl hC1 ?_;rw[hcC]) | wp_step)
 refine YCl hC1 ?_;rw[hcC];repeat (first | with_reducible refine YBX hget ?_ | wp_step)
 show wpAny _ _ (typeLookup (.ref C) _) _ _ _;refine i1.at (YAz (YAA (b1.at ?_)));refine YAA (YCI ?_);refine codeAny_mono hq λr s' z=>?_;rcases r with e | (v | _ | _ | _)<;>first | exact z | exact z.elim | skip
 obtain⟨rfl,z⟩:=z;exact YAF (YAF z)
end
section
theorem Inv.xmade (I:Inv X Bb U H s):Inv X Bb U (upd H (s.heap.objs.size+1) (xo (s.heap.objs.size+1) C none)) { s with heap:=(s.heap.push (tupO us)).push (xraw C s.heap.objs.size) }:=by
 have I1:Inv X Bb U H { s with heap:=s.heap.push (tupO us) }:=I.kept (t':=s.toks) λb o e=>YAB _ e;have e2:((s.heap.push (tupO us)).push (xraw C s.heap.objs.size)).get? (s.heap.objs.size+1)=some (xraw C s.heap.objs.size):=by
  have:=YAQ (s.heap.push (tupO us)) (o:=xraw C s.heap.objs.size) rfl
  rwa [YBW]at this
 exact I1.laid (a:=s.heap.objs.size+1) (t':=s.toks) (λb u q=>YAB _ q) (YCC (YBW _ _)) (Zlq e2 rfl rfl rfl)
theorem Zff (I:Inv X Bb U H s)(m:Xm X.K C)(hx:H e=some (xo e C d))(hz:us.length<=sizeLine)(A:AH)
    (h:∀s',Inv X Bb U H s'->R (.ok (.ret .none)) s'):codeAny (model X.prog X.w) A (.call (.builtin "ValueError.__init__") ⟨.ref e::us,[]⟩) R s:=by
  have Fn:=YDE;have c:=m.c;obtain⟨nm,qn,N,bs,bm,Bi,sn,sub,ab,col,dd,k0,k1,k2,k3,k5,lC⟩:=m.ob;have hC:=I.kIn _ _ lC;obtain⟨o,t,h1,h2,h3,h4⟩:=Zc8 I hx;obtain⟨oc,od,oda,osl⟩:=o;dsimp only at h2 h3 h4;subst h2 h3 h4;have L:Looks (model X.prog X.w) s.heap (isInstance (.ref e) (.type "ValueError")) true:=((Looks.ld h1).andThen .now).andThen (YDI I.kIn (c.base (n:="ValueError") (b:=true) (by decide +kernel)));obtain⟨hp,g,dr,tk,os⟩:=s;refine codeAny_call_builtin Fn.init.plain Fn.initEntry ?_;have hshort:=Fn.noStar;simp only[checkBuiltinCall,Fn.initKind,Fn.initSplit,Fn.initRow];refine YAA (L.at ?_);simp only[YCv,YBp,if_false];have fin:wpAny (model X.prog X.w) A.in1 (Builtin.«BaseException.__init__» ⟨.ref e::us,[]⟩) (λfin s'=>match fin with | .done f=>R (.ok f) s' | .again c'=>c'.quiet=true/\codeAny (model X.prog X.w) A c' R s') (λe s'=>R (.error e) s') ⟨hp,g,dr,tk,os⟩:=by
    have Bl:e<hp.objs.size:=YAL h1
    wp_walk
    refine h _ ?_;have I1:Inv X Bb U H { (⟨hp,g,dr,tk,os⟩:AE) with heap:=hp.push (tupO us) }:=I.kept (t':=tk) λb o e=>YAB _ e;have e2:=YBO (Obj.mapFields (·.setIfInBounds 0 (Value.ref hp.objs.size))) (YAB (h:=hp) (tupO us) h1) rfl;have I2:=I1.write (x:=e) (e:=e) (o:=xo e C od) (h':=(hp.push (tupO us)).update e (Obj.mapFields (·.setIfInBounds 0 (Value.ref hp.objs.size)))) (t':=tk) (by rw[hx];exact trivial) (.inl rfl)
      (λb u hb q=>by rw[YAw _ _ (YAh hb)];exact q) ⟨_,e2⟩ (Zlq e2 rfl rfl rfl)
    rw[ZmP hx]at I2;exact I2
  repeat (first | with_reducible refine YBX hC ?_ | (with_reducible refine wpAny_load hC ?_) | with_reducible refine YBX h1 ?_ | wp_step)
  first
    | (refine wpAny_onRaise ?_
       rw[show ∀(a b:String) (n:Nat),Bind.check ⟨.positional,"*","ValueError",.self,[⟨"args",.varPos,false⟩]⟩ a b n (List.map (λx=>x.fst) ({ pos:=Value.ref e::us }:Args).kw)=pure () from λa b n=>check_star_args _ _ _ _ _ _];exact YAF fin)
    | skip
end
structure Xi (K:Frag)(C:AD):Prop where
 c:Xc K C
 ha:findIn K (.ref C) "__class__"=some (some (.builtin "object.__class__"))
 hn:specialIn K (.builtin "object.__class__") "__get__"=some (some (.builtin "getset_descriptor.__get__"))
 htk:PySem.W.takesIn K (.builtin "object.__class__")=some true
section
variable {K:Frag}{x C:AD}{ox:Obj}{od:Option Obj}{prog:AG}{w:AI}{A:AH}{E:Q33}{s:AE}
theorem ZmN (i:Xi K C)(KX:K.In s.heap)(I:InstAt s.heap x ox C od)(h:Q (some (.ref C)) { s with toks:=s.toks+1 }):wpAny (model prog w) A (getAttr? (.ref x) "__class__") Q E s:=by
 have c:=i.c;have hf:PySem.W.findObj K C od "__class__"=some (.bind (.builtin "getset_descriptor.__get__") (.builtin "object.__class__")):=by obtain⟨cd,hc,_⟩:=YCO c.hd;unfold PySem.W.findObj;rw[hc,i.ha];simp only[YBq,i.hn,i.htk]
 obtain⟨hp,g,d,t,os⟩:=s;have L0:=I.type (M:=model prog w);have L1:=YBj (M:=model prog w) KX c.ga;have L2:=YBj (M:=model prog w) KX c.gr;have L3:=PySem.W.looks_find (M:=model prog w) KX I hf;have L4:=YDI (M:=model prog w) KX (c.base (n:="BaseException") (b:=true) (by decide +kernel));have hm:=c.base (n:="object") (b:=true) (by decide +kernel);have hx2:(Value.builtin "BaseException.__getattribute__" == Value.builtin "object.__getattribute__")=false:=by decide +kernel
 have slot:=F.excAttr_ValueError.ga;unfold getAttr? getAttrBy?;refine YAA (wpAny_mkText (YAA (YCa ?_)));unfold getAttrBy;refine YAz (YAA (L0.at (YAA (L1.at ?_))));dsimp only;rw[hx2,YCE,YAI YAC];unfold getAttrByItsOwn hookBefore;refine YAA ?_;show wpAny _ _ (if onTheHeap (Value.ref C)=true then typeLookup (.ref C) "__getattr__" else pure none) _ _ _;rw[YAM (show onTheHeap (Value.ref C)=true from rfl)];refine L2.at (YAA (YCa (YAz ?_)));unfold callGetattribute;rw[show (false&&onTheHeap (Value.builtin "BaseException.__getattribute__"))=false from rfl,YAI YAC];unfold boundAndCalled;rw[slot.bind];refine YAA (YAF ?_);show wpAny _ _ (call (.builtin "BaseException.__getattribute__") [.ref x,.str "__class__" t]) _ _ _;refine YCI (codeAny_call_builtin slot.plain ZfY ?_);refine @PySem.W.check_slot (model prog w) _ _ ⟨hp,g,d,t+1,os⟩ "BaseException.__getattribute__" "BaseException" "__getattribute__" (.ref x) [.str "__class__" t] [] _ (by decide +kernel) (by decide +kernel) (L0.andThen L4) (F.args_bexc_ga (.ref x) (.str "__class__" t)) ?_;refine YAA (YAF (YAA (YAF (YAA (L0.at (YAA (L3.at ?_)))))));show wpAny _ _ (holding [.builtin "object.__class__"] (call (.builtin "getset_descriptor.__get__") [.builtin "object.__class__",.ref x,.ref C]) >>= ret) _ _ _;refine YAA (YAz (YCI (PySem.W.class_get (s:=⟨hp,g,d,t+1,os⟩) (ox:=ox) (od:=od) KX I hm (YAF ?_))));exact PySem.W.handed_on rfl (YAF h)
theorem ZeV (i:Xi K C):PySem.W.KitX K (.ref x) (.ref C) (λh=>InstAt h x ox C od) where
 ty:=λ_ _ _ I=>I.type
 it:=λ_ _ KX _=>by
  obtain⟨cd,hc,_⟩:=YCO i.c.hd;unfold PySem.W.clsIn at hc;split at hc
  .rename_i ho
   intro A' Q' E' s' k q;unfold isType loadHead;exact YAA (wpAny_loadPart (k _ _ (KX _ _ ho)) (YAF q))
  .cases hc
 ne:=λh tp dd its n sl KX htp=>by
  obtain⟨cd,hc,_⟩:=YCO i.c.hd;refine YBu.mpr λq=>?_;have e:C=tp:=Value.ref.inj (beq_iff_eq.mp q);subst e;unfold PySem.W.clsIn at hc;split at hc
  .rename_i ho
   have z:=(KX _ _ ho).symm.trans htp;cases z
  .cases hc
 ca:=λKX I k=>ZmN i KX I k
end
inductive TyX (K:Frag) (H:Hp):V->Value->Prop where
 | pl {x:V} {t:Value} (h:TyOf K H x t):TyX K H x t
 | seqL {a:AD} {xs:List V} (h:SqL K H a xs):TyX K H (.ref a) (.type "list")
 | seqT {a:AD} {xs:List V} (h:SqT K H a xs):TyX K H (.ref a) (.type "tuple")
 | exc {e C:AD} {fs:List (Str×V)} (x:XAt H e C fs) (i:Xi K C):TyX K H (.ref e) (.ref C)
def clsV:V->Option Value
 | .ref a=>some (.ref a)
 | .ty n=>some (.type n)
 | _=>none
theorem ZgH:Zb0 X (.builtin "isinstance") (λxs H Q=>∃x c t k b,xs=[x,c]/\clsV c=some k/\TyX X.K H x t/\PySem.W.kitOne X.K t k=some b/\Q (.bl b) H):=by
 rintro Bb s U H xs us Q I r ⟨x,c,t,k,b,rfl,hk,ty,e,q⟩;obtain⟨u,v,rfl,ru,rv⟩:=r.two;have hv:v=k:=by
  cases c with
  | ref a=>cases hk;exact rv
  | ty n=>cases hk;exact rv
  | _=>cases hk
 subst hv;cases ty with
 | pl ty=>exact Zjh I ru ty e λtk=>⟨.bl b,H,I.tok _,rfl,q⟩
 | seqL h=>
  cases ru;obtain⟨its,_,⟨o,n,ho,hc,_⟩,_⟩:=I.list h;exact YBM PySem.W.kitx_list I.kIn ⟨o,ho,hc⟩ e (λz=>nomatch z) λtk=>⟨.bl b,H,I.tok _,rfl,q⟩
 | seqT h=>
  cases ru;obtain⟨its,_,⟨o,ho,hc,_⟩,_⟩:=I.tuple h;exact YBM PySem.W.kitx_tuple I.kIn ⟨o,ho,hc⟩ e (λz=>nomatch z) λtk=>⟨.bl b,H,I.tok _,rfl,q⟩
 | exc x i=>
  cases ru;obtain⟨ox,od,J,_⟩:=x.inst I;exact YBM (ZeV i) I.kIn J e (λz=>nomatch z) λtk=>⟨.bl b,H,I.tok _,rfl,q⟩
def Zm8 (K:Frag)(ta tv:TE)(f:Str):TS:=λD U H=>tv U H λy H1=>ta U H1 λx H2=>∃e C fs,x=.ref e/\XAt H2 e C fs/\Xc K C/\NoAttr K C f/\fs.length<1000 /\
 ∀H',XAt H' e C (putF f y fs)->(∀b o,H2 b=some o->b≠e->(∀d,H2 e=some (xo e C (some d))->b≠d)->H' b=some o)->(∃d,H' e=some (xo e C (some d))/\(H2 e=some (xo e C (some d))\/H2 d=none))->D.nx U H'
def Zic (K:Frag)(C:AD)(t:TA):TE:=λU H Q=>t U H λvs H1=>vs.length<=1000/\∀e,H1 e=none->Q (.ref e) (upd H1 e (xo e C none))
def Zid (C:AD)(sp:Sp)(E:XK)(t:TA):TE:=λU H Q=>t U H λvs H1=>vs.length<=1000/\∀e,H1 e=none->sp (.ref e::vs) (upd H1 e (xo e C none)) (λv H2=>v=.non/\Q (.ref e) H2) E
section
theorem Zgm (ha:PE X o ta)(hv:PE X value tv)(hs:swapsWith value (some (.Attribute o f pos')) pos.line X.env=pure false):PS X (.Assign [.Attribute o f pos'] value pos) (Zm8 X.K ta tv f):=by intro Bb s U H D I h;refine plainObj_wpAny_Assign_Attribute (thn (hv Bb s U H _ I h) λu s1 ⟨y,H1,I1,ry,q⟩=>thn (ha Bb s1 U H1 _ I1 q) λov s2 zz=>?_) hs;obtain⟨x,H2,I2,rx,a,C,fs,ex,xa,c,n,l,q2⟩:=zz;subst ex;obtain rfl:ov=Value.ref a:=rx;exact xset I2 xa c n l ry λs3 H3 I3 x3 k3 d3=>⟨U,H3,I3,q2 H3 x3 k3 d3⟩
theorem Xm.parts {K:Frag}{C:AD}(m:Xm K C):∃(nm q:Str) (N:AD) (bs bm:AC) (Bi:Bool) (sn:AJ) (sub:AC) (ab:Bool) (col:Option Bool) (dd:Option AD) (k0 k1 k2 k3 k5:Option Value),
  K.lookup C=some (excClassObj nm q C N bs bm Bi sn sub ab col dd k0 k1 k2 k3 k5 "ValueError.__new__")/\xmro (.ref C::bm)=true:=by
 obtain⟨nm,qn,N,bs,bm,Bi,sn,sub,ab,col,dd,k0,k1,k2,k3,k5,lC⟩:=m.ob;refine⟨nm,qn,N,bs,bm,Bi,sn,sub,ab,col,dd,k0,k1,k2,k3,k5,lC,?_⟩;have hm:=m.c.mr;unfold PySem.W.clsIn at hm;rw[lC]at hm;exact hm
theorem Zhz (m:Xm X.K C) (hi:findIn X.K (.ref C) "__init__"=some (some (.builtin "ValueError.__init__"))) (I:Inv X Bb U H s) (hz:us.length<=1000)
  (h:∀e,H e=none->Q (.ref e) (upd H e (xo e C none))):wpAny (model X.prog X.w) X.A (call (.ref C) us) (EP X Bb U Q) X.xe s:=by
 obtain⟨nm,qn,N,bs,bm,Bi,sn,sub,ab,col,dd,k0,k1,k2,k3,k5,lC,hx⟩:=m.parts;have I2:=Inv.xmade (C:=C) (us:=us) I;have hq:=h (s.heap.objs.size+1) (I.hok.fresh (YCX _));have hz':us.length<=sizeLine:=YAK hz (by rw[sizeLine_eq];decide);have KX:=I.kIn;have hC:=KX _ _ lC;obtain⟨hp,g,d,t,os⟩:=s;refine YCI (ZmO (K:=X.K) KX hx hC (YBj KX hi) (λself=>Looks.of_pure (F.excBase_ValueError.init.bind self)) hz' ?_);refine Zff I2 m Zag hz' _ λs' I3=>⟨rfl,?_⟩;exact⟨.ref _,_,I3,rfl,hq⟩
theorem Zir (m:Xm X.K C) (hi:findIn X.K (.ref C) "__init__"=some (some (.ref fI))) (hfn:PySem.W.isFn X.K (.ref fI)=true)
  (F:FnOk X.prog X.w X.K X.mg X.base CX k fI fd ps sp) (hr:Room (k+1) X.A) (hb:Binds X.K fd ps []) (hxp:Zb1 CX X E) (I:Inv X Bb U H s) (r:Vals vs us) (hz:vs.length<=1000)
  (h:∀e,H e=none->sp (.ref e::vs) (upd H e (xo e C none)) (λv H2=>v=.non/\Q (.ref e) H2) E):wpAny (model X.prog X.w) X.A (call (.ref C) us) (EP X Bb U Q) X.xe s:=by
 obtain⟨nm,qn,N,bs,bm,Bi,sn,sub,ab,col,dd,k0,k1,k2,k3,k5,lC,hx⟩:=m.parts;have I2:=Inv.xmade (C:=C) (us:=us) I;have hq:=h (s.heap.objs.size+1) (I.hok.fresh (YCX _));have hz':us.length<=sizeLine:=by rw[<-r.length];exact YAK hz (by rw[sizeLine_eq];decide)
 have KX:=I.kIn;have hC:=KX _ _ lC;have r2:Vals (V.ref (s.heap.objs.size+1)::vs) (Value.ref (s.heap.objs.size+1)::us):=.cons rfl r;have hl:((Value.ref (s.heap.objs.size+1)::us)++[]).length=ps.length:=by have e:=r2.length;rw[F.len _ _ _ _ hq]at e;rw[YDN];exact e.symm
 have hb2:=hb { s with heap:=(s.heap.push (tupO us)).push (xraw C s.heap.objs.size) } (Value.ref (s.heap.objs.size+1)::us) I2.kIn hl;rw[YDN]at hb2;obtain⟨hp,g,d,t,os⟩:=s;refine YCI (ZmO (K:=X.K) KX hx hC (YBj KX hi) (λself=>PySem.W.bind_fn KX self (beq_iff_eq.mp hfn)) hz' ?_);refine codeAny_mono (F.run _ X.stack _ _ ⟨Value.ref (hp.objs.size+1)::us,[]⟩ (Value.ref (hp.objs.size+1)::us) _ _ E (hr.make C us []) (I2.env0.make C us []) hb2 r2 hq) λr s' hq'=>?_;cases r with
 | error e=>exact hxp Bb U _ _ e s' I2 hq'
 | ok fl=>
  cases fl with
  | ret u=>
   obtain⟨v,H',I3,rv,ev,q3⟩:=I2.after hq';subst ev;exact⟨rv,⟨V.ref (hp.objs.size+1),H',I3,rfl,q3⟩⟩
  | next=>exact False.elim hq'
  | brk=>exact False.elim hq'
  | cont=>exact False.elim hq'
theorem Zca (m:Xm X.K C) (hi:findIn X.K (.ref C) "__init__"=some (some (.builtin "ValueError.__init__"))) (hg:Gl X x) (hm:X.mg x=some (.ref C)) (ha:PA X (e::es) t)
  (hdb:(x == ("__debug__":Str))=false:=by decide) (he:starEach (e::es) X.env=(false,eval e X.env)::starEach es X.env:=by rfl) (hpl:(backTo pos (starEach es X.env)).any (·.1)=false:=by rfl):
  PE X (.Call (.Name x p) (e::es) [] pos) (Zic X.K C t):=by
 intro Bb s U H Q I h;refine YBg (ZbW I hg hm ?_ hdb);refine YBo (h₀:=X.base) I.ok.mod.kin m.kp (thn (ha pos Bb s U H _ I h) λus s1 ⟨vs,H1,I1,r,hz,q⟩=>⟨I1.kIn,?_⟩) he hpl;exact Zhz m hi I1 (by rw[List.nil_append,<-r.length];exact hz) q
theorem Zdn (m:Xm X.K C) (hi:findIn X.K (.ref C) "__init__"=some (some (.ref fI))) (hfn:PySem.W.isFn X.K (.ref fI)=true)
  (F:FnOk X.prog X.w X.K X.mg X.base CX k fI fd ps sp) (hr:Room (k+1) X.A) (hb:Binds X.K fd ps []) (hxp:Zb1 CX X E) (hg:Gl X x) (hm:X.mg x=some (.ref C)) (ha:PA X (e::es) t)
  (hdb:(x == ("__debug__":Str))=false:=by decide) (he:starEach (e::es) X.env=(false,eval e X.env)::starEach es X.env:=by rfl) (hpl:(backTo pos (starEach es X.env)).any (·.1)=false:=by rfl):
  PE X (.Call (.Name x p) (e::es) [] pos) (Zid C sp E t):=by
 intro Bb s U H Q I h;refine YBg (ZbW I hg hm ?_ hdb);refine YBo (h₀:=X.base) I.ok.mod.kin m.kp (thn (ha pos Bb s U H _ I h) λus s1 ⟨vs,H1,I1,r,hz,q⟩=>⟨I1.kIn,?_⟩) he hpl;exact Zir m hi hfn F hr hb hxp I1 r hz q
structure ClsRead (K:Frag)(C:AD)(f:Str)(v:Value):Prop where
 sp:specialIn K (.ref C) "__getattribute__"=some (some (.builtin "type.__getattribute__"))
 rd:PySem.W.readsIn K C (.type "type")=true
 fd:PySem.W.findCls K (.ref C) (.type "type") f=some (.val v)
 hn:PySem.W.handedIn v=true
def ZkM (K:Frag)(t:TA):TE:=λU H Q=>t U H λvs H1=>∃e C d rest,vs=.ref e::rest/\H1 e=some (xo e C d)/\Xm K C/\rest.length<=1000/\Q .non H1
theorem ZeJ (hg:Gl X x) (hm:X.mg x=some (.ref L)) (cr:ClsRead X.K L "__init__" (.builtin "ValueError.__init__")) (ha:PA X (e::es) t)
  (hdb:(x == ("__debug__":Str))=false:=by decide) (hst:starEach (e::es) X.env=(false,eval e X.env)::starEach es X.env:=by rfl) (hpl:(backTo pos (starEach es X.env)).any (·.1)=false:=by rfl)
  (ht:eval (.Call (.Attribute (.Name x np) "__init__" Bg) (e::es) [] pos) X.env=(do
   let ov <-eval (.Name x np) X.env
   standAt Bg.atName
   let (f,first) <-holding [ov] (getMethod ov "__init__" pl)
   callWith pos f first (backTo pos (starEach (e::es) X.env)) (backToKw pos (keywordEach [] X.env))):=by rfl):
  PE X (.Call (.Attribute (.Name x np) "__init__" Bg) (e::es) [] pos) (ZkM X.K t):=by
 intro Bb s U H Q I h;refine YCB (pl:=pl) (ZbW I hg hm ?_ hdb) ht;refine PySem.W.method_cls I.kIn cr.sp (PySem.W.cls_value I.kIn cr.rd cr.fd cr.hn ?_);refine YDA (thn (ha pos Bb _ U H _ (I.tok _) h) λus s1 zz=>?_) hst hpl;obtain⟨vs,H1,I1,r1,ev,C,d,rest,evs,hx,m,hz,q⟩:=zz;subst evs;cases r1 with
 | cons ru rr=>
  cases ru;refine YCI (Zff I1 m hx (by rw[<-rr.length];exact YAK hz (by rw[sizeLine_eq];decide)) _ λs' I3=>?_);exact⟨.non,H1,I3,rfl,q⟩
end
section
end
def Ite (K:Q4)(a:AD):It:=
 ⟨λi H=>∃xs x,SqL K H a xs/\xs[i]?=some x,λi H x H'=>∃p v,H p=none/\x=.ref p/\H'=upd H p (.tup [.int i,v])/\∀xs,SqL K H a xs->xs[i]?=some v,λi H=>∃xs,SqL K H a xs/\xs.length<=i⟩
section
end
section
theorem q_I:rI C g (.int i) (.int j) H Q=(C i j/\Q (g i j) H):=
 propext ⟨λ⟨_,_,e1,e2,h⟩=>by cases e1;cases e2;exact h,λh=>⟨i,j,rfl,rfl,h⟩⟩
theorem q_I0:rI0 g (.int i) (.int j) H Q=Q (g i j) H:=
 propext ⟨λ⟨_,_,e1,e2,h⟩=>by cases e1;cases e2;exact h,λh=>⟨i,j,rfl,rfl,h⟩⟩
theorem q_U:rU g (.int i) H Q=Q (g i) H:=
 propext ⟨λ⟨_,e1,h⟩=>by cases e1;exact h,λh=>⟨i,rfl,h⟩⟩
theorem q_T:rT C g (tx a) (tx b) H Q=(C a b/\Q (g a b) H):=
 propext ⟨λ⟨_,_,e1,e2,h⟩=>by rw[Zeg.mp e1,Zeg.mp e2];exact h,λh=>⟨a,b,rfl,rfl,h⟩⟩
theorem q_b {b:Bool}{p:Bool->Prop}:(∃k,V.bl b=V.bl k/\p k)=p b:=
 propext ⟨λ⟨_,e,h⟩=>by cases e;exact h,λh=>⟨b,rfl,h⟩⟩
theorem q_var {v:V}{p:V->Prop}:(∃u,some (some v)=some (some u)/\p u)=p v:=
 propext ⟨λ⟨_,e,h⟩=>by cases e;exact h,λh=>⟨v,rfl,h⟩⟩
theorem q_var' {v:V}{p:V->Prop}:(∃u,v=u/\p u)=p v:=
 propext ⟨λ⟨_,e,h⟩=>by cases e;exact h,λh=>⟨v,rfl,h⟩⟩
end
open PySem.W (Frag findIn specialIn typeIn mroIn clsIn subIn kitOne kitCls)
def Zoz (sc sco:Scope):Bool:=decide (sc.kind=.function)&&sc.names.all λy=>decide (y.2≠NameKind.cell)&&(decide (y.2≠NameKind.local) || decide (sc.names.lookup y.1=some NameKind.local)) &&
 (decide (y.2≠NameKind.free) || (decide (sco.names.lookup y.1=some NameKind.cell) || decide (sco.names.lookup y.1=some NameKind.free)))
theorem ZbF (h:Zoz sc X.env.scope=true):CmpScope X sc:=by
 unfold Zoz at h;rw[YAP,YBD]at h;obtain⟨h1,h2⟩:=h;refine⟨of_decide_eq_true h1,λy hy=>?_,λy hy e=>?_,λy hy e=>?_⟩
 .have:=h2 y hy;simp only[YAP,Bool.or_eq_true,decide_eq_true_eq]at this;exact this.1.1
 .have:=h2 y hy;simp only[YAP,Bool.or_eq_true,decide_eq_true_eq]at this;rcases this.1.2 with z | z
  .exact absurd e z
  .exact z
 .have:=h2 y hy;simp only[YAP,Bool.or_eq_true,decide_eq_true_eq]at this;rcases this.2 with z | z | z
  .exact absurd e z
  .exact .inl z
  .exact .inr z
section
variable {K:Frag}{H:Hp}{C D:AD}
structure ClsOk (K:Frag)(C:AD)(mro:AC):Prop where
 cd:∃cd,clsIn K C=some cd/\cd.mro=mro
 ty:typeIn K (.ref C)=some (.type "type")
 ne:mro.isEmpty=false
theorem Zbh (c:ClsOk K C m1)(d:ClsOk K D m2)(h:m1.contains (.ref D)=b)(hh:C=D->b=true):kitOne K (.ref C) (.ref D)=some b:=by
 obtain⟨cd,e1,e2⟩:=c.cd;obtain⟨cd',e3,e4⟩:=d.cd;unfold PySem.W.kitOne;split
 .rename_i z
  have z':Value.ref C=Value.ref D:=by simpa using z
  cases z';rw[hh rfl]
 .unfold PySem.W.kitCls;dsimp only;rw[e3,d.ty];simp only[Option.isSome_some,YBt,beq_self_eq_true,if_true];unfold PySem.W.subIn PySem.W.mroIn;dsimp only;rw[e1,YBq,e2,c.ne,h];rfl
theorem Zk6 (c:ClsOk K C m1)(hT:PySem.W.kitMeta T=true)(h:m1.contains (.type T)=b):kitOne K (.ref C) (.type T)=some b:=by
 obtain⟨cd,e1,e2⟩:=c.cd;unfold PySem.W.kitOne;split
 .rename_i z
  have z':Value.ref C=Value.type T:=by simpa using z
  cases z'
 .unfold PySem.W.kitCls;dsimp only;rw[hT,YAM rfl];unfold PySem.W.subIn PySem.W.mroIn;dsimp only;rw[e1,YBq,e2,c.ne,h];rfl
def Zb5 (K:Frag)(C:AD)(n:Nat)(fs:List V->List (Str×V)):Sp:=λvs H Q _=>∃e r,vs=.ref e::r/\r.length=n/\H e=some (xo e C none) /\
 ∀H',XAt H' e C (fs r)->(∀b o,H b=some o->b≠e->H' b=some o)->Q .non H'
theorem ZaE (h:H a=none):Same H (upd H a o):=λb u hb=>by rw[Zai (Zad hb h)];exact hb
end
def Mk0 (C:AD)(H:Hp)(Q:VK):Prop:=∀e,H e=none->Q (.ref e) (upd H e (xo e C none))
def MkI (sp:Sp)(E:XK)(C:AD)(vs:List V)(H:Hp)(Q:VK):Prop:=∀e,H e=none->sp (.ref e::vs) (upd H e (xo e C none)) (λv H2=>v=.non/\Q (.ref e) H2) E
def NewL (xs:List V)(H:Hp)(Q:VK):Prop:=∀p,H p=none->Q (.ref p) (upd H p (.lst xs))
def NewT (xs:List V)(H:Hp)(Q:VK):Prop:=∀p,H p=none->Q (.ref p) (upd H p (.tup xs))
section
variable {K:Frag}{C:AD}{sp:Sp}{E:XK}{t:TA}{U:St}{H:Hp}{Q:VK}{vs:List V}
theorem Zpp:Zic K C t U H Q=t U H (λvs H1=>vs.length<=1000/\Mk0 C H1 Q):=rfl
theorem Zpo:Zid C sp E t U H Q=t U H (λvs H1=>vs.length<=1000/\MkI sp E C vs H1 Q):=rfl
theorem Zpq:tLst t U H Q=t U H (λxs H1=>xs.length<=sizeLine/\NewL xs H1 Q):=rfl
theorem Zpn:tTup t U H Q=t U H (λxs H1=>xs.length<=sizeLine/\NewT xs H1 Q):=rfl
theorem Zni:rCat (.ref l) (.ref b) H Q=∃xs zs,H l=some (.lst xs)/\H b=some (.lst zs)/\xs.length+zs.length<=sizeLine/\NewL (xs++zs) H Q:=
 propext ⟨λ⟨_,_,xs,zs,e1,e2,h⟩=>by cases e1;cases e2;exact⟨xs,zs,h⟩,λ⟨xs,zs,h⟩=>⟨l,b,xs,zs,rfl,rfl,h⟩⟩
theorem MkI.of (hn:vs.length=n)(h:∀e H',Same H H'->H e=none->XAt H' e C (fs vs)->Q (.ref e) H'):MkI (Zb5 K C n fs) E C vs H Q:=
 λe he=>⟨e,vs,rfl,hn,Zag,λH' x k=>⟨rfl,h e H' (λb o hb=>k b o (by rw[Zai (Zad hb he)];exact hb) (Zad hb he)) he x⟩⟩
theorem NewL.of (h:∀p H',Same H H'->H p=none->H' p=some (.lst vs)->Q (.ref p) H'):NewL vs H Q:=λp hp=>h p _ (ZaE hp) hp Zag
theorem NewT.of (h:∀p H',Same H H'->H p=none->H' p=some (.tup vs)->Q (.ref p) H'):NewT vs H Q:=λp hp=>h p _ (ZaE hp) hp Zag
theorem NewL.at (h:∀p,H p=none->Q (.ref p) (upd H p (.lst vs))):NewL vs H Q:=h
theorem NewT.at (h:∀p,H p=none->Q (.ref p) (upd H p (.tup vs))):NewT vs H Q:=h
theorem Zln:bootBuiltins "str"=some (.type "str"):=by decide +kernel
theorem ZjE:bootBuiltins "bool"=some (.type "bool"):=by decide +kernel
theorem Zc5:bootBuiltins "list"=some (.type "list"):=by decide +kernel
theorem Zlo:bootBuiltins "set"=some (.type "set"):=by decide +kernel
theorem Ze9:bootBuiltins "ValueError"=some (.type "ValueError"):=by decide +kernel
theorem Zbr:bootBuiltins "len"=some (.builtin "len"):=by decide +kernel
theorem Zas:bootBuiltins "isinstance"=some (.builtin "isinstance"):=by decide +kernel
theorem ZoC:bootBuiltins "all"=some (.builtin "all"):=by decide +kernel
theorem ZoB:bootBuiltins "min"=some (.builtin "min"):=by decide +kernel
theorem Zci:bootBuiltins "sorted"=some (.builtin "sorted"):=by decide +kernel
end
def Own (K:Frag)(H:Hp)(d:DT)(x:V):Prop:=DatOk K H d x/\deq d d=true/\dep d<=60
theorem Own.same {K:Frag}{H H':Hp}{d:DT}{x:V}(o:Own K H d x)(s:Same H H'):Own K H' d x:=⟨s.dat o.1,o.2⟩
theorem SqL.mk {K:Frag}{H:Hp}{a:AD}{xs:List V}(h:H a=some (.lst xs)):SqL K H a xs:=.inl (.inl h)
theorem SqT.mk {K:Frag}{H:Hp}{a:AD}{xs:List V}(h:H a=some (.tup xs)):SqT K H a xs:=.inl (.inl h)
theorem Zlr:¬(some (xo e C none)=some (xo e C (some d))):=by
 intro z;have z1:xo e C none=xo e C (some d):=Option.some.inj z;unfold xo at z1;have z2:=HO.ext.inj z1;have hget:(⟨Array.replicate (e+1) (xraw C 0),{}⟩:Heap).get? e=some (xraw C 0):=by
  unfold Heap.get?;have:(Array.replicate (e+1) (xraw C 0))[e]?=some (xraw C 0):=by simp
  dsimp only;rw[this]
 have q:=congrFun z2 ⟨Array.replicate (e+1) (xraw C 0),{}⟩;have l:∃(o:Obj) (t:AD),(⟨Array.replicate (e+1) (xraw C 0),{}⟩:Heap).get? e=some o/\o.cls=.ref C/\o.dict=none/\o.data=.fields #[.ref t,.none,.none,.none,.bool false,.none]:=⟨_,0,hget,rfl,rfl,rfl⟩;have r:=q.mp l;obtain⟨o,t,h1,_,h3,_⟩:=r;rw[hget]at h1;cases h1;cases h3
section
variable {X:Cx}{K:Frag}
theorem ZaQ (hK:X.K=K)(hu:X.A.units+64<cLine):OpR X (compareOp .Eq) (rEqD K false):=by subst hK;exact Zk2 hu
theorem ZbU (hK:X.K=K)(hu:X.A.units+64<cLine):OpR X (compareOp .NotEq) (rEqD K true):=by subst hK;exact Zk1 hu
theorem Za5 (hK:X.K=K):IxR X (rIxL K):=by subst hK;exact Zmm
theorem ZeX (hK:X.K=K):IxR X (rIxT K):=by subst hK;exact Zof
theorem ZeE (hK:X.K=K):SlR X (rSlL K):=by subst hK;exact ZlB
theorem Zej (hK:X.K=K):OpR X (compareOp .In) (rIn K false):=by subst hK;exact ZiL
theorem ZeO (hK:X.K=K):OpR X (compareOp .NotIn) (rIn K true):=by subst hK;exact Zfw
theorem ZaM (hK:X.K=K):Zb0 X (.builtin "len") (λxs H Q=>∃x n,xs=[x]/\LenV K x H n/\Q (.int n) H):=by subst hK;exact ZkG
theorem ZbZ (hK:X.K=K):Zb0 X (.type "list") (λxs H Q=>∃p ys,xs=[.ref p]/\(SqL K H p ys\/SqT K H p ys)/\∀l,H l=none->Q (.ref l) (upd H l (.lst ys))):=by subst hK;exact Zf5
theorem ZaA (hK:X.K=K)(he:PE X e ta)(hb:attributeBase e f X.env (eval e X.env)=eval e X.env):PE X (.Attribute e f pos) (tFld K ta f):=by subst hK;exact Zno he hb
theorem ZbC (hK:X.K=K)(hl:PE X l tl):PI X tg l (Zmr K tl):=by subst hK;exact ZlT hl
end
theorem cxK {CX:CXT}{P:AG}{w:AI}{K:Q4}{mg:AB}{base:Heap}{N:AJ}{qual:Str}{scope:Scope}{f:AD}{cd:Value}{A:AH}{outer:List Env}{s:AE}{H:Hp}{E:XK}:
  (cxOf CX P w K mg base N qual scope f cd A outer s H E).K=K:=rfl
theorem bxK:(bx X sc N fp s_0 H pn).K=X.K:=rfl
open PySem.W (Frag)
def ForRun (J:It)(g:TG)(tb:TS)(D:Ends)(U:St)(H:Hp):Prop:=∃W:Nat->Nat->St->Hp->Prop,(∃m,W 0 m U H)/\∀i m U H,W i m U H ->
 (J.stop i H/\D.nx U H)\/(J.go i H/\∃N:St->Hp->Prop,(∀U' H',N U' H'->∃m',m'<m/\W (i+1) m' U' H')/\∀x H',J.yld i H x H'->g x U H' λU2 H2=>tb { D with nx:=N,ct:=N,bk:=D.nx } U2 H2)
theorem Zpr:tFor wi g tb D U H=wi U H λJ H1=>ForRun J g tb D U H1:=rfl
def CompRun (J:It)(τ0:St)(g:TG)(tt:TT)(te:TE)(H1:Hp)(Q:VK):Prop:=∀acc,H1 acc=none->∃W:Nat->Nat->St->Hp->Prop,(∃m,W 0 m τ0 (upd H1 acc (.lst []))) /\
 ∀i m τ H2,W i m τ H2->(J.stop i H2/\Q (.ref acc) H2)\/(J.go i H2/\∃Nx:St->Hp->Prop,(∀τ' H',Nx τ' H'->∃m',m'<m/\W (i+1) m' τ' H') /\
  ∀x H3,J.yld i H2 x H3->g x τ H3 λτ2 H4=>tt τ2 H4 λb H5=>if b=true then te τ2 H5 λy H6=>∃ys,H6 acc=some (.lst ys)/\ys.length<sizeLine/\Nx τ2 (upd H6 acc (.lst (ys++[y]))) else Nx τ2 H5)
theorem Znh:Zlx ix wi g tt te U H Q=wi U H λJ H1=>CompRun J (pick ix U) g tt te H1 Q:=rfl
section
variable {g:TG}{tb:TS}{D:Ends}{U:St}{H:Hp}{K:Frag}{a:AD}{xs:List V}
theorem ForRun.list (Pv:Nat->St->Hp->Prop)(h0:Pv 0 U H)(hl:∀i U H,i<=xs.length->Pv i U H->SqL K H a xs)
  (hs:∀i x U H,xs[i]?=some x->Pv i U H->g x U H λU2 H2=>tb { D with nx:=Pv (i+1),ct:=Pv (i+1),bk:=D.nx } U2 H2) (hd:∀U H,Pv xs.length U H->D.nx U H):ForRun (Itl K a) g tb D U H:=
 Zku Pv h0 hl hs hd
theorem ForRun.range {lo:Int}{n:Nat}(Pv:Nat->St->Hp->Prop)(h0:Pv 0 U H)
  (hs:∀i U H,i<n->Pv i U H->g (.int (lo+i)) U H λU2 H2=>tb { D with nx:=Pv (i+1),ct:=Pv (i+1),bk:=D.nx } U2 H2) (hd:∀U H,Pv n U H->D.nx U H):
  ForRun (Itr lo n) g tb D U H:=Zjl Pv h0 hs hd
theorem ForRun.text (Pv:Nat->St->Hp->Prop)(h0:Pv 0 U H)
  (hs:∀i c U H,l[i]?=some c->Pv i U H->g (tx [c]) U H λU2 H2=>tb { D with nx:=Pv (i+1),ct:=Pv (i+1),bk:=D.nx } U2 H2) (hd:∀U H,Pv l.length U H->D.nx U H):
  ForRun (Its l) g tb D U H:=Zkt Pv h0 hs hd
end
section
theorem CompRun.gen (v:Nat->V)(b:Nat->Bool)(f:Nat->V)(hz:n<=1000)(hgo:∀i H',i<n->Same H H'->J.go i H')(hst:∀H',Same H H'->J.stop n H')(hy:∀i H' x H3,i<n->Same H H'->J.yld i H' x H3->H3=H'/\x=v i)
  (ht:∀i H' Q',i<n->Same H H'->(∀H'',Same H' H''->Q' (b i) H'')->tt (τ0.set 0 (some (v i))) H' Q')
  (he:∀i H' Q',i<n->b i=true->Same H H'->(∀H'',Same H' H''->Q' (f i) H'')->te (τ0.set 0 (some (v i))) H' Q')
  (hQ:∀p H',Same H H'->H p=none->H' p=some (.lst (((List.range n).filter b).map f))->Q (.ref p) H'):CompRun J τ0 (Zdj 0) tt te H Q:=by
 intro acc ha;refine⟨λi m τ H2=>i<=n/\m=n-i/\(∀w:Option V,τ.set 0 w=τ0.set 0 w)/\Same H H2/\H2 acc=some (.lst (((List.range i).filter b).map f)),⟨n,YAx _,rfl,λ_=>rfl,ZaE ha,Zag⟩,?_⟩;rintro i m τ H2 ⟨hi,rfl,hτ,hs,Be⟩;by_cases Bl:i<n
 .refine .inr ⟨hgo i H2 Bl hs,λτ' H'=>(∀w:Option V,τ'.set 0 w=τ0.set 0 w)/\Same H H'/\H' acc=some (.lst (((List.range (i+1)).filter b).map f)),λτ' H' q=>⟨n-(i+1),by omega,Bl,rfl,q⟩,λx H3 y=>?_⟩;obtain⟨rfl,rfl⟩:=hy i H2 x H3 Bl hs y;show tt (τ.set 0 (some (v i))) _ _;rw[hτ];have hτ':∀w:Option V,(τ0.set 0 (some (v i))).set 0 w=τ0.set 0 w:=λw=>by rw[List.set_set]
  refine ht i _ _ Bl hs λH4 s4=>?_;cases hb:b i with
  | false=>
   rw[YAI YAC];refine⟨hτ',hs.trans s4,?_⟩;rw[s4 _ _ Be,YCL,YCt];simp[hb]
  | true=>
   rw[YAM rfl];refine he i _ _ Bl hb (hs.trans s4) λH5 s5=>?_;refine⟨_,s5 _ _ (s4 _ _ Be),?_,hτ',?_,?_⟩
   .rw[YAD];have:=YBB b (List.range i);rw[YBd]at this;exact Zdy (by omega)
   .intro c o hc;have:c≠acc:=Zad hc ha;rw[Zai this];exact s5 _ _ (s4 _ _ (hs _ _ hc))
   .rw[Zag,YCL,YCt];simp[hb]
 .have e:i=n:=by omega
  subst e;exact .inl ⟨hst H2 hs,hQ acc H2 hs ha Be⟩
theorem filter_all:((List.range n).filter λ_=>true).map f=(List.range n).map f:=by rw[YDL.mpr (λ_ _=>rfl)]
theorem CompRun.text (b:Nat->Bool)(f:Nat->V)(hz:l.length<=1000)
  (ht:∀i H' Q' (h:i<l.length),Same H H'->(∀H'',Same H' H''->Q' (b i) H'')->tt (τ0.set 0 (some (tx [l.getD i 0]))) H' Q')
  (he:∀i H' Q' (h:i<l.length),b i=true->Same H H'->(∀H'',Same H' H''->Q' (f i) H'')->te (τ0.set 0 (some (tx [l.getD i 0]))) H' Q')
  (hQ:∀p H',Same H H'->H p=none->H' p=some (.lst (((List.range l.length).filter b).map f))->Q (.ref p) H'):CompRun (Its l) τ0 (Zdj 0) tt te H Q:=
 .gen (λi=>tx [l.getD i 0]) b f hz (λi _ h _=>h) (λ_ _=>YAS _) (λi H' x H3 _ _ y=>by obtain⟨e,c,hc,rfl⟩:=y;refine⟨e,?_⟩;rw[YAY,hc];rfl) ht he hQ
end
theorem ZbO:∀ {vs:List V},vs.all Zbe=true->deqs (vs.map DT.f) (vs.map DT.f)=true
 | [],_=>by unfold deqs;rfl
 | v::vs,h=>by rw[List.all_cons,YAP]at h;rw[YAc];unfold deqs;rw[ZbO h.2];unfold deq;rw[Zds h.1];rfl
theorem ownF {K:Frag}{H:Hp}{v:V}(h:Zbe v=true):Own K H (.f v) v:=⟨datF h,by unfold deq;exact Zds h,by unfold dep;exact YAx _⟩
theorem ownL {K:Frag}{H:Hp}{a:AD}{vs:List V}(h:SqL K H a vs)(hf:vs.all Zbe=true):Own K H (.l (vs.map DT.f)) (.ref a):=⟨datL h hf,by unfold deq;exact ZbO hf,by unfold dep;rw[ZcQ];decide⟩
theorem ownT {K:Frag}{H:Hp}{a:AD}{vs:List V}(h:SqT K H a vs)(hf:vs.all Zbe=true):Own K H (.t (vs.map DT.f)) (.ref a):=⟨datT h hf,by unfold deq;exact ZbO hf,by unfold dep;rw[ZcQ];decide⟩
theorem ZoI {t:SetTable}{n:Nat}:(t.orStandIn n).led=t.led/\((t.orStandIn n).plain=true->t.plain=true):=by
 unfold SetTable.orStandIn;split
 .exact⟨rfl,id⟩
 .exact⟨rfl,λh=>by cases h⟩
theorem ZmQ:(layNew t es h x).2.1.led=t.led/\((layNew t es h x).2.1.plain=true->t.plain=true):=by
 unfold layNew;split
 .rename_i slot wd _
  exact ZoI (t:=(t.put slot).1)
 .exact⟨rfl,λh=>by cases h⟩
theorem Zlu {mask finger moves:Nat}{led plain:Bool}{hs:Array Int}{t':SetTable}{order:Array Nat}(e:SetTable.laid mask finger moves led plain hs=some (t',order)):t'.led=led/\t'.plain=plain:=by
 unfold SetTable.laid at e;cases hq:SetTable.layClean mask hs with
 | none=>rw[hq]at e;cases e
 | some ow=>
  rw[hq]at e;have e':=Option.some.inj e;obtain⟨z,_⟩:=Prod.mk.inj e';subst z;exact⟨rfl,rfl⟩
theorem ZjO:(relayAll t es n).2.1.led=t.led/\((relayAll t es n).2.1.plain=true->t.plain=true):=by
 unfold relayAll;split
 .rename_i t' order q
  obtain⟨h1,h2⟩:=Zlu q;dsimp only;split
  .exact⟨h1,λh=>by rw[<-h2];exact h⟩
  .exact⟨rfl,λh=>by cases h⟩
 .exact⟨rfl,λh=>by cases h⟩
def TxSet (P:AG)(w:AI)(h:Heap)(a:AD)(ls:Q22)(led:Bool):Prop:=
 ∃(o:Obj) (es:Array (Int×Value)) (ep:Nat) (t:SetTable) (ms:Q22),h.get? a=some o/\o.ExactSet/\o.data=.set es ep t/\ElemsOf (ZaD P w) es.toList/\t.fits es.size=true /\
  t.led=led/\(t.plain=true->es.size=0)/\ms.Perm ls/\Vals (ms.map tx) (es.toList.map (·.2))/\es.size<scanBound
theorem TxSet.keep (x:TxSet P w h a ls led)(k:∀o,h.get? a=some o->h'.get? a=some o):TxSet P w h' a ls led:=by obtain⟨o,es,ep,t,ms,h1,r⟩:=x;exact⟨o,es,ep,t,ms,k o h1,r⟩
theorem TxSet.typ {P:AG}{w:AI}{s:AE}{a:AD}{ls:Q22}{led:Bool}(x:TxSet P w s.heap a ls led):s.TypeIs (.ref a) "set":=by obtain⟨o,es,ep,t,ms,h1,h2,_⟩:=x;exact⟨o,h1,h2.1⟩
def addT (ls:Q22)(l:Q11):Q22:=if l∈ls then ls else ls++[l]
theorem ZpX (r:RelV v u)(hv:∃m,v=tx m):ZeW (Sum.inr (⟨l.toArray⟩:Str):Key) u=decide (v=tx l):=by
 obtain⟨m,rfl⟩:=hv;obtain⟨t,rfl⟩:=r;rw[Zcs];simp only[ZeW,Value.isStrOf];by_cases h:m=l
 .subst h;simp
 .have:¬(⟨m.toArray⟩:Str)=⟨l.toArray⟩:=λe=>h (Zeg.mp (congrArg V.str e));rw[decide_eq_false h];simp[this]
theorem ZgL {l:Q11}:∀ {ms:Q22} {es:List (Int×Value)},Vals (ms.map tx) (es.map (·.2))->((∃e∈es,ZeW (Sum.inr (⟨l.toArray⟩:Str):Key) e.2=true)↔l∈ms)
 | [],[],_=>by simp
 | [],_::_,r=>by cases r
 | _::_,[],r=>by cases r
 | m::ms,e::es,r=>by
  cases r with
  | cons r1 r2=>
   have ih:=ZgL (l:=l) r2;have q:=ZpX (l:=l) r1 ⟨m,rfl⟩;rw[Zcs]at q;constructor
   .rintro⟨x,hx,hk⟩;rcases YAE.mp hx with z | z
    .subst z;rw[q]at hk;exact YAE.mpr (.inl (of_decide_eq_true hk).symm)
    .exact YAE.mpr (.inr (ih.mp ⟨x,z,hk⟩))
   .intro h;rcases YAE.mp h with z | z
    .exact⟨e,YAg,by rw[q];exact decide_eq_true z.symm⟩
    .obtain⟨x,hx,hk⟩:=ih.mpr z;exact⟨x,YAX _ hx,hk⟩
theorem Zdv (p:us'.Perm us):∀ {ms:Q22},Vals (ms.map tx) us->∃ms':Q22,ms'.Perm ms/\Vals (ms'.map tx) us':=by
 induction p with
 | nil=>intro ms r;exact⟨ms,.refl _,r⟩
 | cons x _ ih=>
  intro ms r;cases ms with
  | nil=>cases r
  | cons m ms=>
   cases r with
   | cons r1 r2=>
    obtain⟨ms',p',r'⟩:=ih r2;exact⟨m::ms',p'.cons _,.cons r1 r'⟩
 | swap x y l=>
  intro ms r
  match ms,r with
  | m1::m2::ms,.cons r1 (.cons r2 r3)=>exact⟨m2::m1::ms,.swap _ _ _,.cons r2 (.cons r1 r3)⟩
 | trans _ _ ih1 ih2=>
  intro ms r;obtain⟨m1,p1,r1⟩:=ih2 r;obtain⟨m2,p2,r2⟩:=ih1 r1;exact⟨m2,p2.trans p1,r2⟩
section
theorem ZgR {g:Bool->Sem Unit}(hg:∀(b:Bool) (s_1:AE) (Q':Unit->AE->Prop),Q' () s_1->wpAny (model prog w) A (g b) Q' E s_1){a:AD}{o:Obj}{es:Array (Int×Value)}{ep:Nat}{t:SetTable}
  (ho:s.heap.get? a=some o) (hd:o.data=.set es ep t) {e1:Array (Int×Value)} {t2:SetTable} (hb:e1.size<scanBound) (hf:t2.fits e1.size=true) {wd:Bool} {R:Option Bool->AE->Prop}
  (h:∀h' e2 t3 ep',Heap.SameBut a s.heap h'->h'.get? a=some { o with data:=.set e2 ep' t3 }->e2.toList.Perm e1.toList->t3.fits e2.size=true->t3.led=t2.led->(t3.plain=true->t2.plain=true)->R (some true) { s with heap:=h' }):
  wpAny (model prog w) A (do
   storeSet a e1 t2
   if (!wd&&t2.tooFull)=true then do
    g (relayAll t2 e1 (SetTable.grown e1.size)).2.2;storeSet a (relayAll t2 e1 (SetTable.grown e1.size)).1 (relayAll t2 e1 (SetTable.grown e1.size)).2.1;pure (some true)
   else pure (some true)) R E s:=by
 have put:∀ {h:Heap} {ob:Obj} {xs ys:Array (Int×Value)} {n:Nat} {t t':SetTable},h.get? a=some ob->ob.data=.set xs n t->(h.update a (Obj.putSet ys t')).get? a=some { ob with data:=.set ys (n+1) t' }:=λ{h ob xs ys n t t'} h1 h2=>by
  have q:=YBO (Obj.putSet ys t') h1 (by rw[putSet_of ys t' h2];rfl)
  rwa [putSet_of ys t' h2]at q
 have hs1:=YAm s.heap a (Obj.putSet e1 t2);have g1:=put (ys:=e1) (t':=t2) ho hd;refine YAA (wpAny_storeSet_of ho hd ?_ (fits_of_scanBound hb));split
 .have p:=relayAll_perm t2 e1 (SetTable.grown e1.size);have f:=relayAll_fits t2 e1 (SetTable.grown e1.size);have tm:=ZjO (t:=t2) (es:=e1) (n:=SetTable.grown e1.size);have z:(relayAll t2 e1 (SetTable.grown e1.size)).1.size=e1.size:=by rw[<-YAR,p.length_eq,YAR]
  refine YAA (hg _ _ _ (YAA (wpAny_storeSet_of g1 rfl (YAF ?_) (fits_of_scanBound (by rw[z];exact hb)))));exact h _ _ _ _ (hs1.trans (YAm _ a _)) (put (ob:={ o with data:=.set e1 (ep+1) t2 }) g1 rfl) p f tm.1 tm.2
 .exact YAF (h _ _ _ _ hs1 g1 (.refl _) hf rfl id)
theorem ZlE (hS:TxSet prog w s.heap a ls led)(hn:ls.length+1<scanBound)
  (h:∀h' b,Heap.SameBut a s.heap h'->TxSet prog w h' a (addT ls l) led->Q b { s with heap:=h' }):
  wpAny (model prog w) A (setAddHashed a (.str ⟨l.toArray⟩ tk) (keyH w (Sum.inr ⟨l.toArray⟩))) Q E s:=by
 obtain⟨o,es,ep,t,ms,ho,hex,hd,hel,hf,hled,hpl,hp,hv,hb⟩:=hS;have hkey:(ZaD prog w).is (Sum.inr (⟨l.toArray⟩:Str)) (.str ⟨l.toArray⟩ tk)=true:=by exact ZdK prog w _ _
 have hsc:(Value.str ⟨l.toArray⟩ tk).scannable=true:=rfl;have Bd:es.size=ls.length:=by have q:=hv.length;rw[YAD,YAD]at q;rw[<-YAR,<-q,hp.length_eq]
 have mem:=ZgL (l:=l) hv;have hl:l∈ms↔l∈ls:=hp.mem_iff;unfold setAddHashed setAddHashedIn;refine YAz (YAA (YCZ ho hd hf ?_));dsimp only;rw[byScan_of hsc hb hel,YAM rfl];unfold setAddByScan;refine YAA (YAA (YCH (YAA (wpAny_setScan_of (knd:=ZaD prog w) (k:=Sum.inr (⟨l.toArray⟩:Str)) hkey ho hd hf hel ?_))));cases hr:List.findIdx? (λe=>(ZaD prog w).is (Sum.inr (⟨l.toArray⟩:Str)) e.2) es.toList with
 | some j=>
  dsimp only;obtain⟨hj,hpj,_⟩:=List.findIdx?_eq_some_iff_getElem.mp hr;have hin:l∈ls:=hl.mp (mem.mp ⟨es.toList[j],YBr hj,hpj⟩);refine YAF (YAF ?_);have q:=h s.heap false (Heap.SameBut.refl a s.heap) (by unfold addT;rw[YAM hin];exact⟨o,es,ep,t,ms,ho,hex,hd,hel,hf,hled,hpl,hp,hv,hb⟩)
  exact q
 | none=>
  dsimp only;have hnin:l∉ls:=λz=>by obtain⟨e,he,hk⟩:=mem.mpr (hl.mpr z);have q:=List.findIdx?_eq_none_iff.mp hr e he;rw[show (ZaD prog w).is (Sum.inr (⟨l.toArray⟩:Str)) e.2=true from hk]at q;cases q
  have lp:=layNew_perm t es (keyH w (Sum.inr ⟨l.toArray⟩)) (.str ⟨l.toArray⟩ tk);have lf:=layNew_fits t es (keyH w (Sum.inr ⟨l.toArray⟩)) (.str ⟨l.toArray⟩ tk);have lt:=ZmQ (t:=t) (es:=es) (h:=keyH w (Sum.inr ⟨l.toArray⟩)) (x:=.str ⟨l.toArray⟩ tk);show wpAny _ A (match layNew t es (keyH w (Sum.inr ⟨l.toArray⟩)) (.str ⟨l.toArray⟩ tk) with | (es,t,wasDummy,gave)=>_) _ _ _;generalize hL:layNew t es (keyH w (Sum.inr ⟨l.toArray⟩)) (.str ⟨l.toArray⟩ tk)=L at lp lf lt ⊢;obtain⟨e1,t1,wd,gave⟩:=L;dsimp only at lp lf lt ⊢;rw[YBY]at lp;have sz1:e1.size=ls.length+1:=by rw[<-YAR,lp.length_eq,YAH,YAR,Bd];rfl
  have gw:∀(b:Bool) (s_1:AE) (Q':Unit->AE->Prop),Q' () s_1->wpAny (model prog w) A (match b with | true=>rule "set.scan.the-table-gave-way" | false=>pure ()) Q' E s_1:=
   λb s_1 Q' hq=>by cases b<;>first | exact YAF hq | exact YCH hq
  refine YAA (gw _ _ _ ?_);have fin:∀(t2:SetTable),t2.fits e1.size=true->t2.led=t1.led->t2.plain=false->∀h' e2 t3 ep',Heap.SameBut a s.heap h'->h'.get? a=some { o with data:=.set e2 ep' t3 }->e2.toList.Perm e1.toList->t3.fits e2.size=true->t3.led=t2.led->(t3.plain=true->t2.plain=true)->Q true { s with heap:=h' }:=by
   intro t2 f2 l2 p2 h' e2 t3 ep' sb hg pm f3 l3 p3;refine h h' true sb ?_;have pall:=pm.trans lp;obtain⟨ms',pm',hv'⟩:=Zdv (us:=(es.toList++[(keyH w (Sum.inr ⟨l.toArray⟩),Value.str ⟨l.toArray⟩ tk)]).map (·.2)) (us':=e2.toList.map (·.2)) (pall.map _) (ms:=ms++[l]) (by rw[YAy,YAy];exact hv.append (.cons ⟨tk,rfl⟩ .nil))
   unfold addT;rw[YAI hnin];refine⟨_,e2,ep',t3,ms',hg,hex,rfl,((hel.push (knd:=ZaD prog w) hkey hsc).perm pall),f3,l3.trans (l2.trans (lt.1.trans hled)),λz=>by rw[p2]at p3;exact absurd (p3 z) YAC,pm'.trans (hp.append_right [l]),hv',?_⟩;rw[<-YAR,pm.length_eq,YAR,sz1];exact hn
  split
  .refine YAA ?_;rw[hashByValue_scannable 8 hsc];refine YAF ?_;refine ZgR gw ho hd (by rw[sz1];exact hn) ?_ λh' e2 t3 ep' q1 q2 q3 q4 q5 q6=>?_
   .exact SetTable.fits_plain_off lf
   .exact YAF (fin _ (SetTable.fits_plain_off lf) rfl rfl h' e2 t3 ep' q1 q2 q3 q4 q5 q6)
  .rename_i hnp
   have hnp':t1.plain=false:=by simpa using hnp
   refine YAA (YAF ?_);rw[YAM rfl];refine ZgR gw ho hd (by rw[sz1];exact hn) lf λh' e2 t3 ep' q1 q2 q3 q4 q5 q6=>YAF (fin _ lf rfl hnp' h' e2 t3 ep' q1 q2 q3 q4 q5 q6)
end
def dd (val:Nat->Q11)(i:Nat):Q22:=((List.range i).map val).foldl addT []
theorem ZgC:dd val (i+1)=addT (dd val i) (val i):=by unfold dd;rw[YCL,YAy,List.foldl_append];rfl
theorem ZkI:(addT ls l).length<=ls.length+1:=by
 unfold addT;split
 .omega
 .simp
theorem Zll {val:Nat->Q11}:∀i,(dd val i).length<=i
 | 0=>YAS _
 | i+1=>by rw[ZgC];have h1:=Zll (val:=val) i;have h2:=ZkI (ls:=dd val i) (l:=val i);omega
theorem ZcR {val:Nat->Q11}:∀i,(dd val i).Nodup
 | 0=>by simp[dd]
 | i+1=>by
  rw[ZgC];unfold addT;split
  .exact ZcR i
  .rename_i h
   rw[YCy];refine⟨ZcR i,by simp,?_⟩;intro a ha b hb e;have:b=val i:=by simpa using hb
   subst e this;exact h ha
section
variable {prog:AG}{w:AI}{A:AH}{R:Result->AE->Prop}{I:AD}{fp wr:List AD}{G:Array GenState->Array GenState->Prop}{n:Nat}{Pi:Nat->Value->Prop}{St:Nat->AE->Prop}
theorem ZjU (W:WalksS prog w A.in1 I fp wr G n Pi St)(S:AD)(hSf:S∉fp)(val:Nat->Q11)(hval:∀i v,Pi i v->∃t,v=.str ⟨(val i).toArray⟩ t)(hb:n+1<scanBound){led:Bool}:
  ∀(k i:Nat) (s:AE),n-i=k->i<=n->St i s->TxSet prog w s.heap S (dd val i) led->(∀s',Moved (S::wr) G s s'->TxSet prog w s'.heap S (dd val n) led->R (.ok (.ret .none)) s') ->
   codeAny (model prog w) A (.builtin "set.update.loop" ⟨[.ref S,.ref I],[]⟩) R s:=by
 have nw:S∉wr:=λh=>hSf (W.sub _ h);have up:∀b∈wr,b∈S::wr:=λb hb=>YAX _ hb;intro k;induction k with
 | zero=>
  intro i s hk hi st hS hR;have e:i=n:=by omega
  subst e;refine codeAny_builtin F.entry_set_update_loop ?_;rw[YBs F.plain_set_update_loop _];show wpAny _ A.in1 (pyNext (.ref I) >>= λr=>_) _ _ s;refine YAA (W.done s _ _ st λs' hm=>?_);exact YAF (hR s' (hm.mono up) (hS.keep λo e=>hm.heap S o nw e))
 | succ k ih=>
  intro i s hk hi st hS hR;have Bl:i<n:=by omega
  refine codeAny_builtin F.entry_set_update_loop ?_;rw[YBs F.plain_set_update_loop _];show wpAny _ A.in1 (pyNext (.ref I) >>= λr=>_) _ _ s;refine YAA (W.item i s _ _ Bl st λv s1 hP st1 hm=>?_);obtain⟨tk,rfl⟩:=hval i v hP;have hS1:TxSet prog w s1.heap S (dd val i) led:=hS.keep λo e=>hm.heap S o nw e;show wpAny _ A.in1 (holding [Value.str ⟨(val i).toArray⟩ tk] (setAdd S (.str ⟨(val i).toArray⟩ tk)) >>= λ_=>_) _ _ s1;refine YAA (YAz ?_);unfold setAdd;refine YAz (YAA (wpAny_pyHash_str ?_));refine ZlE (s:={ s1 with toks:=s1.toks+1 }) (l:=val i) hS1 (by have:=Zll (val:=val) i;omega) λh' b sb hS2=>?_;rw[<-ZgC]at hS2;refine YAF ⟨plainId_quiet F.plain_set_update_loop _,ih (i+1) _ (by omega) Bl (W.frame _ s1 _ _ st1 (YCX _) λb hb o e=>(sb.2 b λz=>hSf (z▸hb)).trans e) hS2 λs2 hm2 hS3=>?_⟩;exact hR s2 (Moved.trans W.gtrans ((hm.mono up).then_heap (YCX _) λb o hb e=>(sb.2 b λz=>hb (z▸YAg)).trans e) hm2) hS3
end
theorem Zh7 {i:Nat}{u:Value}:∀ {vs:List V} {us:AC} ,Vals vs us->us[i]?=some u->∃v,vs[i]?=some v/\RelV v u:=by
 induction i with
 | zero=>
  intro vs us r e;cases r with
  | nil=>cases e
  | cons r1 _=>cases e;exact⟨_,rfl,r1⟩
 | succ i ih=>
  intro vs us r e;cases r with
  | nil=>cases e
  | cons _ r2=>exact ih r2 e
structure Walked (prog:AG)(w:AI)(x:Value)(s:AE)(T:String)(n:Nat)(val:Nat->Q11):Prop where
 ty:∀s1:AE,(∀b o,s.heap.get? b=some o->s1.heap.get? b=some o)->s1.TypeIs x T
 go:∀(A:AH) (s1:AE) (Q:Q33) (E:Q33),A.handled=none->(∀b o,s.heap.get? b=some o->s1.heap.get? b=some o) ->
  (∀(h2:Heap) (I:AD) (fp wr:List AD) (Pi:Nat->Value->Prop) (St:Nat->Heap->Prop),(∀A':AH,A'.handled=none->Walks prog w A' I fp wr n Pi St)->St 0 h2 ->
   (∀b∈fp,b<s.heap.objs.size\/s1.heap.objs.size<=b)->(∀b∈wr,s1.heap.objs.size<=b)->(∀b o,s1.heap.get? b=some o->h2.get? b=some o)->(∀i v,Pi i v->∃t,v=.str ⟨(val i).toArray⟩ t)->Q (.ref I) { s1 with heap:=h2 }) ->
  wpAny (model prog w) A (pyIter x) Q E s1
theorem Zgg {prog:AG}{w:AI}{s:AE}{l:AD}{us:AC}{ls:Q22}(hl:s.heap.IsList l us.toArray)(r:Vals (ls.map tx) us):Walked prog w (.ref l) s "list" ls.length (λi=>ls.getD i []) where
 ty:=λs1 k=>by obtain⟨o,ho,hc,_⟩:=hl;exact⟨o,k _ _ ho,hc⟩
 go:=λA s1 Q E hh k h=>by
  obtain⟨o,ho,hc,hr⟩:=id hl;have hl1:s1.heap.IsList l us.toArray:=⟨o,k _ _ ho,hc,hr⟩;have Bl:=YAL ho;have hlt1:=YAL (k _ _ ho);have Bd:us.toArray.size=ls.length:=by rw[YAJ,<-r.length,YAD]
  refine YDT hl1 ?_;have W:∀A':AH,A'.handled=none->Walks prog w A' s1.heap.objs.size [s1.heap.objs.size,l] [s1.heap.objs.size] ls.length (λi v=>us.toArray[i]?=some v) (λi h=>h.IsListIter s1.heap.objs.size l i/\h.IsList l us.toArray):=λA' hA=>by
   have q:=Walks.list (prog:=prog) (w:=w) hA s1.heap.objs.size l (YAf hlt1) us.toArray
   rwa [Bd]at q
  refine h _ _ _ _ _ _ W ⟨⟨_,YAQ _ rfl,rfl,rfl⟩,hl1.push _⟩ (λb hb=>?_) (λb hb=>?_) (λb o e=>YAB _ e) (λi v e=>?_)
  .rcases YAE.mp hb with z | z
   .exact .inr (YCC z.symm)
   .have z:b=l:=by simpa using z
    rw[z];exact .inl Bl
  .have z:b=s1.heap.objs.size:=by simpa using hb
   exact YCC z.symm
  .have e':us[i]?=some v:=by simpa using e
   obtain⟨v',hv',rv⟩:=Zh7 r e';rw[YAi]at hv';cases q:ls[i]? with
   | none=>rw[q]at hv';cases hv'
   | some m=>
    rw[q]at hv';cases hv';obtain⟨t,rfl⟩:=rv;exact⟨t,by rw[YAY,q];rfl⟩
theorem Zgf {prog:AG}{w:AI}{s:AE}{l:Q11}{t:Tok}:Walked prog w (.str ⟨l.toArray⟩ t) s "str" l.length (λi=>[l.getD i 0]) where
 ty:=λs1 _=>typeIs_str s1 _ _
 go:=λA s1 Q E hh k h=>by
  have Bd:(⟨l.toArray⟩:Str).cps.size=l.length:=by show l.toArray.size=_;simp
  have item:∀(i:Nat) (v:Value),(∃c u,(⟨l.toArray⟩:Str).cps[i]?=some c/\v=.str ⟨#[c]⟩ u)->∃t,v=.str ⟨[l.getD i 0].toArray⟩ t:=by
   rintro i v ⟨c,u,e,rfl⟩;have e':l[i]?=some c:=by simpa using e
   exact⟨u,by rw[YAY,e'];rfl⟩
  refine wpAny_pyIter_str λo St W st=>?_;rw[Bd]at W;refine h _ _ _ _ _ _ W st (λb hb=>.inr ?_) (λb hb=>?_) (λb o e=>YAB _ e) (λi v ⟨c,u,e,e2⟩=>item i v ⟨c,u,e,e2⟩)
  .have z:b=s1.heap.objs.size:=by simpa using hb
   exact YCC z.symm
  .have z:b=s1.heap.objs.size:=by simpa using hb
   exact YCC z.symm
section
abbrev ZfF (led:Bool):Obj:={ cls:=.type "set",dict:=none,data:=.set #[] 0 (.fresh 0 0 led) }
theorem Zh8 (ho:h.get? a=some (ZfF led)):TxSet prog w h a [] led:=
 ⟨_,#[],0,_,[],ho,⟨rfl,rfl,rfl⟩,rfl,λe he=>by simp at he,rfl,rfl,λ_=>rfl,.refl _,.nil,by show 0<4096;decide⟩
def Zbi (w:AI):Bool:=w.params.followText "set-order"
theorem ZlC (a:Value){Q₁:Q33}(h:Q₁ (.ref s.heap.objs.size) { s with heap:=s.heap.push (ZfF (!Zbi w)) }):
  codeAny (model prog w) A (.call (.builtin "set.__new__") ⟨[.type "set",a],[]⟩) (wants Q₁ E) s:=by
 refine codeAny_of_tree ?_;show wpAny _ A.in1 (checkBuiltinCall "set.__new__" ⟨[.type "set",a],[]⟩ >>= λ_=>again (.builtin "set.__new__" ⟨[.type "set",a],[]⟩)) _ _ s;refine YAA (wpAny_of_eq (F.newCall_set_1 a) (YAF ⟨plainId_quiet F.plain_set_new _,codeAny_builtin F.entry_set_new ?_⟩));rw[YBs F.plain_set_new _];unfold Builtin.«set.__new__» Builtin.Frozenset.newClass;have hsub:=sub_set_self;obtain⟨hp,g,d,tk,os⟩:=s;dsimp only
 wp_walk
 refine YCj (YAF ?_);dsimp only;simp only[newObj];exact YAA (wpAny_alloc (YAF (YAF h)))
set_option maxHeartbeats 3200000 in
theorem ZgS (hh:A.handled=none) (W:Walked prog w x s T n val) (t1:isSubtype (.type T) (.type "set")=pure false) (t2:isSubtype (.type T) (.type "frozenset")=pure false)
  (t3:(Value.type T == Value.type "dict")=false) (hb:n+1<scanBound)
  (h:∀(h':Heap) (tk:Nat),TxSet prog w h' s.heap.objs.size (dd val n) (!Zbi w)->(∀b o,s.heap.get? b=some o->h'.get? b=some o)->s.toks<=tk->Q (.ref s.heap.objs.size) { s with heap:=h',toks:=tk }):
  wpAny (model prog w) A (call (.type "set") [x]) Q E s:=by
 obtain⟨c,tl,hmro⟩:=F.called_set.mro;have hmade:=F.called_set.made;have hsub:=F.called_set.sub;refine YCI (codeAny_of_tree ?_);show wpAny _ _ (callAny (.type "set") _) _ _ _;refine YAF ⟨Code.quiet_builtin _ (by decide +kernel),codeAny_builtin F.entry_type_call ?_⟩;rw[Around.under_plain (weight_type_call_type "set" [x] []) rfl];have h1:=F.called_set.notType;have h2:=F.called_set.canCreate;have hct:=F.typeCall_set_1 x;repeat (any_goals (first | assumption | wp_step))
 refine codeAny_mono (ZlC x (E:=E) (Q₁:=λob s_1=>ob=.ref s.heap.objs.size/\s_1={ s with heap:=s.heap.push (ZfF (!Zbi w)) }) ⟨rfl,rfl⟩) λr s_1 hr=>?_;cases r with
 | error e=>exact hr
 | ok fl=>
  cases fl with
  | ret ob=>
   obtain⟨rfl,rfl⟩:=hr;have hS:(s.heap.push (ZfF (!Zbi w))).get? s.heap.objs.size=some (ZfF (!Zbi w)):=YAQ _ rfl;have hT:Shared.TypeIs { s with heap:=s.heap.push (ZfF (!Zbi w)) } (.ref s.heap.objs.size) "set":=⟨_,hS,rfl⟩;have hli:=F.called_set.init.lookup;have hbi:=F.called_set.init.bind (.ref s.heap.objs.size);have keep1:∀b o,s.heap.get? b=some o->(s.heap.push (ZfF (!Zbi w))).get? b=some o:=λb o e=>YAB _ e;repeat (any_goals (first | assumption | wp_step))
   refine codeAny_mono (codeAny_call_builtin (R:=wants (λr s_2=>r=.none/\∃h' tk,s_2={ s with heap:=h',toks:=tk }/\TxSet prog w h' s.heap.objs.size (dd val n) (!Zbi w)/\(∀b o,s.heap.get? b=some o->h'.get? b=some o)/\s.toks<=tk) E)
    F.called_set.init.plain F.entry_set_init (check_set_init_1 hT ?_)) λr6 s_2 hr9=>?_
   .have hTx:=W.ty { s with heap:=s.heap.push (ZfF (!Zbi w)) } keep1;unfold Builtin.«set.__init__» noKeywords Builtin.Frozenset.updateFrom;generalize hPI:pyIter=PI
    wp_walk
    subst hPI;refine W.go _ _ _ _ (by simp[hh]) keep1 λh2 I fp wr Pi St Wk st f1 f2 k2 hval=>?_;refine YAA (wpAny_runValue ?_);have hSf:s.heap.objs.size∉fp:=λz=>by
     rcases f1 _ z with q | q
     .exact YAv _ q
     .rw[YBW]at q;exact absurd q (Nat.not_succ_le_self _)
    refine ZjU ((Wk A.in1.in1.in1 (by simp[hh])).toS) s.heap.objs.size hSf val hval hb (n-0) 0 _ (by omega) (YAx _) st (Zh8 (k2 _ _ hS)) λs' hm hS'=>?_;obtain⟨h',g',d',tk',os'⟩:=s';have eg:g'=s.gens:=hm.gens;have ed:d'=s.drawn:=hm.drawn;have eo:os'=s.os:=hm.os;have et:s.toks<=tk':=hm.toks;subst eg ed eo;refine YAF ?_;refine YAF ⟨rfl,h',tk',rfl,hS',λb o e=>?_,et⟩;have Bl:=YAL e;refine hm.heap b o (λz=>?_) (k2 b o (keep1 b o e));rcases YAE.mp z with q | q
    .rw[q]at Bl;exact YAv _ Bl
    .have q2:=f2 b q;rw[YBW]at q2;exact absurd (YAn Bl (Nat.le_of_succ_le q2)) (YAv _)
   .cases r6 with
    | error e=>exact hr9
    | ok fl2=>
     cases fl2 with
     | ret r=>
      obtain⟨rfl,h',tk,rfl,hS',hk',htk⟩:=hr9;repeat (any_goals (first | assumption | wp_step))
      exact h _ _ hS' hk' htk
     | _=>exact hr9.elim
  | _=>exact hr.elim
end
theorem Zc3 {α:Type}:∀(xs:List α) (i:Nat) (h:i<xs.length),(xs[i]::xs.eraseIdx i).Perm xs
 | x::xs,0,_=>.refl _
 | x::xs,i+1,h=>by
  have hi:i<xs.length:=by simpa using h
  have ih:=Zc3 xs i hi;show (xs[i]::x::xs.eraseIdx i).Perm (x::xs);exact(List.Perm.swap _ _ _).trans (ih.cons x)
section
theorem wp_choose' (hn:n≠0)(h:∀i d,i<n->Q i { s with drawn:=d }):wpAny M A (choose src n) Q E s:=λΓ p hΓ=>by unfold choose;rw[Sem.wp_choose];exact⟨hn,h _ _ (Nat.mod_lt _ (Nat.pos_of_ne_zero hn))⟩
theorem Zc9 {α:Type}:∀(n:Nat) (xs:List α) (s:AE) (Q:List α->AE->Prop),xs.length=n->(∀ys d,ys.Perm xs->Q ys { s with drawn:=d })->wpAny M A (drawOrder n xs) Q E s
 | 0,xs,s,Q,hl,h=>by
  have e:xs=[]:=YDD hl;subst e;unfold drawOrder;exact YAF (h [] s.drawn (.refl _))
 | n+1,[],s,Q,hl,h=>by cases hl
 | n+1,x::xs,s,Q,hl,h=>by
  unfold drawOrder;refine YAA (wp_choose' (by simp) λi d hi=>?_);have e:(x::xs)[i]?=some (x::xs)[i]:=YAN hi;rw[e];dsimp only;refine YAA (Zc9 n ((x::xs).eraseIdx i) _ _ ?_ λys d' p=>YAF ?_)
  .rw[YDO hi,hl];rfl
  .refine h _ d' ((List.Perm.cons _ p).trans ?_);exact Zc3 _ _ hi
end
theorem Zee:entryFor table "set.__iter__"=some Builtin.«frozenset.__iter__»:=entryFor_alias (id':="frozenset.__iter__") (by kernel_rfl) rfl (by decide +kernel) (by kernel_rfl)
theorem ZaJ:Slot "set_iterator" "__next__" "set_iterator.__next__":=
 .of (owner:="set_iterator") (n:="__next__") (by rw[typeLookup_type,builtinLookup_eq_fast];kernel_rfl) (by decide +kernel) (by decide +kernel) (by decide +kernel)
  (by first | exact .inl (by decide +kernel) | exact .inr (by decide +kernel)) (by rw[isSubtype_type];kernel_rfl)
theorem ZbE:entryFor table "set_iterator.__next__"=some Builtin.«set_iterator.__next__»:=entryFor_of_fast (by kernel_rfl)
theorem ZbQ (a:Value):argsOk "set_iterator.__next__" ⟨[a],[]⟩:=by unfold argsOk;kernel_rfl
section
def SetIt (h:Heap)(I S:AD)(first:Value)(i n ep:Nat):Prop:=∃o,h.get? I=some o/\o.cls=.type "set_iterator"/\o.data=.fields #[first,.int i 0,.ref S,.int n 0,.int ep 0]
theorem Zmz {t:SetTable}{n:Nat}(hf:t.fits n=true):(t.place.size != n || decide (t.fill>t.mask))=false:=by simp only[SetTable.fits,YAP,beq_iff_eq,decide_eq_true_eq]at hf;simp[hf.1,Nat.not_lt.mpr hf.2]
theorem Zkp (ho:s.heap.get? S=some o)(hex:o.ExactSet)(hd:o.data=.set es ep t)(hf:t.fits es.size=true)(hz:es.size<=sizeLine)
  (h0:(Zbi w=true\/(t.plain=true\/es.size<=1))->Q (.ref s.heap.objs.size) { s with heap:=s.heap.push { cls:=.type "set_iterator",data:=.fields #[.int 0 0,.int 0 0,.ref S,.int es.size 0,.int ep 0] } })
  (h1:∀(ps:Q11) (d:Drawn),ps.Perm (List.range es.size)->Q (.ref (s.heap.objs.size+1)) { s with drawn:=d,heap:=(Heap.push s.heap { cls:=.type "tuple",data:=.seq (ps.map (λi=>Value.int ((i:Nat):Int) 0)).toArray }).push { cls:=.type "set_iterator",data:=.fields #[.ref s.heap.objs.size,.int 0 0,.ref S,.int es.size 0,.int ep 0] } }):wpAny (model prog w) A (pyIter (.ref S)) Q E s:=by
 have hT:s.TypeIs (.ref S) "set":=⟨o,ho,hex.1⟩;refine wpAny_pyIter_slot hT F.slot_set_iter (YCi F.slot_set_iter hT Zee ?_ (F.args_set_iter_1 _));unfold Builtin.«frozenset.__iter__» Builtin.Frozenset.sizeOf setDrawn setsByText
 wp_walk
 rw[hd];dsimp only;rw[Zmz hf];rw[YAI YAC];refine YAF (YAF (YAF ?_));refine YAA (YAA (YCZ ho hd hf ?_));dsimp only;refine YAA (YAA (YCj (YAF (YAF ?_))));show wpAny _ _ (if (!Zbi w&&(!t.plain&&decide (es.size>1)))=true then _ else _) _ _ _;split
 .refine YAA (Zc9 es.size (List.range es.size) _ _ (by simp) λps d p=>?_);refine YAA ?_;simp only[newTuple];refine YBk ?_ (by show (List.map _ ps).toArray.size<=sizeLine;rw[YAJ,YAD,p.length_eq,YBd];exact hz);refine YAA (wpAny_setEpoch_of (YAB _ ho) hd hf (YAA (YBk (YAF ⟨_,rfl,"set_iterator",_,⟨_,YAQ _ rfl,rfl⟩,ZaJ.lookup,?_⟩))));have q:=h1 ps d p;rw[YBW];exact q
 .rename_i hb
  refine YAA (YAF ?_);refine YAA (wpAny_setEpoch_of ho hd hf (YAA (YBk (YAF ⟨_,rfl,"set_iterator",_,⟨_,YAQ _ rfl,rfl⟩,ZaJ.lookup,h0 ?_⟩))));cases h:Zbi w with
  | true=>exact .inl rfl
  | false=>
   refine .inr ?_;cases h':t.plain with
   | true=>exact .inl rfl
   | false=>
    rw[h,h']at hb;simp at hb;exact .inr hb
end
section
variable {prog:AG}{w:AI}{A:AH}{E:Q33}{s:AE}{I S:AD}{o:Obj}{es:Array (Int×Value)}{ep i n:Nat}{t:SetTable}
theorem SetIt.typ (h:SetIt s.heap I S first i n ep):s.TypeIs (.ref I) "set_iterator":=let ⟨o,h1,h2,_⟩:=h;⟨o,h1,h2⟩
abbrev ZoA (I S:AD)(slot i ep:Nat):Sem PySem.Fin:=do
 match <-setNext S slot i ep with
 | some (x,next)=>do
  setField (.ref I) 0 (rawInt (next:Nat))
  setField (.ref I) 1 (rawInt ((i:Int)+1))
  ret x
 | none=>do
  setField (.ref I) 2 Value.none
  raiseNew (<-newExc (Value.type "StopIteration") [])
abbrev ZmF (I S:AD)(first:Value)(i ep:Nat):Sem PySem.Fin:=do
 match <-seqItems? first with
 | some places=>match places[i]? with
  | some (.int place _)=>do
   let x <-setNextDrawn S place.toNat ep
   setField (.ref I) 1 (rawInt ((i:Int)+1))
   ret x
  | some _=>unsupported "internal:set_iterator"
  | none=>do
   setField (.ref I) 0 (rawInt 0)
   setField (.ref I) 2 Value.none
   raiseNew (<-newExc (Value.type "StopIteration") [])
 | _=>unsupported "internal:set_iterator"
abbrev NxQ (prog:AG)(w:AI)(A:AH)(Q:Option Value->AE->Prop)(E:Q33)(fin:PySem.Fin)(s':AE):Prop:=∃v,fin=Fin.done (Flow.ret v)/\Q (some v) s'
abbrev NxE (prog:AG)(w:AI)(A:AH)(Q:Option Value->AE->Prop)(E:Q33)(e:Value)(s':AE):Prop:=
 wpAny (model prog w) A (do let b <-isInstance e (Value.type "StopIteration");if b=true then pure none else throw e) Q E s'
theorem ZcI (hi:SetIt s.heap I S (.int (slot:Nat) 0) i es.size ep)(ho:s.heap.get? S=some o)(hd:o.data=.set es ep t)(hf:t.fits es.size=true)
  (h:wpAny (model prog w) A.in1 (ZoA I S slot i ep) (NxQ prog w A Q E) (NxE prog w A Q E) s):wpAny (model prog w) A (pyNext (.ref I)) Q E s:=by
 obtain⟨oi,hoi,hci,hdi⟩:=id hi;unfold pyNext;refine YAA (YCa (wpAny_callSpecial?_slot (name:=Str.ofString "__next__") hi.typ ZaJ (YCi ZaJ hi.typ ZbE ?_ (ZbQ _))));unfold Builtin.«set_iterator.__next__»
 wp_walk
 rw[hdi];dsimp only;refine YAF ?_;dsimp only;refine YAA (wpAny_setEntries_of ho hd hf ?_)
 (try dsimp only)
 rw[YAI (by simp)];refine YBI h (λfin s' q=>?_) λe s' q=>q;obtain⟨v,rfl,q⟩:=q;exact⟨v,rfl,YAF q⟩
theorem Zel (hi:SetIt s.heap I S (.ref tp) i es.size ep)(ho:s.heap.get? S=some o)(hd:o.data=.set es ep t)(hf:t.fits es.size=true)
  (h:wpAny (model prog w) A.in1 (ZmF I S (.ref tp) i ep) (NxQ prog w A Q E) (NxE prog w A Q E) s):wpAny (model prog w) A (pyNext (.ref I)) Q E s:=by
 obtain⟨oi,hoi,hci,hdi⟩:=id hi;unfold pyNext;refine YAA (YCa (wpAny_callSpecial?_slot (name:=Str.ofString "__next__") hi.typ ZaJ (YCi ZaJ hi.typ ZbE ?_ (ZbQ _))));unfold Builtin.«set_iterator.__next__»
 wp_walk
 rw[hdi];dsimp only;refine YAF ?_;dsimp only;refine YAA (wpAny_setEntries_of ho hd hf ?_)
 (try dsimp only)
 rw[YAI (by simp)];refine YBI h (λfin s' q=>?_) λe s' q=>q;obtain⟨v,rfl,q⟩:=q;exact⟨v,rfl,YAF q⟩
theorem Zgi (hh:A.handled=none)(hQ:∀h',(∀b o,s.heap.get? b=some o->h'.get? b=some o)->Q none { s with heap:=h' }):
  wpAny (model prog w) A.in1 (do raiseNew (<-newExc (Value.type "StopIteration") [])) (NxQ prog w A Q E) (NxE prog w A Q E) s:=by
 refine YAA ?_;simp only[newExc,newTuple];refine YAA (YBk ?_ (by size_fits));refine YAA (m:=firstArgMember _ _) (wpAny_of_eq (a:=Value.none) (by first | rfl | (simp only[firstArgMember];rfl)) ?_);refine YBk ?_ (by size_fits);simp only[raiseNew];refine YAA (wpAny_handled ?_);rw[show A.in1.handled=none from hh];refine YAA (YAF (wpAny_throw ?_));refine YAA (wpAny_isInstance (T:="StopIteration") (b:=true) ⟨_,YAQ _ rfl,rfl⟩ isSubtype_stop ?_);exact YAF (hQ _ λb o e=>YAB _ (YAB _ e))
theorem Zeo {h:Heap} {v:Value} {k:Nat} {oi:Obj} {vs:Array Value} (hoi:h.get? I=some oi) (hci:oi.cls=.type "set_iterator") (hdi:oi.data=.fields vs):
  ∃o',(h.update I (Obj.mapFields (·.setIfInBounds k v))).get? I=some o'/\o'.cls=.type "set_iterator"/\o'.data=.fields (vs.setIfInBounds k v):=
 ⟨_,YBO _ hoi (Obj.isFreed_of_fields (YCn hdi _)),(Obj.cls_mapFields ..).trans hci,YCn hdi _⟩
theorem Zdz (ho:s.heap.get? S=some o)(hd:o.data=.set es ep t)(hf:t.fits es.size=true)(hb:Zbi w=true)
  (h:Q (((pickOrder (w.params.setOrder S ep) es)[i]?).map λe=>(e.2,slot)) s):wpAny (model prog w) A (setNext S slot i ep) Q E s:=by
 unfold setNext;refine YAA (YCZ ho hd hf ?_);dsimp only;unfold setsByText;refine YAA (YAA (YCj (YAF ?_)));show wpAny _ _ (if Zbi w=true then _ else _) _ _ _;rw[hb,YAM rfl,YAI (by simp)];unfold setWalk;refine YAA (YAA (YCZ ho hd hf ?_));dsimp only;unfold setsByText;refine YAA (YAA (YCj (YAF ?_)));show wpAny _ _ (if Zbi w=true then _ else _) _ _ _;rw[hb,YAM rfl];exact YAA (YCj (YAF (YAF h)))
theorem ZdA (ho:s.heap.get? S=some o)(hd:o.data=.set es ep t)(hf:t.fits es.size=true)(hb:Zbi w=false)(hl:t.led=true)(h1:es.size<=1)
  (h:Q (match es[SetTable.below t.place slot]?,t.place[SetTable.below t.place slot]? with | some (_,x),some j=>some (x,j+1) | _,_=>none) s):wpAny (model prog w) A (setNext S slot i ep) Q E s:=by
 unfold setNext;refine YAA (YCZ ho hd hf ?_);dsimp only;unfold setsByText;refine YAA (YAA (YCj (YAF ?_)));show wpAny _ _ (if Zbi w=true then _ else (if (!t.plain&&decide (es.size>1))=true then _ else _)) _ _ _;have hn:¬es.size>1:=by omega
 rw[hb,YAI YAC,decide_eq_false hn,YCE,YAI YAC];show wpAny _ _ ((if (!t.led&&!es.isEmpty)=true then (do let _ <-(unsupported "set:maker-not-led":Sem Unit);pure ()) else pure ()) >>= λ_=>_) _ _ _;rw[hl,YCv,YBZ,YAI YAC];exact YAA (YAF (YAF h))
end
theorem Zfu {α:Type}{next:Nat->Nat}:∀(Bj k:Nat) (left:List α) (out:Array α),left.length=Bj->(pickOrder.go next Bj k left out).toList.Perm (out.toList++left)
 | 0,k,left,out,h=>by
  have e:left=[]:=YDD h;subst e;unfold pickOrder.go;simp
 | Bj+1,k,left,out,h=>by
  have Bl:next k % left.length<left.length:=Nat.mod_lt _ (by omega)
  unfold pickOrder.go;rw[YAN Bl];dsimp only;refine(Zfu Bj (k+1) _ _ (by rw[YDO Bl,h];rfl)).trans ?_;rw[YBY,YAr];exact(Zc3 left _ Bl).append_left _
theorem ZbG:(pickOrder next xs).toList.Perm xs.toList:=by unfold pickOrder;have:=Zfu (next:=next) xs.size 0 xs.toList #[] (by simp);simpa using this
theorem ZbJ:Slot "set_iterator" "__iter__" "set_iterator.__iter__":=
 .of (owner:="set_iterator") (n:="__iter__") (by rw[typeLookup_type,builtinLookup_eq_fast];kernel_rfl) (by decide +kernel) (by decide +kernel) (by decide +kernel) (by first | exact .inl (by decide +kernel) | exact .inr (by decide +kernel)) (by rw[isSubtype_type];kernel_rfl)
theorem ZcO:entryFor table "set_iterator.__iter__"=some Builtin.«dict_keyiterator.__iter__»:=entryFor_alias (id':="dict_keyiterator.__iter__") (by kernel_rfl) rfl (by decide +kernel) (by kernel_rfl)
theorem Zc6 (a:Value):argsOk "set_iterator.__iter__" ⟨[a],[]⟩:=by unfold argsOk;kernel_rfl
section
theorem ZdP (hi:SetIt s.heap I S first i n ep)(h:Q (.ref I) s):wpAny (model prog w) A (pyIter (.ref I)) Q E s:=by refine wpAny_pyIter_slot hi.typ ZbJ (YCi ZbJ hi.typ ZcO ?_ (Zc6 _));show wpAny _ _ (ret (.ref I)) _ _ s;exact YAF ⟨_,rfl,"set_iterator",_,hi.typ,ZaJ.lookup,h⟩
theorem Zcm (sb:Heap.SameBut I h h')(hne:S≠I)(ho:h.get? S=some o):h'.get? S=some o:=(sb.2 S hne).trans ho
theorem Zh4 (hh:A.handled=none)(hne:S≠I)(hd:o.data=.set es ep t)(hf:t.fits es.size=true)(hb:Zbi w=true):
  Walks prog w A I [I,S] [I] es.size (λi v=>(((pickOrder (w.params.setOrder S ep) es).toList).map (·.2))[i]?=some v) (λi h=>SetIt h I S (.int ((0:Nat):Int) 0) i es.size ep/\h.get? S=some o) where
 sub:=λb hb=>by simp at hb;simp[hb]
 frame:=λi h h' ⟨⟨oi,h1,r⟩,h2⟩ hk=>⟨⟨oi,hk I (by simp) _ h1,r⟩,hk S (by simp) _ h2⟩
 item:=λi s Q E hi ⟨st,ho⟩ hQ=>by
  have hl:(pickOrder (w.params.setOrder S ep) es).size=es.size:=by rw[<-YAR,ZbG.length_eq,YAR]
  have he:(pickOrder (w.params.setOrder S ep) es)[i]?=some (pickOrder (w.params.setOrder S ep) es)[i]:=by simp[hl,hi]
  refine ZcI st ho hd hf (YAA (Zdz ho hd hf hb ?_));rw[he];dsimp only[Option.map_some];obtain⟨oi,g1,g2,g3⟩:=id st;refine YAA (YBf g1 g3 (by simp) ?_);obtain⟨o1,k1,k2,k3⟩:=Zeo (v:=rawInt ((0:Nat):Int)) (k:=0) g1 g2 g3;refine YAA (YBf k1 k3 (by simp) ?_);obtain⟨o2,m1,m2,m3⟩:=Zeo (v:=rawInt ((i:Int)+1)) (k:=1) k1 k2 k3;have sb:=(YAm s.heap I (Obj.mapFields (·.setIfInBounds 0 (rawInt ((0:Nat):Int))))).trans (YAm _ I (Obj.mapFields (·.setIfInBounds 1 (rawInt ((i:Int)+1)))));refine YAF ⟨_,rfl,hQ _ _ s.toks ?_ ⟨⟨o2,m1,m2,?_⟩,Zcm sb hne ho⟩ λb o hb e=>(sb.2 b (by simpa using hb)).trans e⟩
  .rw[YAi,YAo,he];rfl
  .rw[m3];simp[rawInt]
 done:=λs Q E ⟨st,ho⟩ hQ=>by
  have hl:(pickOrder (w.params.setOrder S ep) es).size=es.size:=by rw[<-YAR,ZbG.length_eq,YAR]
  have he:(pickOrder (w.params.setOrder S ep) es)[es.size]?=none:=by simp[hl]
  refine ZcI st ho hd hf (YAA (Zdz ho hd hf hb ?_));rw[he];dsimp only[Option.map_none];obtain⟨oi,g1,g2,g3⟩:=id st;refine YAA (YBf g1 g3 (by simp) ?_);have sb:=YAm s.heap I (Obj.mapFields (·.setIfInBounds 2 Value.none));exact Zgi (A:=A) hh λh' k=>hQ h' s.toks λb o hb e=>k b o ((sb.2 b (by simpa using hb)).trans e)
 self:=λi s Q E ⟨st,_⟩ hQ=>ZdP st hQ
def Zc1 (t:SetTable)(i:Nat):Nat:=if i=0 then 0 else t.place.getD 0 0+1
theorem Zh0:SetTable.below xs 0=0:=by
 unfold SetTable.below;have all:∀Bj hi,SetTable.below.go xs 0 Bj 0 hi=0:=by
  intro Bj;induction Bj with
  | zero=>intro hi;unfold SetTable.below.go;rfl
  | succ f ih=>
   intro hi;unfold SetTable.below.go;split
   .rw[YAI (Nat.not_lt_zero _)];exact ih _
   .rfl
 exact all _ _
theorem ZjG:SetTable.below #[j] (j+1)=1:=by unfold SetTable.below;show SetTable.below.go #[j] (j+1) 1 0 1=1;unfold SetTable.below.go;simp[SetTable.below.go]
theorem Znv (h:xs.size=1):∃j,xs=#[j]:=by
 obtain⟨l⟩:=xs
 match l,h with
 | [j],_=>exact⟨j,rfl⟩
theorem Zh5 (hh:A.handled=none)(hne:S≠I)(hd:o.data=.set es ep t)(hf:t.fits es.size=true)(hb:Zbi w=false)(hl:t.led=true)(h1:es.size<=1):
  Walks prog w A I [I,S] [I] es.size (λi v=>(es.toList.map (·.2))[i]?=some v) (λi h=>SetIt h I S (.int ((Zc1 t i:Nat):Int) 0) i es.size ep/\h.get? S=some o) where
 sub:=λb hb=>by simp at hb;simp[hb]
 frame:=λi h h' ⟨⟨oi,h1,r⟩,h2⟩ hk=>⟨⟨oi,hk I (by simp) _ h1,r⟩,hk S (by simp) _ h2⟩
 item:=λi s Q E hi ⟨st,ho⟩ hQ=>by
  have i0:i=0:=by omega
  subst i0;have ps:t.place.size=es.size:=by have:=hf;simp only[SetTable.fits,YAP,beq_iff_eq]at this;exact this.1
  have he:es[0]?=some es[0]:=by simp[hi]
  have hp:t.place[0]?=some (t.place.getD 0 0):=by
   have:0<t.place.size:=by omega
   simp[this]
  refine ZcI st ho hd hf (YAA (ZdA ho hd hf hb hl h1 ?_));rw[show Zc1 t 0=0 from rfl,Zh0,he,hp];dsimp only;obtain⟨oi,g1,g2,g3⟩:=id st;refine YAA (YBf g1 g3 (by simp) ?_);obtain⟨o1,k1,k2,k3⟩:=Zeo (v:=rawInt ((t.place.getD 0 0+1:Nat):Int)) (k:=0) g1 g2 g3;refine YAA (YBf k1 k3 (by simp) ?_);obtain⟨o2,m1,m2,m3⟩:=Zeo (v:=rawInt (((0:Nat):Int)+1)) (k:=1) k1 k2 k3;have sb:=(YAm s.heap I (Obj.mapFields (·.setIfInBounds 0 (rawInt ((t.place.getD 0 0+1:Nat):Int))))).trans (YAm _ I (Obj.mapFields (·.setIfInBounds 1 (rawInt (((0:Nat):Int)+1)))));refine YAF ⟨_,rfl,hQ _ _ s.toks ?_ ⟨⟨o2,m1,m2,?_⟩,Zcm sb hne ho⟩ λb o hb e=>(sb.2 b (by simpa using hb)).trans e⟩
  .rw[YAi,YAo,he];rfl
  .rw[m3];simp[rawInt,Zc1]
 done:=λs Q E ⟨st,ho⟩ hQ=>by
  have ps:t.place.size=es.size:=by have:=hf;simp only[SetTable.fits,YAP,beq_iff_eq]at this;exact this.1
  have hn:es[SetTable.below t.place (Zc1 t es.size)]?=none:=by
   have hz:es.size=0\/es.size=1:=by omega
   rcases hz with z | z
   .simp[z]
   .have e1:∃j,t.place=#[j]:=by
     have:t.place.size=1:=by omega
     exact Znv this
    obtain⟨j,ej⟩:=e1;have:Zc1 t es.size=j+1:=by unfold Zc1;rw[YAI (by omega),ej];rfl
    rw[this,ej,ZjG];simp[z]
  refine ZcI st ho hd hf (YAA (ZdA ho hd hf hb hl h1 ?_));rw[hn];dsimp only;obtain⟨oi,g1,g2,g3⟩:=id st;refine YAA (YBf g1 g3 (by simp) ?_);have sb:=YAm s.heap I (Obj.mapFields (·.setIfInBounds 2 Value.none));exact Zgi (A:=A) hh λh' k=>hQ h' s.toks λb o hb e=>k b o ((sb.2 b (by simpa using hb)).trans e)
 self:=λi s Q E ⟨st,_⟩ hQ=>ZdP st hQ
theorem ZhF (ho:s.heap.get? S=some o)(hd:o.data=.set es ep t)(hf:t.fits es.size=true)(he:es[p]?=some e)(h:Q e.2 s):wpAny (model prog w) A (setNextDrawn S p ep) Q E s:=by unfold setNextDrawn;refine YAA (YCZ ho hd hf ?_);dsimp only;rw[YAI (by simp),he];exact YAF h
theorem Zge {tp:AD}{ps:Q11}(hh:A.handled=none)(hne:S≠I)(hnt:tp≠I)(hd:o.data=.set es ep t)(hf:t.fits es.size=true)(hp:ps.Perm (List.range es.size)):
  Walks prog w A I [I,S,tp] [I] es.size (λi v=>(ps.map λp=>(es.getD p (0,.none)).2)[i]?=some v) (λi h=>SetIt h I S (.ref tp) i es.size ep/\h.get? S=some o/\h.get? tp=some { cls:=.type "tuple",data:=.seq (ps.map (λi=>Value.int ((i:Nat):Int) 0)).toArray }) where
 sub:=λb hb=>by simp at hb;simp[hb]
 frame:=λi h h' ⟨⟨oi,h1,r⟩,h2,h3⟩ hk=>⟨⟨oi,hk I (by simp) _ h1,r⟩,hk S (by simp) _ h2,hk tp (by simp) _ h3⟩
 item:=λi s Q E hi ⟨st,ho,ht⟩ hQ=>by
  have hl:ps.length=es.size:=by rw[hp.length_eq,YBd]
  have hi':i<ps.length:=by omega
  have hpi:ps[i]?=some ps[i]:=YAN hi';have Bl:ps[i]<es.size:=YBA.mp (hp.mem_iff.mp (YBr hi'));have he:es[ps[i]]?=some es[ps[i]]:=by simp[Bl]
  refine Zel st ho hd hf (YAA (wpAny_seqItems ht rfl ?_));dsimp only;have hx:((ps.map (λi=>Value.int ((i:Nat):Int) 0)).toArray)[i]?=some (Value.int ((ps[i]:Nat):Int) 0):=by simp[hpi]
  rw[hx];dsimp only;refine YAA (ZhF ho hd hf he ?_);obtain⟨oi,g1,g2,g3⟩:=id st;refine YAA (YBf g1 g3 (by simp) ?_);obtain⟨o2,m1,m2,m3⟩:=Zeo (v:=rawInt ((i:Int)+1)) (k:=1) g1 g2 g3;have sb:=YAm s.heap I (Obj.mapFields (·.setIfInBounds 1 (rawInt ((i:Int)+1))));refine YAF ⟨_,rfl,hQ _ _ s.toks ?_ ⟨⟨o2,m1,m2,?_⟩,Zcm sb hne ho,Zcm sb hnt ht⟩ λb o hb e=>(sb.2 b (by simpa using hb)).trans e⟩
  .rw[YAi,hpi];simp[Bl]
  .rw[m3];simp[rawInt]
 done:=λs Q E ⟨st,ho,ht⟩ hQ=>by
  have hl:ps.length=es.size:=by rw[hp.length_eq,YBd]
  refine Zel st ho hd hf (YAA (wpAny_seqItems ht rfl ?_));dsimp only;have hx:((ps.map (λi=>Value.int ((i:Nat):Int) 0)).toArray)[es.size]?=none:=by simp[hl]
  rw[hx];dsimp only;obtain⟨oi,g1,g2,g3⟩:=id st;refine YAA (YBf g1 g3 (by simp) ?_);obtain⟨o1,k1,k2,k3⟩:=Zeo (v:=rawInt 0) (k:=0) g1 g2 g3;refine YAA (YBf k1 k3 (by simp) ?_);have sb:=(YAm s.heap I (Obj.mapFields (·.setIfInBounds 0 (rawInt 0)))).trans (YAm _ I (Obj.mapFields (·.setIfInBounds 2 Value.none)));exact Zgi (A:=A) hh λh' k=>hQ h' s.toks λb o hb e=>k b o ((sb.2 b (by simpa using hb)).trans e)
 self:=λi s Q E ⟨st,_⟩ hQ=>ZdP st hQ
end
theorem ZfS:typeLookup (.type "set") "__len__"=pure (some (.builtin "set.__len__")):=by rw[typeLookup_type,builtinLookup_eq_fast];kernel_rfl
section
theorem Zhp {es:Array (Int×Value)}{ps:Q11}(hp:ps.Perm (List.range es.size)):(ps.map λp=>(es.getD p (0,.none)).2).Perm (es.toList.map (·.2)):=by
 have q:=hp.map (λp=>(es.getD p (0,.none)).2);refine q.trans (.of_eq ?_);apply YCQ
 .simp
 .intro n h1 h2;have hn:n<es.size:=by simpa using h2
  simp[hn]
theorem ZhP (hS:TxSet prog w s.heap S ls (!Zbi w))
  (h:∀(h2:Heap) (d:Drawn) (I:AD) (fp:List AD) (vs:AC) (ms:Q22) (St:Nat->Heap->Prop),(∀A':AH,A'.handled=none->Walks prog w A' I fp [I] ls.length (λi v=>vs[i]?=some v) St)->St 0 h2 ->
   (∀b∈fp,b=S\/s.heap.objs.size<=b)->s.heap.objs.size<=I->(∀b o,s.heap.get? b=some o->h2.get? b=some o)->ms.Perm ls->Vals (ms.map tx) vs->Q (.ref I) { s with heap:=h2,drawn:=d }):
  wpAny (model prog w) A (pyIter (.ref S)) Q E s:=by
 obtain⟨o,es,ep,t,ms,ho,hex,hd,hel,hf,hled,hpl,hp,hv,hb⟩:=hS;have Bd:es.size=ls.length:=by have q:=hv.length;rw[YAD,YAD]at q;rw[<-YAR,<-q,hp.length_eq]
 have Bl:=YAL ho;refine Zkp ho hex hd hf (fits_of_scanBound hb) (λhc=>?_) λps d pp=>?_
 .have nI:S≠s.heap.objs.size:=YAf Bl;have st:(s.heap.push ({ cls:=.type "set_iterator",data:=.fields #[.int 0 0,.int 0 0,.ref S,.int es.size 0,.int ep 0] }:Obj)).get? s.heap.objs.size=some { cls:=.type "set_iterator",data:=.fields #[.int 0 0,.int 0 0,.ref S,.int es.size 0,.int ep 0] }:=YAQ _ rfl;have fp:∀b∈[s.heap.objs.size,S],b=S\/s.heap.objs.size<=b:=λb hb=>by
   rcases YAE.mp hb with z | z
   .exact .inr (YCC z.symm)
   .exact .inl (by simpa using z)
  cases hby:Zbi w with
  | true=>
   obtain⟨ms',p',r'⟩:=Zdv ((ZbG (next:=w.params.setOrder S ep) (xs:=es)).map (·.2)) hv;have W:∀A':AH,A'.handled=none->_:=λA' hA=>Zh4 (prog:=prog) (w:=w) (A:=A') (I:=s.heap.objs.size) (S:=S) (o:=o) hA nI hd hf hby;rw[Bd]at W;exact h _ s.drawn _ _ _ ms' _ W ⟨⟨_,st,rfl,by rw[Bd];rfl⟩,YAB _ ho⟩ fp (YAS _) (λb o e=>YAB _ e) (p'.trans hp) r'
  | false=>
   have h1:es.size<=1:=by
    rcases hc with z | z | z
    .rw[hby]at z;cases z
    .rw[hpl z];exact YAx _
    .exact z
   have hl:t.led=true:=by rw[hled,hby];rfl
   have W:∀A':AH,A'.handled=none->_:=λA' hA=>Zh5 (prog:=prog) (w:=w) (A:=A') (I:=s.heap.objs.size) (S:=S) (o:=o) hA nI hd hf hby hl h1;rw[Bd]at W;exact h _ s.drawn _ _ _ ms _ W ⟨⟨_,st,rfl,by rw[Bd];rfl⟩,YAB _ ho⟩ fp (YAS _) (λb o e=>YAB _ e) hp hv
 .have nI:S≠s.heap.objs.size+1:=YAf (YCx Bl);have nT:s.heap.objs.size≠s.heap.objs.size+1:=YAf (Nat.lt_succ_self _);obtain⟨ms',p',r'⟩:=Zdv (Zhp pp) hv;have W:∀A':AH,A'.handled=none->_:=λA' hA=>Zge (prog:=prog) (w:=w) (A:=A') (I:=s.heap.objs.size+1) (S:=S) (o:=o) (tp:=s.heap.objs.size) hA nI nT hd hf pp;rw[Bd]at W;refine h _ d _ _ _ ms' _ W ⟨⟨{ cls:=.type "set_iterator",data:=.fields #[.ref s.heap.objs.size,.int 0 0,.ref S,.int es.size 0,.int ep 0] },?_,rfl,by rw[Bd];rfl⟩,YAB _ (YAB _ ho),YAB _ (YAQ _ rfl)⟩ ?_ (YCX _) (λb o e=>YAB _ (YAB _ e)) (p'.trans hp) r'
  .rw[<-YBW];exact YAQ _ rfl
  .intro b hb;rcases YAE.mp hb with z | z
   .exact .inr (by rw[z];exact YCX _)
   .rcases YAE.mp z with z | z
    .exact .inl z
    .have z:b=s.heap.objs.size:=by simpa using z
     exact .inr (YCC z.symm)
theorem Zd4 (hh:A.handled=none)(hS:TxSet prog w s.heap S ls (!Zbi w))(hn:ls.length<=sizeLine)
  (hQ:∀(s':AE) (vs:AC) (ms:Q22),(∀b o,s.heap.get? b=some o->s'.heap.get? b=some o)->s'.gens=s.gens->s'.os=s.os->ms.Perm ls->Vals (ms.map tx) vs->Q vs s'):wpAny (model prog w) A (collect (.ref S)) Q E s:=by
 unfold collect;refine YAA (wpAny_runValue (codeAny_builtin F.entry_proto_collect ?_));rw[YBs F.plain_proto_collect _];show wpAny _ A.in1 (newList [] >>= λl=>again (.builtin "list.__iadd__" ⟨[l,.ref S],[]⟩)) _ _ s;refine YAA (YBk (YAF ⟨plainId_quiet F.plain_list_iadd _,codeAny_builtin F.entry_list_iadd ?_⟩));rw[YBs F.plain_list_iadd _];generalize hH:s.heap.push { cls:=.type "list",data:=.seq ([]:AC).toArray }=H;have hHs:H.objs.size=s.heap.objs.size+1:=by rw[<-hH,YBW]
 have hL:H.get? s.heap.objs.size=some { cls:=.type "list",data:=.seq ([]:AC).toArray }:=hH▸YAQ _ rfl;have k1:∀b o,s.heap.get? b=some o->H.get? b=some o:=λb o e=>hH▸YAB _ e;have hS1:TxSet prog w H S ls (!Zbi w):=hS.keep λo e=>k1 S o e;have hT:Shared.TypeIs { s with heap:=H } (.ref S) "set":=hS1.typ (s:={ s with heap:=H });have nS:S≠s.heap.objs.size:=by obtain⟨o,_,_,_,_,ho,_⟩:=hS;exact YAf (YAL ho)
 show wpAny _ A.in1 (Builtin.List.listExtendWith (.ref s.heap.objs.size) (.ref S) (.ref s.heap.objs.size)) _ _ { s with heap:=H };unfold Builtin.List.listExtendWith;refine YAA (wpAny_typeOf hT ?_);have h1:Builtin.List.listSameRef (.ref s.heap.objs.size) (.ref S)=false:=by simp[Builtin.List.listSameRef,YAh nS]
 have h2:(Value.type "set" == Value.type "list")=false:=by decide
 have h3:(Value.type "set" == Value.type "tuple")=false:=by decide
 simp only[h1,h2,h3,Bool.or_false,YBp,if_false];refine YAA (ZhP (s:={ s with heap:=H }) hS1 λh2' d I fp vs ms St W st hfp hI k2 hp hv=>?_);have hT2:Shared.TypeIs { s with heap:=h2',drawn:=d } (.ref S) "set":=(hS1.keep λo e=>k2 S o e).typ (s:={ s with heap:=h2',drawn:=d });refine YAA (YAz ?_);unfold Builtin.List.listLengthHint;refine YAA (wpAny_specialOf hT2 ZfS ?_)
 wp_delta
 refine YAA (wpAny_isInstance (T:="set") (v:=.ref S) (b:=true) hT2 (by rw[isSubtype_type];kernel_rfl) ?_);show wpAny _ A.in1 (typeOf (Value.ref S) >>= λr=>_) _ _ _;refine YAA (wpAny_typeOf hT2 ?_);refine YAF ?_;rw[YAM (by decide)];refine YAA (YCH ?_);have hL2:h2'.get? s.heap.objs.size=some { cls:=.type "list",data:=.seq ([]:AC).toArray }:=k2 _ _ hL;refine YAA ?_;show wpAny _ A.in1 (updateSeq s.heap.objs.size (·.push .none) >>= λ_=>updateSeq s.heap.objs.size (·.pop)) _ _ _;refine YAA (wpAny_updateSeq hL2 rfl ?_);have hL3:=YBO (Obj.mapSeq (·.push Value.none)) hL2 rfl;refine wpAny_updateSeq hL3 rfl ?_;have hL4:=YBO (Obj.mapSeq (·.pop)) hL3 rfl;have oth:∀b o,b≠s.heap.objs.size->h2'.get? b=some o->((h2'.update s.heap.objs.size (Obj.mapSeq (·.push Value.none))).update s.heap.objs.size (Obj.mapSeq (·.pop))).get? b=some o:=
  λb o hb e=>(YAw _ _ (YAh hb)).trans ((YAw _ _ (YAh hb)).trans e)
 have hle:s.heap.objs.size+1<=I:=by rw[<-hHs];exact hI
 have hSf:s.heap.objs.size∉fp:=λz=>by
  rcases hfp _ z with q | q
  .exact nS q.symm
  .have q':H.objs.size<=s.heap.objs.size:=q;rw[hHs]at q';exact absurd q' (Nat.not_succ_le_self _)
 refine YAF ⟨plainId_quiet F.plain_extend_loop _,codeAny_extend_loopS (W A.in1 hh).toS hn _ hSf _ ls.length 0 _ _ _ rfl (YAx _) ((W A.in1 hh).frame 0 h2' _ st λb hb o e=>oth b o (λz=>hSf (z▸hb)) e) hL4 (ItemsOf.nil _) λs' acc' c' hm hS' Be=>?_⟩;show wpAny _ A (load s.heap.objs.size >>= λr=>_) _ _ s';refine YAA (wpAny_load hS' ?_);have hvs:acc'.toList=vs:=by
  have hl:vs.length=ls.length:=by rw[<-hv.length,YAD,hp.length_eq]
  apply YCz;intro j;rw[YAo];by_cases hj:j<ls.length
  .have hj':j<acc'.size:=by rw[Be.1];exact hj
   have e:acc'[j]?=some acc'[j]:=by simp[hj']
   rw[e,Be.2 j _ e]
  .rw[Array.getElem?_eq_none (by rw[Be.1];omega),YBe (by omega)]
 have done:=hQ s' vs ms (λb o e=>by
  have Bl:=YAL e;refine hm.heap b o (λz=>?_) (oth b o (YAf Bl) (k2 b o (k1 b o e)));rcases YAE.mp z with q | q
  .rw[q]at Bl;exact YAv _ Bl
  .have q:b=I:=by simpa using q
   rw[q]at Bl;exact absurd Bl (Nat.not_lt.mpr (Nat.le_of_succ_le hle))) hm.gens hm.os hp hv
 rw[<-hvs]at done;exact YAF done
end
def leT (a b:Q11):Bool:=!decide (b<a)
def ZaV (ls:Q22):Q22:=ls.mergeSort leT
theorem ZbH:leT a b=true↔a<=b:=by unfold leT;rw[Bool.not_eq_true',decide_eq_false_iff_not];exact List.not_lt
theorem ZaI (ls:Q22):(ZaV ls).Perm ls:=List.mergeSort_perm _ _
theorem Zbo (ls:Q22):(ZaV ls).Pairwise (λa b=>leT a b=true):=
 List.pairwise_mergeSort (le:=leT) (λa b c h1 h2=>ZbH.mpr (List.le_trans (ZbH.mp h1) (ZbH.mp h2))) (λa b=>Bool.or_eq_true_iff.mpr ((List.le_total a b).imp ZbH.mpr ZbH.mpr)) ls
theorem Zck (p:ms.Perm ls)(h:ms.Pairwise (λa b=>leT a b=true)):ms=ZaV ls:=
 List.Perm.eq_of_pairwise (λa b _ _ h1 h2=>List.le_antisymm (ZbH.mp h1) (ZbH.mp h2)) h (Zbo ls) (p.trans (ZaI ls).symm)
theorem Zcu (p:ms.Perm ls):ZaV ms=ZaV ls:=Zck ((ZaI ms).trans p) (Zbo ms)
theorem Zgh:∀ {us:AC} {ss:AJ},StrsAre us ss->Vals ((ss.map λx=>x.cps.toList).map tx) us
 | _,_,.nil=>.nil
 | _,_,.cons x t h=>.cons ⟨t,rfl⟩ (Zgh h)
theorem ZcE:∀ {ss:AJ},sortedS ss=true->(ss.map λx=>x.cps.toList).Pairwise (λa b=>leT a b=true):=by
 have ris:∀(p:Str) (l:AJ),risingS p l=true->((p::l).map λx=>x.cps.toList).Pairwise (λa b=>leT a b=true):=by
  intro p l;induction l generalizing p with
  | nil=>intro _;simp
  | cons x r ih=>
   intro h;have h':(!ltCps x.cps.toList p.cps.toList&&risingS x r)=true:=h;rw[YAP,ltCps_eq]at h';have q:=ih x h'.2;rw[YAc,YBC];refine⟨λb hb=>?_,q⟩;have hx:leT p.cps.toList x.cps.toList=true:=h'.1;rw[YAc]at hb q;rcases YAE.mp hb with z | z
   .rw[z];exact hx
   .exact ZbH.mpr (List.le_trans (ZbH.mp hx) (ZbH.mp ((YBC.mp q).1 b z)))
 intro ss h;cases ss with
 | nil=>simp
 | cons x r=>exact ris x r h
theorem Zfl {us:AC}{ls:Q22}(r:Vals (ls.map tx) us):StrsAre us (ls.map λl=>(⟨l.toArray⟩:Str)):=ZcX r
theorem Zhm (ls:Q22):(ls.map λl=>(⟨l.toArray⟩:Str)).map (λx=>x.cps.toList)=ls:=by
 rw[YAu]
 conv=>rhs;rw[<-List.map_id ls]
 apply YBx;intro l _;simp
section
theorem Zfn {vs:AC}{ms:Q22}{Q:Q33}(hv:Vals (ms.map tx) vs)(h64:ms.length<64)
  (h:∀(h':Heap) (us:AC) (e:Nat),(∀b o,s.heap.get? b=some o->h'.get? b=some o)->h'.get? s.heap.objs.size=some { cls:=.type "list",data:=.seq us.toArray e }->Vals ((ZaV ms).map tx) us->Q (.ref s.heap.objs.size) { s with heap:=h' }):
  wpAny (model prog w) A (do let l <-newList vs;let _ <-holding [l] (call (.builtin "list.sort") [l] []);ret l) (λfin s'=>∃v,fin=Fin.done (Flow.ret v)/\Q v s') E s:=by
 have hS:=Zfl hv;have Bd:vs.length<64:=by rw[<-hv.length,YAD];exact h64
 refine YAA (wpAny_newList ?_ ?_)
 .have hoL:(s.heap.push (seqObj "list" vs.toArray 0)).get? s.heap.objs.size=some (seqObj "list" vs.toArray 0):=YAQ _ rfl;refine YAA (YAz (YCi slot_list_sort ⟨_,hoL,rfl⟩ entry_list_sort (list_sort_treeK strKind_oneLt hoL hS.keysOf (λv1 v9 rest e=>keyKind_strs (by rw[<-e];exact hS)) Bd λst' a1 a2=>⟨_,rfl,?_⟩) (args_list_sort _)));obtain⟨ss',b1,b2,b3⟩:=sorted_out_str hS a1 a2;obtain⟨e,he⟩:=sortedHeap_at (out:=(arrOf st').map (·.2)) hoL;refine YAF ⟨_,rfl,h _ ((arrOf st').map (·.2)).toList e (λb o q=>?_) ?_ ?_⟩
  .have Bl:=YAL q;have hlt':b<(s.heap.push (seqObj "list" vs.toArray 0)).objs.size:=by rw[YBW];exact YCx Bl
   exact(sortedHeap_old (YAf Bl) hlt').trans (YAB _ q)
  .have q:((arrOf st').map (·.2)).toList.toArray=(arrOf st').map (·.2):=YCf;rw[q];exact he
  .have p1:(ss'.map λx=>x.cps.toList).Perm ms:=by
    have:=b2.map (λx:Str=>x.cps.toList)
    rwa [Zhm]at this
   have e1:=Zck p1 (ZcE b3);rw[<-e1];exact Zgh b1
 .exact YAK (YCM Bd) (by rw[sizeLine_eq];decide)
theorem Zhs (hh:A.handled=none)(hS:TxSet prog w s.heap S ls (!Zbi w))(h64:ls.length<64)
  (h:∀(s':AE) (a:AD) (us:AC) (e:Nat),s.heap.get? a=none->(∀b o,s.heap.get? b=some o->s'.heap.get? b=some o)->s'.gens=s.gens->s'.os=s.os->s'.heap.get? a=some { cls:=.type "list",data:=.seq us.toArray e }->Vals ((ZaV ls).map tx) us->Q (.ref a) s'):
  wpAny (model prog w) A (call (.builtin "sorted") [.ref S]) Q E s:=by
 refine YCh kind_sorted plain_sorted entry_sorted (args_sorted1 _) ?_;unfold Builtin.«sorted»;refine YAA (m:=checkCount "sorted" 1 1 _) (YAF ?_);refine YAA (Zd4 (by first | exact hh | simpa using hh) hS (YAK (YCM h64) (by rw[sizeLine_eq];decide)) λs' vs ms k1 hg ho hp hv=>?_);have hl:ms.length<64:=by rw[hp.length_eq];exact h64
 refine Zfn hv hl λh' us e k2 he r=>?_;rw[Zcu hp]at r;exact h _ _ us e (by
  cases q:s.heap.get? s'.heap.objs.size with
  | none=>rfl
  | some o=>exact absurd (YAL (k1 _ _ q)) (YAv _)) (λb o q=>k2 b o (k1 b o q)) hg ho he r
end
structure Fly (B:Heap)(l:List Env)(e:AD)(C:Value)(d:Option AD)(fl:Value)(h:Heap):Prop where
 st:B.StaysIn h
 ne:B.get? e=none
 fr:h.FunFrames B l
 tr:∃oe vs T oT ts,h.get? e=some oe/\oe.cls=C/\oe.dict=d/\oe.data=.fields vs/\vs[1]?=some (.ref T)/\B.get? T=none/\T≠e/\h.get? T=some oT/\oT.data=.fields ts/\ts[3]?=some fl
theorem ZkC (o:Obj)(f:Array Value->Array Value):(o.mapFields f).dict=o.dict:=by obtain⟨c,d,dt,sl⟩:=o;cases dt<;>rfl
section
variable {M:Model}{A:AH}{E:Q33}{s:AE}{B:Heap}{env:Env}{outer:List Env}{L e:AD}{C:Value}{d:Option AD}{Q:Unit->AE->Prop}
theorem ZfD (hfr:A.frames=some (env::outer))(hl:s.heap.FunFrames B (env::outer))(hf:env.frame=some L)(he:s.heap.get? e=some oe)(hkb:B.StaysIn s.heap)(hen:B.get? e=none)
  (hc:oe.cls=C) (hdd:oe.dict=d) (hd:oe.data=.fields vs) (hsz:1<vs.size) (h:∀h',Fly B (env::outer) e C d (rawInt L) h'->s.heap.UpToSlots h'->Q () { s with heap:=h' }):
  wpAny M A (do let a <-frameOf env;let pl <-entryPlaceOf L hadNext;let b <-EntryCells.newEntry head a .none (rawInt L) .none pl;setField (.ref e) 1 b) Q E s:=by
 have hene:e∉(env::outer).filterMap (·.frame):=λhm=>by obtain⟨_,o,ho,hnf⟩:=hl.mem hm;rw[he]at ho;cases ho;exact hnf vs hd
 refine YAA (wpAny_frameOf_fun hfr hl hf λh1 hs=>YAA (wpAny_entryPlaceOf λpl hpl=>?_));unfold EntryCells.newEntry newFields;refine YAA (YBk ?_ (hpl.sizeOk5 _ _ _ _ _));have e1:h1.get? e=some oe:=(hs.2.1 e hene).trans he;have k1:B.StaysIn h1:=λb o hbo=>(hs.2.1 b λhm=>by rw[(hl.mem hm).1]at hbo;cases hbo).trans (hkb b o hbo);generalize eT:({ cls:=.type "traceback",dict:=none,data:=.fields ([head,.ref L,.none,rawInt L,.none]++(if pl.isEmpty then List.replicate 6 Value.none else pl)).toArray }:Obj)=oT;have e2:(h1.push oT).get? e=some oe:=YAB _ e1;refine YBf e2 hd hsz ?_;have nT:h1.objs.size≠e:=Nat.ne_of_gt (YAL e1);have d3:=YCn hd (·.setIfInBounds 1 (Value.ref h1.objs.size));have e3:=YBO (Obj.mapFields (·.setIfInBounds 1 (Value.ref h1.objs.size))) e2 (Obj.isFreed_of_fields d3);have t3:((h1.push oT).update e (Obj.mapFields (·.setIfInBounds 1 (Value.ref h1.objs.size)))).get? h1.objs.size=some oT:=by rw[YAw _ _ (YAh nT)];refine YAQ _ ?_;rw[<-eT];rfl
 have keep:∀b o,b≠e->h1.get? b=some o->((h1.push oT).update e (Obj.mapFields (·.setIfInBounds 1 (Value.ref h1.objs.size)))).get? b=some o:=λb o hb q=>by rw[YAw _ _ (YAh hb)];exact YAB _ q
 have nrec:∀b o,s.heap.get? b=some o->(∀vs,o.data≠.fields vs)->b≠e:=λb o q n z=>by rw[z,he]at q;cases q;exact n vs hd
 have dT:oT.data=.fields ([head,.ref L,.none,rawInt L,.none]++(if pl.isEmpty then List.replicate 6 Value.none else pl)).toArray:=by rw[<-eT]
 refine h _ ⟨λb o q=>keep b o (λz=>by rw[z,hen]at q;cases q) (k1 b o q),hen,hl.of_keeps λb o q n=>?_,_,_,h1.objs.size,oT,_,e3,(Obj.cls_mapFields _ _).trans hc,(ZkC _ _).trans hdd,d3,?_,k1.fresh,nT,t3,dT,?_⟩ λb o q n=>?_
 .obtain⟨sl,q2⟩:=hs.2.2 b o q;exact⟨_,keep b _ (nrec b o q n) q2,rfl⟩
 .simp[hsz]
 .simp
 .obtain⟨sl,q2⟩:=hs.2.2 b o q;exact⟨sl,keep b _ (nrec b o q n) q2⟩
theorem ZhE (hfr:A.frames=some (env::outer))(hl:s.heap.FunFrames B (env::outer))(hf:env.frame=some L)(he:s.heap.get? e=some oe)(hkb:B.StaysIn s.heap)(hen:B.get? e=none)
  (hc:oe.cls=C) (hdd:oe.dict=d) (hd:oe.data=.fields vs) (h1:vs[1]?=some .none) (h:∀h',Fly B (env::outer) e C d (rawInt L) h'->s.heap.UpToSlots h'->Q () { s with heap:=h' }):wpAny M A (noteFrame (.ref e) env) Q E s:=by
 unfold noteFrame;simp only[hf];refine YAA (wpAny_field he hd h1 ?_);rw[YAI (by decide)];exact ZfD hfr hl hf he hkb hen hc hdd hd (YBz.mp h1).1 h
theorem ZfC (hfr:A.frames=some (env::outer))(hf:env.frame=some L)(x:Fly B (env::outer) e C d .none s.heap)(h:∀h',Fly B (env::outer) e C d (rawInt L) h'->s.heap.UpToSlots h'->Q () { s with heap:=h' }):
  wpAny M A (noteFrame (.ref e) env) Q E s:=by
 obtain⟨hkb,hen,hl,oe,vs,T,oT,ts,he,hc,hdd,hd,h1,hnT,hTe,hT,hdT,h3⟩:=x;unfold noteFrame;simp only[hf];refine YAA (wpAny_field he hd h1 ?_);rw[YAM (show (Value.ref T != Value.none)=true from by simp)];refine YAA (wpAny_field hT hdT h3 ?_);rw[YAI (show ¬((Value.none == rawInt L)=true) from by simp[rawInt])];refine YAA (YBf hT hdT (YBz.mp h3).1 ?_);have oth:∀b,b≠T->(s.heap.update T (Obj.mapFields (·.setIfInBounds 3 Value.none))).get? b=s.heap.get? b:=λb hb=>YAw _ _ (YAh hb);have nrec:∀b o,s.heap.get? b=some o->(∀vs,o.data≠.fields vs)->b≠T:=λb o q n z=>by rw[z,hT]at q;cases q;exact n ts hdT
 refine ZfD (s:={ s with heap:=s.heap.update T (Obj.mapFields (·.setIfInBounds 3 Value.none)) }) hfr (hl.of_keeps λb o q n=>⟨o,(oth b (nrec b o q n)).trans q,rfl⟩) hf ((oth e (YAh hTe)).trans he)
  (λb o q=>(oth b λz=>by rw[z,hnT]at q;cases q).trans (hkb b o q)) hen hc hdd hd (YBz.mp h1).1 λh' y u=>h h' y λb o q n=>u b o ((oth b (nrec b o q n)).trans q) n
theorem ZbX (x:Fly B l e C d fl s.heap)(h:∀h',Fly B l e C d .none h'->s.heap.UpToSlots h'->Q () { s with heap:=h' }):wpAny M A (setFlight (.ref e) none) Q E s:=by
 obtain⟨hkb,hen,hl,oe,vs,T,oT,ts,he,hc,hdd,hd,h1,hnT,hTe,hT,hdT,h3⟩:=x;have hz:3<ts.size:=(YBz.mp h3).1;have oth:∀b,b≠T->(s.heap.update T (Obj.mapFields (·.setIfInBounds 3 ((none:Option AD).elim Value.none λf=>rawInt f)))).get? b=s.heap.get? b:=λb hb=>YAw _ _ (YAh hb);have nrec:∀b o,s.heap.get? b=some o->(∀vs,o.data≠.fields vs)->b≠T:=λb o q n z=>by rw[z,hT]at q;cases q;exact n ts hdT
 unfold setFlight;refine YAA (wpAny_field he hd h1 ?_);rw[YAM (show (Value.ref T != Value.none)=true from by simp)];refine YBf hT hdT hz (h _ ⟨λb o q=>(oth b λz=>by rw[z,hnT]at q;cases q).trans (hkb b o q),hen,hl.of_keeps λb o q n=>⟨o,(oth b (nrec b o q n)).trans q,rfl⟩,oe,vs,T,_,_,(oth e (YAh hTe)).trans he,hc,hdd,hd,h1,hnT,hTe,
  YBO _ hT (Obj.isFreed_of_fields (YCn hdT _)),YCn hdT _,by simp[hz]⟩ λb o q n=>⟨o.slots,(oth b (nrec b o q n)).trans q⟩)
theorem Fly.pop (x:Fly B (env::outer) e C d fl h):Fly B outer e C d fl h:=⟨x.st,x.ne,x.fr.2.2,x.tr⟩
theorem Zgt (hfr:A.frames=some (env::outer))(hl:s.heap.FunFrames B (env::outer))(hf:env.frame=some L)(he:s.heap.get? e=some oe)(hkb:B.StaysIn s.heap)(hen:B.get? e=none)
  (hc:oe.cls=C) (hdd:oe.dict=d) (hd:oe.data=.fields vs) (h1:vs[1]?=some .none) (h:∀h',Fly B outer e C d .none h'->s.heap.UpToSlots h'->Q () { s with heap:=h' }):wpAny M A (leaving env (.ref e)) Q E s:=by
 unfold leaving;refine YAA (ZhE hfr hl hf he hkb hen hc hdd hd h1 λh1 x1 u1=>ZbX (s:={ s with heap:=h1 }) x1 λh2 x2 u2=>h h2 x2.pop (u1.trans u2))
theorem ZhL (hfr:A.frames=some (env::outer))(hf:env.frame=some L)(x:Fly B (env::outer) e C d .none s.heap)(h:∀h',Fly B outer e C d .none h'->s.heap.UpToSlots h'->Q () { s with heap:=h' }):wpAny M A (leaving env (.ref e)) Q E s:=by unfold leaving;refine YAA (ZfC hfr hf x λh1 x1 u1=>ZbX (s:={ s with heap:=h1 }) x1 λh2 x2 u2=>h h2 x2.pop (u1.trans u2))
end
open PySem.W (Frag findIn typeIn mroIn clsIn InstAt Looks)
def xr (a C:AD)(d:Option AD):HO:=.ext λh=>∃(o:Obj) (vs:Array Value),h.get? a=some o/\o.cls=.ref C/\o.dict=d/\o.data=.fields vs
theorem ZmM (h1:h.get? e=some o)(h2:o.cls=.ref C)(h3:o.dict=d)(h4:o.data=.fields vs):ObjOk P w H h e (xr e C d):=
 ⟨⟨o,vs,h1,h2,h3,h4⟩,⟨o,h1⟩,λg1 g2 ⟨o',vs',q1,q⟩ k=>⟨o',vs',k _ q1,q⟩⟩
inductive XAny (H:Hp) (e C:AD):List (Str×V)->Prop where
 | un {fs:List (Str×V)}:XAt H e C fs->XAny H e C fs
 | bare:H e=some (xr e C none)->XAny H e C []
 | full {d:AD} {fs:List (Str×V)}:H e=some (xr e C (some d))->H d=some (xdO d fs)->d≠e->XAny H e C fs
theorem XAny.same (x:XAny H e C fs)(s:Same H H'):XAny H' e C fs:=by
 cases x with
 | un h=>exact .un (h.same s)
 | bare h=>exact .bare (s _ _ h)
 | full h1 h2 h3=>exact .full (s _ _ h1) (s _ _ h2) h3
section
theorem Ziv (hh:A.handled=none)
  (h:wpAny M A x (λv s_1=>∃(e t:AD) (od:Option AD) (sl:Array (Option Value)) (C:AD) (nm q:Str) (N:AD) (bs bm:AC) (Bi:Bool) (sn:AJ) (sub:AC) (ab:Bool) (col:Option Bool) (dd:Option AD) (k0 k1 k2 k3 k5:Option Value) (newId:String),v=.ref e/\bm.contains (.type "BaseException")=true /\
   s_1.heap.get? C=some (excClassObj nm q C N bs bm Bi sn sub ab col dd k0 k1 k2 k3 k5 newId)/\s_1.heap.get? e=some { cls:=.ref C,dict:=od,data:=.fields #[.ref t,.none,.none,.none,.bool false,.none],slots:=sl }/\E (.ref e) s_1) E s):wpAny M A (raiseStmt env (some x) none) Q E s:=by
 unfold raiseStmt;refine YAA (YBI h (λv s_1 h9=>?_) λ_ _ x=>x);obtain⟨e,t,od,sl,C,nm,q,N,bs,bm,Bi,sn,sub,ab,col,dd,k0,k1,k2,k3,k5,newId,rfl,hbase,hC,he,hE⟩:=h9;have hcB:(Value.ref C::bm).contains (.type "BaseException")=true:=by rw[YAZ,hbase,Bool.or_true]
 obtain⟨hp,g,d,tk,os⟩:=s_1;repeat (first | with_reducible refine YBX he ?_ | with_reducible refine YBX hC ?_ | (with_reducible refine YCl hC ?_;rw[hcB]) | wp_step)
 exact wpAny_raiseNew_none hh hE
end
def CXr (P:AG)(w:AI):CXT:=λouter H s E ev s'=>∃(e C:AD) (d:Option AD) (H':Hp) (h1 B:Heap),ev=.ref e/\s'.os=s.os/\AllBare s'.gens/\Un (frs outer) [] H H' s.heap h1/\HOk P w H' h1/\H' e=some (xr e C d) /\
 (∀b o,h1.get? b=some o->b≠e->((∃u,H' b=some u)\/((∃o',s.heap.get? b=some o')/\b∉frs outer))->B.get? b=some o)/\Fly B outer e (.ref C) d .none s'.heap/\h1.UpToSlots s'.heap/\E (.ref C) (some e) H'
def Raises (X:Cx)(Ex:XK):Prop:=∀(Bb:AA) (U:St) (H:Hp) (s:AE) (e C:AD) (d:Option AD),Inv X Bb U H s->H e=some (xo e C d)->Ex (.ref C) (some e) (upd H e (xr e C d))->X.xe (.ref e) s
theorem Inv.raised (I:Inv X Bb U H s)(h:H e=some (xo e C d)):Inv X Bb U (upd H e (xr e C d)) s:=by obtain⟨o,t,h1,h2,h3,h4⟩:=Zc8 I h;exact I.write (x:=e) (e:=e) (o:=xr e C d) (h':=s.heap) (t':=s.toks) (by rw[h];exact trivial) (.inl rfl) (λb u _ q=>q) ⟨o,h1⟩ (ZmM h1 h2 h3 h4)
theorem Zms (e:(PySem.W.hideAll h as).get? b=some o):h.get? b=some o:=PySem.W.of_hideAll _ e
theorem Zbk {P:AG}{w:AI}{K:Frag}{mg:AB}{base:Heap}{N:AJ}{qual:Str}{scope:Scope}{f:AD}{cd:Value}{A:AH}{outer:List Env}{s0:AE}{H0:Hp}{E:XK}:
  Raises (cxOf (CXr P w) P w K mg base N qual scope f cd A outer s0 H0 E) E:=by
 intro Bb U H s e C d I he hE;obtain⟨o,t,h1,h2,h3,h4⟩:=Zc8 I he;have J:=I.raised he;generalize hX:cxOf (CXr P w) P w K mg base N qual scope f cd A outer s0 H0 E=X at I J ⊢;have eA:X.A=A.deeper (envOfC qual scope s0.heap.objs.size f cd):=by rw[<-hX];rfl
 have eS:X.stack=envOfC qual scope s0.heap.objs.size f cd::outer:=by rw[<-hX];rfl
 have eF:X.fs=frs outer:=by rw[<-hX];rfl
 have e0:X.s_0=s0:=by rw[<-hX];rfl
 have eH:X.H_0=H0:=by rw[<-hX];rfl
 have eX:X.ex=[]:=by rw[<-hX];rfl
 have eL:X.env=envOfC qual scope s0.heap.objs.size f cd:=by rw[<-hX];rfl
 have ePr:X.prog=P:=by rw[<-hX];rfl
 have eW:X.w=w:=by rw[<-hX];rfl
 have hxe:∀ev s',wpAny (model P w) (A.deeper (envOfC qual scope s0.heap.objs.size f cd)) (leaving (envOfC qual scope s0.heap.objs.size f cd) ev) (λ_ s''=>CXr P w outer H0 s0 E ev s'') (λe' s''=>CXr P w outer H0 s0 E e' s'') s'->X.xe ev s':=by intro ev s' z;rw[<-hX];exact z
 refine hxe _ _ ?_;have hfr:(A.deeper (envOfC qual scope s0.heap.objs.size f cd)).frames=some (envOfC qual scope s0.heap.objs.size f cd::outer):=by rw[<-eA,<-eS];exact I.ok.frames
 have stk:s.heap.FunFrames X.base X.stack:=I.stack;have hin:∀env∈X.stack,∀a,env.frame=some a->a∈frs X.stack++[e]:=λenv henv a ha=>List.mem_append_left _ (List.mem_filterMap.mpr ⟨env,henv,ha⟩);have ff:=PySem.W.funFrames_hide (as:=frs X.stack++[e]) stk hin;rw[eS]at ff;have stays:(PySem.W.hideAll s.heap (frs (envOfC qual scope s0.heap.objs.size f cd::outer)++[e])).StaysIn s.heap:=λb o q=>Zms q;refine Zgt (B:=PySem.W.hideAll s.heap (frs (envOfC qual scope s0.heap.objs.size f cd::outer)++[e])) (L:=s0.heap.objs.size) hfr ff rfl h1 stays (PySem.W.hideAll_none _ (by simp)) h2 h3 h4 (by simp) λh' fl up=>?_;have os:s.os=s0.os:=by rw[<-e0];exact I.os
 have un:Un (frs outer) [] H0 (upd H e (xr e C d)) s0.heap s.heap:=by
  have:=J.base
  rwa [eF,eX,eH,e0]at this
 have ok:HOk P w (upd H e (xr e C d)) s.heap:=by
  have:=J.hok
  rwa [ePr,eW]at this
 refine⟨e,C,d,upd H e (xr e C d),s.heap,_,rfl,os,I.bare,un,ok,Zag,λb o hb hne hc=>?_,fl,up,hE⟩;refine PySem.W.hideAll_get _ hb λz=>?_;rcases YAV.mp z with z | z
 .have z':b∈frs X.stack:=by rw[eS];exact z
  rcases hc with⟨u,hu⟩|⟨⟨o',ho'⟩,hn⟩
  .rw[J.stkFree b z']at hu;cases hu
  .rcases YAE.mp (I.stkSub b z') with q | q
   .rw[q,eL]at ho';exact absurd (YAL ho') (YAv _)
   .rw[eF]at q;exact hn q
 .exact hne (by simpa using z)
def Zif (K:Frag)(Ex:XK)(te:TE):TS:=λ_ U H=>te U H λv H1=>∃e C d,v=.ref e/\H1 e=some (xo e C d)/\Xm K C/\Ex (.ref C) (some e) (upd H1 e (xr e C d))
theorem Zbv (hR:Raises X Ex)(hc:X.calm=true)(he:PE X e te):PS X (.Raise (some e) none pos) (Zif X.K Ex te):=by intro Bb s U H D I h;rw[arm_exec_Raise];show wpAny _ X.A (do standAt pos;raiseStmt X.env (some (do let v <-eval e X.env;standAt pos;pure v)) none) _ _ s;refine YAA (YDF ?_);refine Ziv (I.ok.hd hc) (YAA (thn (he Bb s U H _ I h) λv s1 ⟨x,H1,I1,r1,a,C,d,ex,hx,m,q⟩=>YAA (YDF (YAF ?_))));subst ex;obtain rfl:v=Value.ref a:=r1;obtain⟨o,t,h1,h2,h3,h4⟩:=Zc8 I1 hx;obtain⟨nm,q',N,bs,bm,Bi,sn,sub,ab,col,dd,k0,k1,k2,k3,k5,hl,hxm⟩:=m.parts;obtain⟨oc,odi,oda,osl⟩:=o;dsimp only at h2 h3 h4;subst h2 h3 h4;have hb:(Value.ref C::bm).contains (.type "BaseException")=true:=Zcj (by decide +kernel) hxm;rw[YAZ]at hb;refine⟨a,t,_,_,C,nm,q',N,bs,bm,Bi,sn,sub,ab,col,dd,k0,k1,k2,k3,k5,_,rfl,?_,I1.kIn _ _ hl,h1,hR Bb U H1 s1 a C _ I1 hx q⟩;have z:(Value.type "BaseException" == Value.ref C)=false:=rfl;rw[z,Bool.false_or]at hb;exact hb
section
variable {P:AG}{w:AI}{K:Frag}{mg:AB}{base:Heap}
theorem Fun.okX {x qual:Str}{st:Stmt}{f:AD}{fd:AF}{N ps:AJ}{k:Nat}{sp:Sp}(F:Fun K x qual st f fd)(S:FnScope N ps (Zaj st))(len:∀vs H Q E,sp vs H Q E->vs.length=ps.length)
  (hbody:∀(Bc:Value) (A:AH) (outer:List Env) (s:AE) (H:Hp) (vs:List V) (Q:VK) (E:XK),Room k (A.deeper (envOfC qual (Zaj st) s.heap.objs.size f Bc))->sp vs H Q E ->
   ∃t,PSs (cxOf (CXr P w) P w K mg base N qual (Zaj st) f Bc A outer s H E) (Zbc st) t/\t { nx:=λ_ H'=>Q .non H',rt:=Q } (start N vs) H):FnOk P w K mg base (CXr P w) (k+1) f fd ps sp:=by
 obtain⟨oc,od,kV,doc,pm,an,Bc,ct,osl,rfl,lk,hcd⟩:=F.ex;exact Zmx lk hcd S len λA outer s H vs Q E hr hsp=>hbody Bc A outer s H vs Q E hr hsp
end
abbrev TX:=St->Hp->VK->XK->Prop
def PEx (X:Cx)(e:Expr)(t:TX):Prop:=∀(Bb:AA) (s:AE) (U:St) (H:Hp) (Q:VK) (E:XK),Inv X Bb U H s->t U H Q E ->
 wpAny (model X.prog X.w) X.A (eval e X.env) (EP X Bb U Q) (λev s'=>∃H2 s2,Inv X Bb U H2 s2/\CXr X.prog X.w X.stack H2 s2 E ev s') s
abbrev TSx:=Ends->(St->XK)->St->Hp->Prop
def XH (X:Cx)(Bb:AA)(Ex:St->XK)(ev:Value)(s':AE):Prop:=∃U' H2 s2,Inv X Bb U' H2 s2/\CXr X.prog X.w X.stack H2 s2 (Ex U') ev s'
def PSx (X:Cx)(st:Stmt)(t:TSx):Prop:=∀(Bb:AA) (s:AE) (U:St) (H:Hp) (D:Ends) (Ex:St->XK),Inv X Bb U H s->t D Ex U H->wpAny (model X.prog X.w) X.A (exec st X.env) (SP X Bb D) (XH X Bb Ex) s
def PSsx (X:Cx)(st:List Stmt)(t:TSx):Prop:=∀(Bb:AA) (s:AE) (U:St) (H:Hp) (D:Ends) (Ex:St->XK),Inv X Bb U H s->t D Ex U H->wpAny (model X.prog X.w) X.A (execs st X.env) (SP X Bb D) (XH X Bb Ex) s
section
theorem ZlP (F:FnOk X.prog X.w X.K X.mg X.base (CXr X.prog X.w) k f fd ps sp)(hr:Room k X.A)(hb:Binds X.K fd ps ds)(hd:Vals Bk ds)
  (I:Inv X Bb U H s) (r:Vals vs us) (h:sp (vs++Bk) H Q E):wpAny (model X.prog X.w) X.A (call (.ref f) us) (EP X Bb U Q) (λev s'=>∃H2 s2,Inv X Bb U H2 s2/\CXr X.prog X.w X.stack H2 s2 E ev s') s:=by
 have r2:Vals (vs++Bk) (us++ds):=r.append hd;have hl:(us++ds).length=ps.length:=by rw[<-r2.length];exact F.len _ _ _ _ h
 refine YCI (codeAny_mono (F.run X.A X.stack s H ⟨us,[]⟩ (us++ds) (vs++Bk) Q E hr I.env0 (hb s us I.kIn hl) r2 h) λr s' hq=>?_);cases r with
 | error e=>exact⟨H,s,I,hq⟩
 | ok fl=>
  cases fl with
  | ret u=>exact I.after hq
  | next=>exact False.elim hq
  | brk=>exact False.elim hq
  | cont=>exact False.elim hq
def Zna (i:Nat)(te:TX):TSx:=λD Ex U H=>te U H (λy H1=>D.nx (U.set i (some y)) H1) (Ex U)
theorem Zps (hN:X.N.Nodup)(hi:X.N[i]?=some x)(hx:Loc X.env.scope x)(he:PEx X e te)(hs:swapsWith e (some (.Name x pos')) pos.line X.env=pure false:=by rfl)(hf:X.fn x=true\/X.env.scope.names.lookup x=some .local:=by first | exact .inl rfl | exact .inr rfl | assumption):
  PSx X (.Assign [.Name x pos'] e pos) (Zna i te):=by
 intro Bb s U H D Ex I h;refine wpAny_Assign_Name (YBI (he Bb s U H _ _ I h) (λv s1 ⟨y,H1,I1,r1,q1⟩=>?_) λev s' ⟨H2,s2,I2,q⟩=>⟨U,H2,s2,I2,q⟩) hs;exact Zdm I1 hN hi hx r1 (λs2 I2=>⟨_,H1,I2,q1⟩) hf
def ZkU (te:TX):TSx:=λD Ex U H=>te U H (λ_ H1=>D.nx U H1) (Ex U)
theorem Zbu (he:PEx X e te)(hs:swapsWith e none pos.line X.env=pure false:=by rfl):PSx X (.Expr e pos) (ZkU te):=by intro Bb s U H D Ex I h;exact wpAny_Expr_any (YBI (he Bb s U H _ _ I h) (λv s1 ⟨y,H1,I1,r1,q1⟩=>⟨U,H1,I1,q1⟩) λev s' ⟨H2,s2,I2,q⟩=>⟨U,H2,s2,I2,q⟩) I.quiet hs
theorem ZaT {st:Stmt}{t:TSx}(h1:PSx X st t):PSsx X [st] t:=by
 intro Bb s U H D Ex I h;refine wpAny_execs_cons (thn (h1 Bb s U H D Ex I h) λf s1 q=>?_);cases f with
 | next=>exact YCm q
 | ret v=>exact q
 | brk=>exact q
 | cont=>exact q
def sIfx (c:TT)(t u:TSx):TSx:=λD Ex U H=>c U H λb H1=>if b=true then t D Ex U H1 else u D Ex U H1
end
section
variable {X:Cx}{Bb:AA}{U:St}{H H':Hp}{s s1:AE}{e C:AD}{d:Option AD}{h1 h5 B:Heap}
theorem ZhX (I:Inv X Bb U H s)(os:s1.os=s.os)(bare:AllBare s1.gens)(un:Un (frs X.stack) [] H H' s.heap h1)(ok:HOk X.prog X.w H' h1)(he:H' e=some (xr e C d))
  (kept:∀b o,h1.get? b=some o->b≠e->((∃u,H' b=some u)\/((∃o',s.heap.get? b=some o')/\b∉frs X.stack))->B.get? b=some o) (fl:Fly B X.stack e (.ref C) d .none h5) (up:h1.UpToSlots h5):
  Inv X Bb U H' { s1 with heap:=h5 }:=by
 have ne:∀b o,s.heap.get? b=some o->H b=none->b≠e:=λb o q n z=>by have:=un.free b o q n (by simp);rw[z,he]at this;cases this
 have keep:∀b o,s.heap.get? b=some o->H b=none->b∉frs X.stack->h5.get? b=some o:=λb o q n nf=>
  fl.st b o (kept b o (un.keep b o q n nf (by simp)) (ne b o q n) (.inr ⟨⟨o,q⟩,nf⟩))
 have slot:∀b o,s.heap.get? b=some o->H b=none->b∈frs X.stack->∃sl,h5.get? b=some { o with slots:=sl }:=λb o q n hf=>by obtain⟨sl,q1⟩:=un.slot b o q n hf (by simp);obtain⟨_,o',ho',hnf⟩:=I.stack.mem hf;rw[q]at ho';cases ho';obtain⟨sl2,q2⟩:=up b _ q1 hnf;exact⟨sl2,q2⟩
 have trk:∀c u,(∃v,H' c=some v)->h1.get? c=some u->c≠e->h5.get? c=some u:=λc u hv q n=>fl.st c u (kept c u q n (.inl hv));refine I.call' (s':={ s1 with heap:=h5 }) (ch:=[]) os ⟨λb o q n nf _=>keep b o q n nf,λb o q n hf _=>slot b o q n hf,λb o q n _=>un.free b o q n (by simp),λb o q _=>?_,un.tups,un.frzs,un.tbls⟩ (λb ob hb=>?_) bare (λb hb=>by cases hb)
 .by_cases hbe:b=e
  .obtain⟨oe,vs,T,oT,ts,h1,_⟩:=fl.tr;exact⟨oe,by rw[hbe];exact h1⟩
  .cases hH:H b with
   | none=>
    by_cases hf:b∈frs X.stack
    .obtain⟨sl,q2⟩:=slot b o q hH hf;exact⟨_,q2⟩
    .exact⟨o,keep b o q hH hf⟩
   | some u=>
    obtain⟨o',q1⟩:=un.there b o q (by simp);by_cases hf:b∈frs X.stack
    .rw[I.stkFree b hf]at hH;cases hH
    .exact⟨o',fl.st b o' (kept b o' q1 hbe (.inr ⟨⟨o,q⟩,hf⟩))⟩
 .by_cases hbe:b=e
  .subst hbe;rw[he]at hb;cases hb;obtain⟨oe,vs,T,oT,ts,g1,g2,g3,g4,_⟩:=fl.tr;exact ZmM g1 g2 g3 g4
  .refine(ok b ob hb).stay (λc u hc q=>trk c u ?_ q ?_) (λ_ q=>q) λ_ _ q=>q
   .rcases hc with z | z
    .exact⟨ob,z▸hb⟩
    .exact⟨_,z⟩
   .rintro rfl;rcases hc with z | z
    .exact hbe z.symm
    .rw[he]at z;cases z
end
def sux (X:Cx)(e:AD):Cx:={ X with A:=X.A.mark (some (.ref e)),calm:=false,xe:=λ_ _=>False }
section
theorem Inv.sux (I:Inv X Bb U H s)(e:AD):Inv (L2.sux X e) Bb U H s:=
 ⟨⟨I.ok.mod,I.ok.kind,I.ok.glob,I.ok.blt,I.ok.above,I.ok.inj,I.ok.has,I.ok.cab,(λz=>by cases z),I.ok.frames,I.ok.stk,I.ok.exf,I.ok.bs,I.ok.bsz,I.ok.noex,I.ok.exfs,I.ok.funs,I.ok.frf⟩,I.os,I.bare,I.base,I.loc,I.cell,I.free,I.freeC,I.pin,I.hok,I.len⟩
theorem Inv.unsux (hh:X.calm=true->X.A.handled=none)(I:Inv (L2.sux X e) Bb U H s):Inv X Bb U H s:=
 ⟨⟨I.ok.mod,I.ok.kind,I.ok.glob,I.ok.blt,I.ok.above,I.ok.inj,I.ok.has,I.ok.cab,hh,I.ok.frames,I.ok.stk,I.ok.exf,I.ok.bs,I.ok.bsz,I.ok.noex,I.ok.exfs,I.ok.funs,I.ok.frf⟩,I.os,I.bare,I.base,I.loc,I.cell,I.free,I.freeC,I.pin,I.hok,I.len⟩
theorem Inv.unbind (I:Inv X Bb U H s)(hN:X.N.Nodup)(hi:X.N[i]?=some x)(hm:∀(i:Nat) (x:Str) (v:V),X.N[i]?=some x->U[i]?=some (some v)->Vis X.env.scope x->∃u,RelV v u/\Look X.env s.heap m x u)
  (hn':h'.Ns X.env.locals (λy=>if y=x then v else m y)) (hs:Heap.SameBut X.env.locals s.heap h'):Inv X Bb (U.set i none) H { s with heap:=h',toks:=t' }:=by
 obtain⟨m0,hn,_⟩:=id I.loc;obtain⟨oL,_,_,hoL,_⟩:=id hn;have ab:∀b o,X.s_0.heap.get? b=some o->b≠X.env.locals:=λb o e=>YAf (YAn (YAL e) I.ok.above);refine⟨I.ok,I.os,I.bare,⟨λb o e n hb hx=>(hs.2 b (ab b o e)).trans (I.base.keep b o e n hb hx),λb o e n hb hx=>?_,I.base.free,λb o e hx=>?_,I.base.tups,I.base.frzs,I.base.tbls⟩,⟨_,hn',λj y v' e1 e2 e3=>?_⟩,λy c e=>?_,I.free,I.freeC,λp hp=>?_,λb ob e=>?_,by simpa using I.len⟩
 .obtain⟨sl,e1⟩:=I.base.slot b o e n hb hx;exact⟨sl,(hs.2 b (ab b o e)).trans e1⟩
 .obtain⟨o',e1⟩:=I.base.there b o e hx;exact⟨o',(hs.2 b (ab b o e)).trans e1⟩
 .have hj:j≠i:=by
   rintro rfl;by_cases hl:j<U.length
   .rw[List.getElem?_set_self hl]at e2;cases e2
   .rw[List.set_eq_of_length_le (Nat.le_of_not_lt hl),YBe (Nat.le_of_not_lt hl)]at e2;cases e2
  rw[List.getElem?_set_ne (YAh hj)]at e2;obtain⟨u',r',q⟩:=hm j y v' e1 e2 e3;refine⟨u',r',?_⟩;rcases q with⟨k,e⟩|⟨k,c,e,z⟩
  .refine .inl ⟨k,?_⟩;have:y≠x:=λe=>hj (ZeQ hN e1 (e▸hi));simp[this,e]
  .exact .inr ⟨k,c,e,z.sameBut hs (I.cne y c e)⟩
 .obtain⟨w',z⟩:=I.cell y c e;exact⟨w',z.sameBut hs (I.cne y c e)⟩
 .obtain⟨e,n,ne,nf,d⟩:=I.pin p hp;exact⟨(hs.2 p.1 ne).trans e,n,ne,nf,d⟩
 .refine(I.hok b ob e).stay (λc w' hc q=>(hs.2 c ?_).trans q) (λ_ q=>q) λ_ _ q=>q;rintro rfl;rcases hc with z | hc
  .rw[<-z,I.free]at e;cases e
  .rw[I.free]at hc;cases hc
end
abbrev TH:=Addr->AD->Ends->St->Hp->Prop
def PHs (X:Cx)(hs:List ExceptHandler)(th:TH):Prop:=∀(Bb:AA) (s:AE) (U:St) (H:Hp) (D:Ends) (e C:AD) (d:Option AD) (B:Heap),(∀h5,Fly B X.stack e (.ref C) d .none h5->s.heap.UpToSlots h5->Inv X Bb U H { s with heap:=h5 })->H e=some (xr e C d)->Fly B X.stack e (.ref C) d .none s.heap->th e C D U H ->
 wpAny (model X.prog X.w) X.A (handleBy (.ref e) X.env hs) (SP X Bb D) X.xe s
def unE (i:Nat)(D:Ends):Ends:={ nx:=λU H=>D.nx (U.set i none) H,rt:=D.rt,bk:=λU H=>D.bk (U.set i none) H,ct:=λU H=>D.ct (U.set i none) H }
def hAs (K:Frag)(C0:AD)(i:Nat)(ts:TS)(tr:TH):TH:=λe C D U H=>∃b,PySem.W.exmOne K (.ref C) (.ref C0)=some b/\if b=true then ts (unE i D) (U.set i (some (.ref e))) H else tr e C D U H
def hNone:TH:=λ_ _ _ _ _=>False
theorem ZkY:PHs X [] hNone:=λ_ _ _ _ _ _ _ _ _ _ _ _ h=>h.elim
theorem ZiX (h1:h.get? e=some o)(h2:o.cls=.ref C):Looks M h (typeOf (.ref e)) (.ref C):=by
 intro A Q E s k q;have h1':=k _ _ h1;obtain⟨hp,g,d,tk,os⟩:=s;unfold typeOf;repeat (first | (with_reducible refine YBX h1' ?_;rw[h2]) | wp_step)
 exact q
section
variable {X:Cx}{x n:Str}{np pos:Pos}{b9:Stmt}{suite:List Stmt}{rest:List ExceptHandler}{ts:TS}{tr:TH}{C0:AD}{i:Nat}
theorem Znk (hc:X.calm=true->X.A.handled=none)(hg:Gl X x)(hm:X.mg x=some (.ref C0))(hN:X.N.Nodup)(hi:X.N[i]?=some n)(hl:X.env.scope.names.lookup n=some .local)(hs:∀e,PSs (sux X e) (b9::suite) ts)(hr:PHs X rest tr)
  (hdb:(x == ("__debug__":Str))=false:=by decide):PHs X (.ExceptHandler (some (.Name x np)) (some n) (b9::suite) pos::rest) (hAs X.K C0 i ts tr):=by
 intro Bb s U H D e C d B cv he fl h;obtain⟨b,hb,h⟩:=h;have I:Inv X Bb U H s:=cv s.heap fl (Heap.UpToSlots.refl _);have J:=I.sux e;refine wpAny_handleBy_cons (codeAny_handlers_test (ZbW (X:=sux X e) J hg hm ?_ hdb)) (by intro q;cases q);obtain⟨oe,vs,T,oT,tt,g1,g2,_⟩:=id fl.tr;refine(PySem.W.exm_one (M:=model X.prog X.w) I.kIn (ZiX g1 g2) hb).here ?_;have hp:(X.env.scope.kind == .class || (X.env.scope.kind == .module&&X.env.locals != X.env.globals))=false:=by rw[I.ok.kind];rfl
 cases b with
 | false=>exact hr Bb s U H D e C d B cv he fl h
 | true=>
  refine codeAny_handlers_suite_as (ZbX fl λh6 fl6 up6=>?_);have J6:=(cv h6 fl6 up6).sux e;refine Zdm (X:=sux X e) (i:=i) J6 hN hi (.inl hl) (v:=.ref e) rfl (λs7 I7=>?_) (.inr hl);refine YBI (hs e Bb s7 _ H (unE i D) I7 h) (λf s8 q=>?_) λ_ _ z=>False.elim z;have goes:∀ {U8:St} {H8:Hp} {Q:Unit->AE->Prop} (I8:Inv (sux X e) Bb U8 H8 s8),(∀s9,Inv X Bb (U8.set i none) H8 s9->Q () s9)->wpAny (model X.prog X.w) X.A (do bindName X.env n .none;unbindBehindTheSuite X.env n pos) Q X.xe s8:=λ{U8 H8 Q} I8 k=>by have I9:=I8.unsux hc;obtain⟨m,hn,hm'⟩:=I9.loc;exact wpAny_nameGoes_keeps hl hn hp λh' v hn' sb=>k _ (I9.unbind hN hi hm' hn' sb)
  cases f with
  | next=>
   obtain⟨U8,H8,I8,q8⟩:=q;exact goes I8 λs9 I9=>⟨_,H8,I9,q8⟩
  | brk=>
   obtain⟨U8,H8,I8,q8⟩:=q;exact goes I8 λs9 I9=>⟨_,H8,I9,q8⟩
  | cont=>
   obtain⟨U8,H8,I8,q8⟩:=q;exact goes I8 λs9 I9=>⟨_,H8,I9,q8⟩
  | ret u=>
   obtain⟨v,U8,H8,I8,r8,q8⟩:=q;exact goes I8 λs9 I9=>⟨v,_,H8,I9,r8,q8⟩
def tTry (tb:TSx)(th:TH):TS:=λD U H=>tb D (λU' cls oe H'=>∃e C,cls=.ref C/\oe=some e/\th e C D U' H') U H
theorem ZkX (hst:X.stack=X.env::X.outer)(hfr:X.env.frame=some X.env.locals)(hb:PSsx X body tb)(hh:PHs X (h₀::hs) th):
  PS X (.Try body (h₀::hs) [] [] pos) (tTry tb th):=by
 intro Bb s U H D I h;refine wpAny_Try_except (YBI (hb Bb s U H D _ I h) (λf s1 q=>?_) λev s1 q=>?_)
 .cases f with
  | next=>exact YCm q
  | ret v=>exact q
  | brk=>exact q
  | cont=>exact q
 .obtain⟨U',H2,s2,I2,e,C,d,H',h1,B,rfl,os,bare,un,ok,he,kept,fl,up,e',C',ec,ee,hth⟩:=q;cases ec;cases ee;have fr:X.A.frames=some (X.env::X.outer):=by rw[<-hst];exact I.ok.frames
  rw[hst]at fl;refine ZfC fr hfr fl λh4 fl4 up4=>ZbX (s:={ s1 with heap:=h4 }) fl4 λh5 fl5 up5=>?_;rw[<-hst]at fl5;exact hh Bb { s1 with heap:=h5 } U' H' D e C d B (λh6 fl6 up6=>ZhX (s1:=s1) I2 os bare un ok he kept fl6 (up.trans (up4.trans (up5.trans up6)))) he fl5 hth
end
open PySem.W (Frag findIn specialIn typeIn mroIn clsIn subIn kitOne kitCls InstAt Looks)
section
theorem ZkJ (I:Inv X Bb U H s)(h:H e=some (xr e C d)):∃(o:Obj) (vs:Array Value),s.heap.get? e=some o/\o.cls=.ref C/\o.dict=d/\o.data=.fields vs:=(I.hok e _ h).1
theorem XAny.inst (I:Inv X Bb U H s)(x:XAny H e C fs):∃(ox:Obj) (od:Option Obj),InstAt s.heap e ox C od/\∀name,∃r,(match od with | some o=>PySem.W.lookIn name o | none=>some none)=some r/\RelO (fs.lookup name) r:=by
 cases x with
 | un h=>exact h.inst I
 | bare h=>
  obtain⟨o,vs,h1,h2,h3,h4⟩:=ZkJ I h;exact⟨o,none,⟨h1,h2,by unfold PySem.W.notCls;rw[h4],by rw[h3];trivial⟩,λname=>⟨none,rfl,by trivial⟩⟩
 | @full d _ h h' hne=>
  obtain⟨o,vs,h1,h2,h3,h4⟩:=ZkJ I h;obtain⟨⟨_,mA,hn,hr,_⟩,_⟩:=I.hok d _ h';obtain⟨od,hod,hl⟩:=ZdM hn;exact⟨o,some od,⟨h1,h2,by unfold PySem.W.notCls;rw[h4],by rw[h3];exact hod⟩,λname=>⟨mA name,hl name,hr name⟩⟩
theorem ZoF (I:Inv X Bb U H s)(x:XAny H e C fs)(c:Xc X.K C)(n:NoAttr X.K C f)(l:fs.lookup f=some v)(h:∀u s',Inv X Bb U H s'->RelV v u->Q u s'):wpAny (model X.prog X.w) A (getAttr (.ref e) f b) Q E s:=by
 obtain⟨ox,od,J,hr⟩:=x.inst I;obtain⟨r,hl,ro⟩:=hr f;rw[l]at ro;obtain⟨u,rfl,ru⟩:=RelO.some_of ro;refine Zho I.kIn J c ?_ (ZfU ru) (h u _ (I.tok _) ru);cases od with
 | none=>cases hl
 | some o=>exact PySem.W.findObj_own c.hd n rfl hl
end
def ZkN (K:Frag)(ta:TE)(f:Str):TE:=λU H Q=>ta U H λx H1=>∃e C fs v,x=.ref e/\XAny H1 e C fs/\Xc K C/\NoAttr K C f/\fs.lookup f=some v/\Q v H1
theorem ZeK {X:Cx}{K:Frag}{e:Expr}{f:Str}{pos:Pos}{ta:TE}(hK:X.K=K)(he:PE X e ta)(hb:attributeBase e f X.env (eval e X.env)=eval e X.env):PE X (.Attribute e f pos) (ZkN K ta f):=by subst hK;intro Bb s U H Q I h;refine ZjH hb (thn (he Bb s U H _ I h) λu s1 zz=>?_);obtain⟨x,H1,I1,rx,a,C,fs,v,ex,xa,c,n,l,q⟩:=zz;subst ex;obtain rfl:u=Value.ref a:=rx;exact ZoF I1 xa c n l λu' s2 I2 ru=>⟨v,H1,I2,ru,q⟩
inductive TyR (K:Frag) (H:Hp):V->Value->Prop where
 | ty {x:V} {t:Value} (h:TyX K H x t):TyR K H x t
 | exc {e C:AD} {fs:List (Str×V)} (x:XAny H e C fs) (i:Xi K C):TyR K H (.ref e) (.ref C)
theorem Zay {X:Cx}{K:Frag}(hK:X.K=K):Zb0 X (.builtin "isinstance") (λxs H Q=>∃x c t k b,xs=[x,c]/\clsV c=some k/\TyR K H x t/\kitOne K t k=some b/\Q (.bl b) H):=by
 subst hK;rintro Bb s U H xs us Q I r ⟨x,c,t,k,b,rfl,hk,ty,e,q⟩;cases ty with
 | ty h=>exact ZgH Bb s U H _ us Q I r ⟨x,c,t,k,b,rfl,hk,h,e,q⟩
 | exc xa i=>
  obtain⟨u,v,rfl,ru,rv⟩:=r.two;have hv:v=k:=by
   cases c with
   | ref a=>cases hk;exact rv
   | ty n=>cases hk;exact rv
   | _=>cases hk
  subst hv;cases ru;obtain⟨ox,od,J,_⟩:=xa.inst I;exact YBM (ZeV i) I.kIn J e (λz=>nomatch z) λtk=>⟨.bl b,H,I.tok _,rfl,q⟩
theorem Zcg {K:Frag} {C D:AD} {m1 m2:AC} {b:Bool} (c:ClsOk K C m1) (d:ClsOk K D m2) (hb:m2.contains (.type "BaseException")=true) (h:m1.contains (.ref D)=b):PySem.W.exmOne K (.ref C) (.ref D)=some b:=by
 obtain⟨cd,e1,e2⟩:=c.cd;obtain⟨cd',e3,e4⟩:=d.cd;have hs:PySem.W.subIn K (.ref D) (.type "BaseException")=some true:=by unfold PySem.W.subIn PySem.W.mroIn;dsimp only;rw[e3,YBq,e4,d.ne,hb];rfl
 unfold PySem.W.exmOne;rw[YAM (by rw[hs];rfl)];unfold PySem.W.kitCls;dsimp only;rw[e3,d.ty];simp only[Option.isSome_some,YBt,beq_self_eq_true,if_true];unfold PySem.W.subIn PySem.W.mroIn;dsimp only;rw[e1,YBq,e2,c.ne,h];rfl
open PySem.W (Frag)
theorem ObjOk.there {P:AG}{w:AI}{H:Hp}{h:Heap}{a:AD}:∀ {o:HO},ObjOk P w H h a o->∃u,h.get? a=some u
 | .lst _,x=>by obtain⟨_,_,_,_,e⟩:=x;exact⟨_,e⟩
 | .tup _,x=>by obtain⟨_,_,_,ob,e,_⟩:=x;exact⟨_,e⟩
 | .dK _,x=>by obtain⟨_,_,_,_,ob,_,_,e,_⟩:=x;exact⟨_,e⟩
 | .dT _,x=>by obtain⟨_,_,_,_,ob,_,_,e,_⟩:=x;exact⟨_,e⟩
 | .set _ _,x=>by obtain⟨ob,_,_,_,e,_⟩:=x;exact⟨_,e⟩
 | .ins _ _ _,x=>by obtain⟨_,_,_,e,_⟩:=x;exact⟨_,e⟩
 | .own _,x=>x
 | .xd _,x=>by obtain⟨_,⟨ob,_,_,e,_⟩,_⟩:=x;exact⟨_,e⟩
 | .met _ _,x=>⟨_,x⟩
 | .rng _ _,x=>by obtain⟨_,_,_,e⟩:=x;exact⟨_,e⟩
 | .frz _ _,x=>⟨_,x.1⟩
 | .tbl _,x=>⟨_,x⟩
 | .ext _,x=>x.2.1
theorem HOk.none_of (ok:HOk P w H h)(n:h.get? a=none):H a=none:=by
 cases q:H a with
 | none=>rfl
 | some o=>
  obtain⟨u,hu⟩:=(ok a o q).there;rw[n]at hu;cases hu
theorem Inv.laid2 (I:Inv X Bb U H s)(os:s'.os=s.os)(hg:s'.gens=s.gens)(k:∀b u,s.heap.get? b=some u->s'.heap.get? b=some u)(nw:s.heap.get? a=none)
  (new:ObjOk X.prog X.w (upd H a o) s'.heap a o):Inv X Bb U (upd H a o) s':=by
 have hn:=I.hok.none_of nw;have ne:∀b u,s.heap.get? b=some u->b≠a:=λb u q z=>by rw[z,nw]at q;cases q
 have neH:∀b u,H b=some u->b≠a:=λb u q=>Zad q hn;refine I.call' (ch:=[]) os ⟨λb u q _ _ _=>k b u q,λb u q _ _ _=>⟨u.slots,k b u q⟩,λb u q n _=>by rw[Zai (ne b u q)];exact n,λb u q _=>⟨u,k b u q⟩,λb xs q=>by rw[Zai (neH b _ q)];exact q,λb u v q=>by rw[Zai (neH b _ q)];exact q,λb ps q=>⟨#[],by rw[Zai (neH b _ q),Array.append_empty];exact q⟩⟩
  (λb u q=>?_) (by rw[hg];exact I.bare) (λb hb=>by cases hb)
 by_cases hb:b=a
 .subst hb;rw[Zag]at q;cases q;exact new
 .rw[Zai hb]at q;exact(I.hok b u q).stay (λc w' _ q=>k c w' q) (λc q=>by rw[Zai (neH c _ q)];exact q) λc xs q=>by rw[Zai (neH c _ q)];exact q
section
def signs (l:Q11):Q22:=l.map λc=>[c]
theorem ZdQ (h:ItemsOf (SignAt ⟨l.toArray⟩) acc (⟨l.toArray⟩:Str).cps.size):Vals ((signs l).map tx) acc.toList:=by
 obtain⟨h1,h2⟩:=h;have hl:(⟨l.toArray⟩:Str).cps.size=l.length:=by show l.toArray.size=_;simp
 rw[hl]at h1;have gen:∀(l:Q11) (us:AC),us.length=l.length->(∀(j:Nat) (v:Value),us[j]?=some v->∃(c:Nat) (u:Tok),l[j]?=some c/\v=Value.str ⟨#[c]⟩ u)->Vals ((signs l).map tx) us:=by
  intro l;induction l with
  | nil=>
   intro us hl _;have:us=[]:=YDD hl;subst this;exact .nil
  | cons c l ih=>
   intro us hl h;cases us with
   | nil=>cases hl
   | cons u us=>
    obtain⟨c',t,e,rfl⟩:=h 0 u rfl;cases e;refine .cons ⟨t,rfl⟩ (ih us (by simpa using hl) λj v e=>h (j+1) v e)
 refine gen l acc.toList (by rw[YAR,h1]) λj v e=>?_;rw[YAo]at e;obtain⟨c,u,e1,e2⟩:=h2 j v e;exact⟨c,u,by simpa using e1,e2⟩
theorem Zdf (hc:X.calm=true):Zb0 X (.type "list") (λxs H Q=>∃l,xs=[tx l]/\l.length<=1000/\NewL ((signs l).map tx) H Q):=by
 rintro Bb s U H xs us Q I r ⟨l,rfl,hz,q⟩;obtain⟨u,rfl,t,rfl⟩:=r.one;have hl:(⟨l.toArray⟩:Str).cps.size=l.length:=by show l.toArray.size=_;simp
 refine call_list_str (I.ok.hd hc) _ t (λh' tk acc c k e it=>?_) (by rw[hl];exact YCM (Zdy hz));refine⟨.ref s.heap.objs.size,_,I.laid (t':=tk) k (YAS _) ?_,rfl,q _ I.fresh⟩;exact⟨by unfold signs;rw[YAD,YAD];exact YCM (Zdy hz),acc.toList,c,ZdQ it,by rw[YCf];exact e⟩
theorem ZjD (hc:X.calm=true):Zb0 X (.builtin "all") (λxs H Q=>∃(a:AD) (bs:List Bool),xs=[.ref a]/\H a=some (.lst (bs.map V.bl))/\Q (.bl (bs.all id)) H):=by
 rintro Bb s U H xs us Q I r ⟨a,bs,rfl,ha,q⟩;obtain⟨u,rfl,ru⟩:=r.one;cases ru;obtain⟨_,its,n,r',Bd,e⟩:=I.lstM ha;have hl:s.heap.IsList a its.toArray:=PySem.IsL.isList e;have hne:a≠s.heap.objs.size:=YAf (YAL e);refine call_all_walkS (YDT hl ?_);have hL:its.toArray.size=bs.length:=by rw[YAJ,<-r'.length,YAD]
 have W:=(Walks.list (prog:=X.prog) (w:=X.w) (A:=X.A.in1) (by simpa using I.ok.hd hc) s.heap.objs.size a hne its.toArray).toS;refine⟨s.heap.objs.size,_,_,_,_,_,_,λi=>bs.getD i true,rfl,W,⟨⟨_,YAQ _ rfl,rfl,rfl⟩,hl.push _⟩,?_,λs' hm=>?_⟩
 .intro i v s Q E hv hQ;have e':its[i]?=some v:=by simpa using hv
  obtain⟨x,hx,rx⟩:=Zh7 r' e';rw[YAi]at hx;cases hb:bs[i]? with
  | none=>rw[hb]at hx;cases hx
  | some b=>
   rw[hb]at hx;cases hx;obtain rfl:v=Value.bool b:=rx;have:bs.getD i true=b:=by rw[YAY,hb];rfl
   have hQ':Q (bs.getD i true) s:=hQ;rw[this]at hQ';exact YCG hQ'
 .have ea:(List.range its.toArray.size).all (λi=>bs.getD i true)=bs.all id:=by
   rw[hL];rw[YBU,YBD,YBD];constructor
   .intro h b hb;obtain⟨i,hi,rfl⟩:=YCN hb;have:=h i (YBA.mpr hi);rw[YAY,YAN hi]at this;exact this
   .intro h i hi;have hi:=YBA.mp hi;rw[YAY,YAN hi];exact h _ (YBr hi)
  rw[ea];have I2:Inv X Bb U H s':=I.call' (ch:=[]) hm.os (Un.kept λb o q=>hm.heap b o (λz=>?_) (YAB _ q)) (I.hok.kept λb o q=>hm.heap b o (λz=>?_) (YAB _ q)) (by rw[show s'.gens=s.gens from hm.gens];exact I.bare) (λb hb=>by cases hb)
  .exact⟨.bl _,H,I2,rfl,q⟩
  .have z:b=s.heap.objs.size:=by simpa using z
   rw[z]at q;exact absurd (YAL q) (YAv _)
  .have z:b=s.heap.objs.size:=by simpa using z
   rw[z]at q;exact absurd (YAL q) (YAv _)
def tset (P:AG)(w:AI)(a:AD)(ls:Q22):HO:=.ext λh=>TxSet P w h a ls (!Zbi w)
theorem Zlt (x:TxSet P w h a ls (!Zbi w)):ObjOk P w H h a (tset P w a ls):=by obtain⟨o,es,ep,t,ms,h1,r⟩:=id x;exact⟨x,⟨o,h1⟩,λg1 g2 y k=>y.keep k⟩
def ddl (ls:Q22):Q22:=ls.foldl addT []
theorem Ze5:dd (λi=>ls.getD i []) ls.length=ddl ls:=by
 unfold dd ddl;congr 1;apply YCQ
 .simp
 .intro n h1 h2;simp[h2]
theorem Zd7 (hc:X.calm=true):Zb0 X (.type "set") (λxs H Q=>∃ls:Q22,ls.length<=1000/\((∃l,xs=[tx l]/\ls=signs l)\/∃a,xs=[.ref a]/\SqL X.K H a (ls.map tx))/\∀p,H p=none->Q (.ref p) (upd H p (tset X.prog X.w p (ddl ls)))):=by
 rintro Bb s U H xs us Q I r ⟨ls,hz,hx,q⟩;have hb:ls.length+1<scanBound:=by show _<4096;omega
 have fin:∀(h':Heap) (tk:Nat),TxSet X.prog X.w h' s.heap.objs.size (ddl ls) (!Zbi X.w)->(∀b o,s.heap.get? b=some o->h'.get? b=some o)->EP X Bb U Q (.ref s.heap.objs.size) { s with heap:=h',toks:=tk }:=λh' tk hS k=>
  ⟨.ref s.heap.objs.size,_,I.laid (t':=tk) k (YAS _) (Zlt hS),rfl,q _ I.fresh⟩
 rcases hx with⟨l,rfl,rfl⟩|⟨a,rfl,hq⟩
 .obtain⟨u,rfl,t,rfl⟩:=r.one;have hl:(signs l).length=l.length:=by unfold signs;rw[YAD]
  have e0:dd (λi=>[l.getD i 0]) l.length=ddl (signs l):=by
   unfold dd ddl signs;congr 1;apply YCQ
   .simp
   .intro n h1 h2;have:n<l.length:=by simpa using h2
    simp[this]
  refine ZgS (I.ok.hd hc) (Zgf (prog:=X.prog) (w:=X.w) (s:=s) (l:=l) (t:=t)) F.sub_str_set F.sub_str_frozenset (by decide) (by rw[<-hl];exact hb) λh' tk hS k _=>?_;rw[e0]at hS;exact fin h' tk hS k
 .obtain⟨u,rfl,ru⟩:=r.one;cases ru;obtain⟨its,rv,p,_⟩:=I.list hq;refine ZgS (I.ok.hd hc) (Zgg (prog:=X.prog) (w:=X.w) (s:=s) p.isList rv) F.sub_list_set F.sub_list_frozenset (by decide) hb λh' tk hS k _=>?_;rw[Ze5]at hS;exact fin h' tk hS k
theorem Zd6 (hc:X.calm=true):Zb0 X (.builtin "sorted") (λxs H Q=>∃a ls,xs=[.ref a]/\H a=some (tset X.prog X.w a ls)/\ls.length<64/\NewL ((ZaV ls).map tx) H Q):=by
 rintro Bb s U H xs us Q I r ⟨a,ls,rfl,ha,h64,q⟩;obtain⟨u,rfl,ru⟩:=r.one;cases ru;have hS:TxSet X.prog X.w s.heap a ls (!Zbi X.w):=(I.hok a _ ha).1;refine Zhs (I.ok.hd hc) hS h64 λs' b us e nw k hg ho hb rv=>?_;have hl:(ZaV ls).length<=sizeLine:=by rw[(ZaI ls).length_eq];exact YAK (YCM h64) (by rw[sizeLine_eq];decide)
 exact⟨.ref b,_,I.laid2 (o:=.lst ((ZaV ls).map tx)) ho hg k nw ⟨by rw[YAD];exact hl,us,e,rv,hb⟩,rfl,q b (I.hok.none_of nw)⟩
end
theorem Zar (h:x=⟨l.toArray⟩):PE X (.Constant (.str x) j pos) (tC (tx l)):=by subst h;exact Znn
theorem Zg0 (hg:Gl X x) (hm:∃t,X.mg x=some (.str y t)) (hd:(x == ("__debug__":Str))=false:=by decide):PE X (.Name x pos) (tC (.str y)):=by obtain⟨t,h⟩:=hm;exact Zba hg h ⟨t,rfl⟩ hd
theorem Zdo (hg:Gl X x) (hm:∃t,X.mg x=some (.int y t)) (hd:(x == ("__debug__":Str))=false:=by decide):PE X (.Name x pos) (tC (.int y)):=by obtain⟨t,h⟩:=hm;exact Zba hg h ⟨t,rfl⟩ hd
section
variable {CX:CXT}{P:AG}{w:AI}{K:Q4}{mg:AB}{base:Heap}{N:AJ}{qual:Str}{scope:Scope}{f:AD}{cd:Value}{A:AH}{outer:List Env}{s:AE}{H:Hp}{E:XK}{X:Cx}{e:AD}
theorem cxPr:(cxOf CX P w K mg base N qual scope f cd A outer s H E).prog=P:=rfl
theorem cxWo:(cxOf CX P w K mg base N qual scope f cd A outer s H E).w=w:=rfl
theorem suxK:(sux X e).K=X.K:=rfl
theorem ZoP:(sux X e).prog=X.prog:=rfl
theorem ZoO:(sux X e).w=X.w:=rfl
end
open PySem.W (Frag KeqHits)
theorem ZdU {κ:Type}[DecidableEq κ]{A:AH}{s:AE}{kb:List (κ×Value)}(nd:(kb.map (·.1)).Nodup):∀(r:List (κ×Value)),(∀x∈r,x∈kb)->KeqHits A s kb r true
 | [],_=>.nil
 | (k,v)::r,hm=>by
  have h1:valueAt kb k=some v:=by
   unfold valueAt;have hin:=hm (k,v) YAg;obtain⟨y,hy,e⟩:∃y,kb.find? (λkv=>kv.1=k)=some y/\y=(k,v):=by
    clear hm;induction kb with
    | nil=>cases hin
    | cons z kb ih=>
     rw[YAc,YBw]at nd;rcases YAE.mp hin with e | e
     .subst e;exact⟨_,by simp,rfl⟩
     .have hz:¬z.1=k:=λe'=>nd.1 (e'▸YBE (f:=(·.1)) e);obtain⟨y,hy,e2⟩:=ih nd.2 e;exact⟨y,by rw[List.find?_cons_of_neg (by simpa using hz)];exact hy,e2⟩
   rw[hy,e];rfl
  exact .hit (e:=true) (b:=true) h1 (SeqAt.EqAt.same _) (ZdU nd r λx hx=>hm x (YAX _ hx))
def rEqS (K:Frag)(neg:Bool):R2:=λx y H Q=>rEqD K neg x y H Q\/∃(a:AD) (kvs:List (Key×V)),x=.ref a/\y=.ref a/\H a=some (.dK kvs)/\Q (.bl (!neg)) H
section
variable {X:Cx}{K:Frag}
theorem Zp7 (hK:X.K=K)(hu:X.A.units+64<cLine):OpR X (compareOp .Eq) (rEqS K false):=by
 subst hK;intro Bb s U H x y v u Q I rx ry h;rcases h with h | ⟨a,kvs,rfl,rfl,e,q⟩
 .exact Zk2 hu Bb s U H x y v u Q I rx ry h
 .cases rx;cases ry;obtain⟨_,hm,vs,_,d⟩:=ZhW I.hok e;have nd:(vs.map (·.1)).Nodup:=let ⟨_,_,_,_,_,_,_,_,n⟩:=d;n;exact PySem.W.keq_eq hm hm d d (by omega) (λ_=>ZdU nd vs λ_ hx=>hx) ⟨.bl true,H,I,by simp;rfl,q⟩
theorem ZiJ (hK:X.K=K)(hu:X.A.units+64<cLine):OpR X (compareOp .NotEq) (rEqS K true):=by
 subst hK;intro Bb s U H x y v u Q I rx ry h;rcases h with h | ⟨a,kvs,rfl,rfl,e,q⟩
 .exact Zk1 hu Bb s U H x y v u Q I rx ry h
 .cases rx;cases ry;obtain⟨_,hm,vs,_,d⟩:=ZhW I.hok e;have nd:(vs.map (·.1)).Nodup:=let ⟨_,_,_,_,_,_,_,_,n⟩:=d;n;exact PySem.W.keq_ne hm hm d d (by omega) (λ_=>ZdU nd vs λ_ hx=>hx) ⟨.bl false,H,I,by simp;rfl,q⟩
end
open PySem.W (Frag)
theorem Zbn {P:AG}{w:AI}{K:Frag}{mg:AB}{base:Heap}{N:AJ}{qual:Str}{scope:Scope}{f:AD}{cd:Value}{A:AH}{outer:List Env}{s0:AE}{H0:Hp}{E:XK}:
  Zb1 (CXr P w) (cxOf (CXr P w) P w K mg base N qual scope f cd A outer s0 H0 E) E:=by
 intro Bb U H s ev s' I hx;generalize hX:cxOf (CXr P w) P w K mg base N qual scope f cd A outer s0 H0 E=X at I hx ⊢;have eA:X.A=A.deeper (envOfC qual scope s0.heap.objs.size f cd):=by rw[<-hX];rfl
 have eS:X.stack=envOfC qual scope s0.heap.objs.size f cd::outer:=by rw[<-hX];rfl
 have eF:X.fs=frs outer:=by rw[<-hX];rfl
 have e0:X.s_0=s0:=by rw[<-hX];rfl
 have eH:X.H_0=H0:=by rw[<-hX];rfl
 have eX:X.ex=[]:=by rw[<-hX];rfl
 have ePr:X.prog=P:=by rw[<-hX];rfl
 have eW:X.w=w:=by rw[<-hX];rfl
 have hxe:∀ev s',wpAny (model P w) (A.deeper (envOfC qual scope s0.heap.objs.size f cd)) (leaving (envOfC qual scope s0.heap.objs.size f cd) ev) (λ_ s''=>CXr P w outer H0 s0 E ev s'') (λe' s''=>CXr P w outer H0 s0 E e' s'') s'->X.xe ev s':=by intro ev s' z;rw[<-hX];exact z
 obtain⟨e,C,d,H',h1,B,rfl,hos,hbare,un,ok,he,kept,fl,up,hE⟩:=hx;refine hxe _ _ ?_;have hfr:(A.deeper (envOfC qual scope s0.heap.objs.size f cd)).frames=some (envOfC qual scope s0.heap.objs.size f cd::outer):=by rw[<-eA,<-eS];exact I.ok.frames
 have J:Inv X Bb U H' { s' with heap:=h1 }:=I.call' (s':={ s' with heap:=h1 }) (ch:=[]) hos un (by rw[ePr,eW];exact ok) hbare (λb hb=>by cases hb);rw[eS]at fl;refine ZhL hfr rfl fl λh' fl' up'=>?_;have os:s'.os=s0.os:=by rw[hos,<-e0];exact I.os
 have un':Un (frs outer) [] H0 H' s0.heap h1:=by
  have:=J.base
  rwa [eF,eX,eH,e0]at this
 refine⟨e,C,d,H',h1,B,rfl,os,hbare,un',ok,he,λb o hb hne hc=>?_,fl',up.trans up',hE⟩;rcases hc with hu | ⟨⟨o',ho'⟩,hn⟩
 .exact kept b o hb hne (.inl hu)
 .refine kept b o hb hne (.inr ⟨?_,λz=>?_⟩)
  .have:=I.base;rw[eF,eX,eH,e0]at this;exact this.there b o' ho' (by simp)
  .rw[eS]at z;have z':b=s0.heap.objs.size\/b∈frs outer:=by have:=z;unfold frs at this;rw[YDM]at this;simpa [envOfC,frs] using this
   rcases z' with z' | z'
   .rw[z']at ho';exact absurd (YAL ho') (YAv _)
   .exact hn z'
section
end
section
end
def Itz (K:Q4)(a b:AD):It:=
  ⟨λi H=>∃xs ys x y,SqT K H a xs/\SqT K H b ys/\xs.length=ys.length/\xs[i]?=some x/\ys[i]?=some y,
   λi H v H'=>∃p x y,H p=none/\v=.ref p/\H'=upd H p (.tup [x,y])/\(∀xs,SqT K H a xs->xs[i]?=some x)/\∀ys,SqT K H b ys->ys[i]?=some y,
   λi H=>∃xs ys,SqT K H a xs/\SqT K H b ys/\xs.length=ys.length/\xs.length=i⟩
section
end
section
end
section
def repT (l:Q11)(n:Int):Q11:=(List.replicate n.toNat l).flatten
theorem ZfW (a:Array Nat):∀(n:Nat) (acc:Array Nat),((List.replicate n a).foldl (·++·) acc).toList=acc.toList++(List.replicate n a.toList).flatten
 | 0,acc=>by simp
 | n+1,acc=>by rw[List.replicate_succ,YCY,ZfW a n,List.replicate_succ];simp
theorem ZnP (l:Q11)(n:Int):Txt.mul ⟨l.toArray⟩ n=⟨(repT l n).toArray⟩:=by
 unfold Txt.mul repT;by_cases h1:n<1
 .rw[YAM h1];have:n.toNat=0:=by omega
  rw[this];rfl
 .rw[YAI h1];split
  .rename_i h
   rw[Bool.or_eq_true]at h;rcases h with h | h
   .have:n=1:=by simpa using h
    subst this;simp
   .have:l=[]:=by have:=beq_iff_eq.mp h;rw[Zdh]at this;exact YCp.mp this
    subst this;simp
  .congr 1;apply Array.ext';rw[ZfW];simp
theorem ZiK:OpR X (binaryOp .Mult) (λx y H Q=>∃l n,x=tx l/\y=.int n/\0<=n/\n<=1000/\l.length<=1000/\Q (tx (repT l n)) H):=by
 rintro Bb s U H x y v u Q I rx ry ⟨l,n,rfl,rfl,h0,h1,h2,q⟩;obtain⟨t,rfl⟩:=rx;obtain⟨t',rfl⟩:=ry;have e1:(⟨l.toArray⟩:Str).length=l.length:=Zdh l;refine SB.mul ⟨?_,λa b=>?_,λa b=>?_⟩ λt2 k=>?_
 .simp only[Bool.or_eq_false_iff,decide_eq_false_iff_not];omega
 .rw[e1];have e3:(1000:Int)<=(2 ^ 63-1)/n:=by rw[Int.le_ediv_iff_mul_le (by omega)];omega
  omega
 .rw[e1];have:l.length*n.toNat<=1000*1000:=Nat.mul_le_mul h2 (by omega);unfold Builtin.Str.tooLong;simp only[decide_eq_false_iff_not];rw[sizeLine_eq];omega
 .rw[ZnP];exact⟨tx _,H,I.tok _,⟨_,rfl⟩,q⟩
end
open PySem.W (Frag)
theorem ZkZ {X:Cx} {K:Frag} {T id:String} {name:Str} {o e:Expr} {es:List Expr} {to:TE} {t:TA} {Bg Bh:Pos} {r:V->List V->Hp->VK->Prop} (hK:X.K=K) (pa:PlainAttrs T) (slot:Slot T name id) (hty:typeOf (.builtin id)=pure (.type "method_descriptor")) (hm:MtR X id r) (ho:PE X o to) (ha:PA X (e::es) t)
  (hbase:attributeBase o name X.env (eval o X.env)=eval o X.env:=by rfl)
  (hfew:((backTo Bh (starEach (e::es) X.env)).all (λx=>!x.1)&&(backToKw Bh (keywordEach [] X.env)).all (λx=>x.1.isSome)&&decide ((e::es).length+([]:List Keyword).length+(if ([]:List Keyword).isEmpty then 0 else 1)<30))=true:=by rfl)
  (hline:(Bg.endLine == Bh.line)=true:=by rfl) (hs:starEach (e::es) X.env=(false,eval e X.env)::starEach es X.env:=by rfl) (hplain:(backTo Bh (starEach es X.env)).any (·.1)=false:=by rfl):PE X (.Call (.Attribute o name Bg) (e::es) [] Bh) (tBM K T r to t):=by
 subst hK;exact Zfv pa slot hty hm ho ha hbase hfew hline hs hplain
def sNo:TS:=λ_ _ _=>False
theorem Zj5 {X:Cx}{st:Stmt}:PS X st sNo:=λ_ _ _ _ _ _ h=>h.elim
section
theorem Zg1 (hg:Gl X x) (hm:X.mg x=some (.ref L)) (cr:ClsRead X.K L "__init__" (.ref f)) (F:FnOk X.prog X.w X.K X.mg X.base CX k f fd ps sp) (hr:Room k X.A) (hk:PySem.W.keepIn X.K (.ref f)=true) (hb:Binds X.K fd ps ds) (hd:Vals Bk ds) (hx:Zb1 CX X E)
  (ha:PA X (e::es) t) (hdb:(x == ("__debug__":Str))=false:=by decide) (hst:starEach (e::es) X.env=(false,eval e X.env)::starEach es X.env:=by rfl) (hpl:(backTo pos (starEach es X.env)).any (·.1)=false:=by rfl)
  (ht:eval (.Call (.Attribute (.Name x np) "__init__" Bg) (e::es) [] pos) X.env=(do
   let ov <-eval (.Name x np) X.env
   standAt Bg.atName
   let (f,first) <-holding [ov] (getMethod ov "__init__" pl)
   callWith pos f first (backTo pos (starEach (e::es) X.env)) (backToKw pos (keywordEach [] X.env))):=by rfl):PE X (.Call (.Attribute (.Name x np) "__init__" Bg) (e::es) [] pos) (Zly sp Bk E t):=by
 intro Bb s U H Q I h;refine YCB (pl:=pl) (ZbW I hg hm ?_ hdb) ht;refine PySem.W.method_cls I.kIn cr.sp (PySem.W.cls_value I.kIn cr.rd cr.fd cr.hn ?_);refine YBo (first:=[]) (h₀:=X.base) I.ok.mod.kin hk (thn (ha pos Bb _ U H _ (I.tok _) h) λus s1 ⟨vs,H1,I1,r,q⟩=>⟨I1.kIn,?_⟩) hst hpl;exact ZgU F hr hb hd hx I1 r q
end
def WhileRun (c:TT)(tb:TS)(D:Ends)(U:St)(H:Hp):Prop:=Zie c tb D U H
theorem ZlQ:Zie c tb D U H=WhileRun c tb D U H:=rfl
theorem WhileRun.by (Pv:St->Hp->Prop)(μ:St->Hp->Nat)(h0:Pv U H)
  (hs:∀U H,Pv U H->∃b:Bool,(∀Q:Bool->Hp->Prop,(∀H1,Same H H1->Q b H1)->c U H Q)/\∀H1,Same H H1->if b=true then tb { D with nx:=λU' H'=>Pv U' H'/\μ U' H'<μ U H,ct:=λU' H'=>Pv U' H'/\μ U' H'<μ U H,bk:=D.nx } U H1 else D.nx U H1):WhileRun c tb D U H:=by
 refine⟨λm U H=>m=μ U H/\Pv U H,⟨_,rfl,h0⟩,?_⟩;rintro m U H ⟨rfl,p⟩;obtain⟨b,hc,hb⟩:=hs U H p;refine hc _ λH1 s1=>?_;have q:=hb H1 s1;cases b with
 | true=>exact⟨_,λU' H' ⟨p',l⟩=>⟨_,l,rfl,p'⟩,q⟩
 | false=>exact q
def wordsOf (l:Q11)(n:Nat):Q22:=ZaV (ddl ((List.range (l.length+1-n)).map λi=>(l.drop i).take n))
theorem Zcq {x:Q11}:∀(ls acc:Q22),x∈ls.foldl addT acc↔x∈acc\/x∈ls
 | [],acc=>by simp
 | y::ls,acc=>by
  rw[YCY,Zcq ls];have h:x∈addT acc y↔x∈acc\/x=y:=by
   unfold addT;split
   .rename_i h
    constructor
    .exact .inl
    .rintro (q | q)
     .exact q
     .rw[q];exact h
   .rw[YAV,YAG]
  rw[h,YAE,or_assoc]
theorem Zgr:x∈ddl ls↔x∈ls:=by unfold ddl;rw[Zcq];simp
theorem ZiP (ls:Q22):(ddl ls).Nodup:=by rw[<-Ze5];exact ZcR _
open PySem.W (Frag)
def AtW (l w:Q11)(i:Nat):Prop:=i+w.length<=l.length/\(l.drop i).take w.length=w
def Inf (w l:Q11):Prop:=∃i,AtW l w i
theorem Zb4 (l w:Q11)(i:Nat):StrLaws.At ⟨l.toArray⟩ ⟨w.toArray⟩ (⟨l.toArray⟩:Str).length i↔AtW l w i:=by
 have e1:(⟨l.toArray⟩:Str).length=l.length:=Zdh l;have e2:(⟨w.toArray⟩:Str).length=w.length:=Zdh w;unfold StrLaws.At AtW Builtin.Str.subAt;rw[e1,e2];refine and_congr_right λh=>?_;have e3:l.toArray.extract i (i+w.length)=((l.drop i).take w.length).toArray:=by
  apply Array.ext';simp only[List.extract_toArray,List.extract_eq_take_drop];have:i+w.length-i=w.length:=by omega
  rw[this]
 show (l.toArray.extract i (i+w.length) == w.toArray)=true↔_;rw[e3,beq_iff_eq];exact⟨λz=>by simpa using congrArg Array.toList z,λz=>by rw[z]⟩
theorem AtW.nil (l:Q11):AtW l [] 0:=⟨by simp,by simp⟩
theorem Inf.nil (l:Q11):Inf [] l:=⟨0,AtW.nil l⟩
theorem Inf.len (h:Inf w l):w.length<=l.length:=by obtain⟨i,h,_⟩:=h;omega
theorem Inf.mem (h:Inf w l){c:Nat}(hc:c∈w):c∈l:=by obtain⟨i,_,h⟩:=h;rw[<-h]at hc;exact YAb (YAe hc)
theorem Inf.refl (l:Q11):Inf l l:=⟨0,by simp,by simp⟩
theorem AtW.trans (h1:AtW v u i)(h2:AtW w v j):AtW w u (j+i):=by
 obtain⟨a1,b1⟩:=h1;obtain⟨a2,b2⟩:=h2;refine⟨by omega,?_⟩;have e:(w.drop (j+i)).take u.length=((((w.drop j).take v.length).drop i).take u.length):=by rw[List.drop_take,YCg,YCS];congr 1;omega
 rw[e,b2,b1]
theorem Inf.trans (h1:Inf u v)(h2:Inf v w):Inf u w:=by obtain⟨i,h1⟩:=h1;obtain⟨j,h2⟩:=h2;exact⟨_,h1.trans h2⟩
theorem Zg9 (w:Q11):Inf w.tail w:=by
 cases w with
 | nil=>exact Inf.nil _
 | cons c w=>exact⟨1,by simp;omega,by simp⟩
theorem Zha (w:Q11):Inf w.dropLast w:=⟨0,by simp,by rw[YBV,YBQ,YDB]⟩
theorem Zmq (h:Inf v w)(hl:v.length<w.length):Inf v w.dropLast\/Inf v w.tail:=by
 obtain⟨i,h1,h2⟩:=h;cases i with
 | zero=>
  refine .inl ⟨0,by rw[YBQ];omega,?_⟩;rw[YBV]at h2 ⊢;rw[YDB,YCS];have:min v.length (w.length-1)=v.length:=by omega
  rw[this];exact h2
 | succ i=>
  refine .inr ⟨i,by rw[List.length_tail];omega,?_⟩;rw[List.drop_tail];exact h2
theorem Zla (h:Inf v w)(hl:w.length<=v.length):v=w:=by
 obtain⟨i,h1,h2⟩:=h;have hi:i=0:=by omega
 subst hi;rw[YBV,YAp hl]at h2;exact h2.symm
theorem Zbb (hn:n<=l.length+1):x∈wordsOf l n↔x.length=n/\Inf x l:=by
 unfold wordsOf;rw[(ZaI _).mem_iff,Zgr,YAt];constructor
 .rintro⟨i,hi,rfl⟩;have hi:=YBA.mp hi;have hl:((l.drop i).take n).length=n:=by rw[YAa,YAk];omega
  exact⟨hl,i,by omega,by rw[hl]⟩
 .rintro⟨rfl,i,h1,h2⟩;exact⟨i,YBA.mpr (by omega),h2⟩
theorem Zgd (l:Q11)(n:Nat):(wordsOf l n).length<=l.length+1:=by
 unfold wordsOf;rw[(ZaI _).length_eq];have:∀(ls acc:Q22),(ls.foldl addT acc).length<=acc.length+ls.length:=by
  intro ls;induction ls with
  | nil=>intro acc;simp
  | cons x ls ih=>
   intro acc;rw[YCY];refine YAK (ih _) ?_;unfold addT;split<;>simp<;>omega
 have h:=this ((List.range (l.length+1-n)).map λi=>(l.drop i).take n) [];rw[YAD,YBd]at h;unfold ddl;simp only[YCo]at h;omega
def Zn2 (sh st:Q22)(h:Q11)(c:Nat):Bool:=decide ((h++[c]).tail∈sh)&&!decide (h++[c]∈st)
def ZhN (sh st:Q22)(m h:Q11):Q22:=(m.filter (Zn2 sh st h)).map λc=>h++[c]
def ZfN (sh st:Q22)(m:Q11):Q22:=sh.flatMap (ZhN sh st m)
def ZfL (l m:Q11)(i:Nat):Q22:=(List.range i).flatMap λk=>ZfN (wordsOf l k) (wordsOf l (k+1)) m
def ZaK (l m:Q11):Q22:=ZfL l m (l.length+1)
theorem Zi3 (sh st:Q22)(m h:Q11):(ZhN sh st m h).length<=m.length:=by unfold ZhN;rw[YAD];exact YBB _ _
theorem Zcx {α β:Type}{f:α->List β}{b:Nat}(h:∀x,(f x).length<=b):∀l:List α,(l.flatMap f).length<=l.length*b
 | []=>by simp
 | x::l=>by rw[List.flatMap_cons,YAH,YAl,Nat.succ_mul];have:=h x;have:=Zcx h l;omega
theorem Zi5 (sh st:Q22)(m:Q11):(ZfN sh st m).length<=sh.length*m.length:=Zcx (Zi3 sh st m) sh
theorem ZdL {sh st:Q22}{m w:Q11}:w∈ZfN sh st m↔∃h c,h∈sh/\c∈m/\w=h++[c]/\w.tail∈sh/\w∉st:=by
 unfold ZfN ZhN Zn2;simp only[List.mem_flatMap,YAt,YBT,YAP,Bool.not_eq_true',decide_eq_true_iff,decide_eq_false_iff_not];constructor
 .rintro⟨h,hh,c,⟨hc,h1,h2⟩,rfl⟩;exact⟨h,c,hh,hc,rfl,h1,h2⟩
 .rintro⟨h,c,hh,hc,rfl,h1,h2⟩;exact⟨h,hh,c,⟨hc,h1,h2⟩,rfl⟩
structure Miss (l w:Q11):Prop where
 ne:w≠[]
 init:Inf w.dropLast l
 tail:Inf w.tail l
 no:¬Inf w l
theorem Za3:w∈ZaK l m↔Miss l w/\∃c∈m,w.getLast?=some c:=by
 unfold ZaK ZfL;rw[List.mem_flatMap];constructor
 .rintro⟨k,hk,hw⟩;have hk:=YBA.mp hk;obtain⟨h,c,h1,hc,rfl,h3,h4⟩:=ZdL.mp hw;rw[Zbb (by omega)]at h1 h3;refine⟨⟨by simp,by simpa using h1.2,h3.2,λz=>h4 ((Zbb (by omega)).mpr ⟨by simp[h1.1],z⟩)⟩,c,hc,by simp⟩
 .rintro⟨⟨ne,hi,ht,hn⟩,c,hc,hl⟩;have e:w.dropLast++[c]=w:=by rw[YCP ne]at hl;have h:=YDG ne;rw[Option.some.inj hl]at h;exact h
  have Bd:w.dropLast.length=w.length-1:=YBQ;have h1:1<=w.length:=YBc.mpr ne;refine⟨w.length-1,YBA.mpr (by have:=hi.len;omega),ZdL.mpr ⟨w.dropLast,c,?_,hc,e.symm,?_,?_⟩⟩
  .rw[Zbb (by have:=hi.len;omega)];exact⟨Bd,hi⟩
  .rw[Zbb (by have:=hi.len;omega)];exact⟨List.length_tail,ht⟩
  .rw[Zbb (by have:=hi.len;omega)];exact λz=>hn z.2
theorem same_upd3' (h:H e=none)(s:Same H H2):Same H (upd H2 e o'):=λb u hb=>by
 have:b≠e:=λz=>by rw[z,h]at hb;cases hb
 rw[Zai this];exact s _ _ hb
section
variable {tt:TT}{te:TE}{Q:VK}{τ0:St}{H:Hp}{K:Frag}{a:AD}{xs:List V}
theorem CompRun.listL (b:Nat->Bool)(f:Nat->V)(hz:xs.length<=100000)(hx:SqL K H a xs)
  (ht:∀i H' Q' (h:i<xs.length),Same H H'->(∀H'',Same H' H''->Q' (b i) H'')->tt (τ0.set 0 (some (xs.getD i .non))) H' Q')
  (he:∀i H' Q' (h:i<xs.length),b i=true->Same H H'->(∀H'',Same H' H''->Q' (f i) H'')->te (τ0.set 0 (some (xs.getD i .non))) H' Q')
  (hQ:∀p H',Same H H'->H p=none->H' p=some (.lst (((List.range xs.length).filter b).map f))->Q (.ref p) H'):CompRun (Itl K a) τ0 (Zdj 0) tt te H Q:=by
 intro acc ha;refine⟨λi m τ H2=>i<=xs.length/\m=xs.length-i/\(∀w:Option V,τ.set 0 w=τ0.set 0 w)/\Same H H2/\H2 acc=some (.lst (((List.range i).filter b).map f)),⟨xs.length,YAx _,rfl,λ_=>rfl,ZaE ha,Zag⟩,?_⟩;rintro i m τ H2 ⟨hi,rfl,hτ,hs,Be⟩;by_cases Bl:i<xs.length
 .refine .inr ⟨⟨xs,xs[i],hs.seq hx,by simp[Bl]⟩,λτ' H'=>(∀w:Option V,τ'.set 0 w=τ0.set 0 w)/\Same H H'/\H' acc=some (.lst (((List.range (i+1)).filter b).map f)),λτ' H' q=>⟨xs.length-(i+1),by omega,Bl,rfl,q⟩,λx H3 y=>?_⟩;obtain⟨rfl,y⟩:=y;have ex:x=xs.getD i .non:=by rw[YAY,y xs (hs.seq hx)];rfl
  subst ex;show tt (τ.set 0 (some (xs.getD i .non))) _ _;rw[hτ];have hτ':∀w:Option V,(τ0.set 0 (some (xs.getD i .non))).set 0 w=τ0.set 0 w:=λw=>by rw[List.set_set]
  refine ht i _ _ Bl hs λH4 s4=>?_;cases hb:b i with
  | false=>
   rw[YAI YAC];refine⟨hτ',hs.trans s4,?_⟩;rw[s4 _ _ Be,YCL,YCt];simp[hb]
  | true=>
   rw[YAM rfl];refine he i _ _ Bl hb (hs.trans s4) λH5 s5=>⟨_,s5 _ _ (s4 _ _ Be),?_,hτ',same_upd3' ha ((hs.trans s4).trans s5),?_⟩
   .rw[YAD];have:=YBB b (List.range i);rw[YBd]at this;rw[sizeLine_eq];omega
   .rw[Zag,YCL,YCt];simp[hb]
 .have e:i=xs.length:=by omega
  subst e;exact .inl ⟨⟨xs,hs.seq hx,YAS _⟩,hQ acc H2 hs ha Be⟩
theorem CompRun.tups (P:Nat->List V->Prop)(hz:xs.length<=100000)(hx:SqL K H a xs)
  (he:∀i H' Q' (h:i<xs.length),Same H H'->(∀p vs H'',Same H' H''->H'' p=some (.tup vs)->P i vs->Q' (.ref p) H'')->te (τ0.set 0 (some (xs.getD i .non))) H' Q')
  (hQ:∀p ys H',Same H H'->H p=none->H' p=some (.lst ys)->ys.length=xs.length->(∀i y,ys[i]?=some y->∃t vs,y=.ref t/\H' t=some (.tup vs)/\P i vs)->Q (.ref p) H'):CompRun (Itl K a) τ0 (Zdj 0) tAll te H Q:=by
 intro acc ha;refine⟨λi m τ H2=>i<=xs.length/\m=xs.length-i/\(∀w:Option V,τ.set 0 w=τ0.set 0 w)/\Same H H2/\∃ys,H2 acc=some (.lst ys)/\ys.length=i/\∀i y,ys[i]?=some y->∃t vs,y=.ref t/\H2 t=some (.tup vs)/\P i vs,
  ⟨xs.length,YAx _,rfl,λ_=>rfl,ZaE ha,[],Zag,rfl,λi y h=>by simp at h⟩,?_⟩
 rintro i m τ H2 ⟨hi,rfl,hτ,hs,ys,Be,Bd,hall⟩;by_cases Bl:i<xs.length
 .refine .inr ⟨⟨xs,xs[i],hs.seq hx,by simp[Bl]⟩,λτ' H'=>(∀w:Option V,τ'.set 0 w=τ0.set 0 w)/\Same H H'/\∃ys,H' acc=some (.lst ys)/\ys.length=i+1/\∀i y,ys[i]?=some y->∃t vs,y=.ref t/\H' t=some (.tup vs)/\P i vs,λτ' H' q=>⟨xs.length-(i+1),by omega,Bl,rfl,q⟩,λx H3 y=>?_⟩;obtain⟨rfl,y⟩:=y;have ex:x=xs.getD i .non:=by rw[YAY,y xs (hs.seq hx)];rfl
  subst ex;unfold Zdj tAll;dsimp only;rw[YAM rfl,hτ];have hτ':∀w:Option V,(τ0.set 0 (some (xs.getD i .non))).set 0 w=τ0.set 0 w:=λw=>by rw[List.set_set]
  refine he i _ _ Bl hs λp vs H5 s5 hp hP=>⟨ys,s5 _ _ Be,by rw[Bd,sizeLine_eq];omega,hτ',same_upd3' ha (hs.trans s5),ys++[.ref p],Zag,by simp[Bd],λj z hz'=>?_⟩;have ne:∀ {t:AD} {us:List V},H5 t=some (.tup us)->t≠acc:=λh e=>by rw[e,s5 _ _ Be]at h;cases h
  by_cases hj:j<ys.length
  .rw[YBK hj]at hz';obtain⟨t,us,rfl,h1,h2⟩:=hall j z hz';have h1':=s5 _ _ h1;exact⟨t,us,rfl,by rw[Zai (ne h1')];exact h1',h2⟩
  .rw[YBH (by omega)]at hz';have hj':j-ys.length=0:=by
    rcases Nat.eq_zero_or_pos (j-ys.length) with h | h
    .exact h
    .rw[YBe (by simp;omega)]at hz';cases hz'
   rw[hj']at hz';cases hz';have:j=i:=by omega
   exact⟨p,vs,rfl,by rw[Zai (ne hp)];exact hp,by rw[this];exact hP⟩
 .have e:i=xs.length:=by omega
  subst e;exact .inl ⟨⟨xs,hs.seq hx,YAS _⟩,hQ acc ys H2 hs ha Be Bd hall⟩
end
section
def ZkP (C:AD)(m:Str)(sp:Sp)(Bk:List V)(ta:TE)(t:TA):TX:=λU H Q E=>ta U H λx H1=>∃a dx fs,x=.ref a/\H1 a=some (.ins C dx fs)/\fs.lookup m=none/\t U H1 λvs H2=>sp (x::(vs++Bk)) H2 Q E
theorem ZbD (he:PE X.nox o ta)(c:Cls X.K C)(hm:Meth X.K C m f)(F:FnOk X.prog X.w X.K X.mg X.base (CXr X.prog X.w) k f fd ps sp)(hr:Room k X.A)(hb:Binds X.K fd ps ds)(hd:Vals Bk ds)(ha:PA X.nox (e::es) t)
  (hst:starEach (e::es) X.env=(false,eval e X.env)::starEach es X.env:=by rfl) (hpl:(backTo pos (starEach es X.env)).any (·.1)=false:=by rfl)
  (ht:eval (.Call (.Attribute o m Bg) (e::es) [] pos) X.env=(do
   let ov <-eval o X.env
   standAt Bg.atName
   let (f,first) <-holding [ov] (getMethod ov m pl)
   callWith pos f first (backTo pos (starEach (e::es) X.env)) (backToKw pos (keywordEach [] X.env))):=by rfl):PEx X (.Call (.Attribute o m Bg) (e::es) [] pos) (ZkP C m sp Bk ta t):=by
 intro Bb s U H Q E I h;refine YCB (pl:=pl) (YBI (he Bb s U H _ (I.wish _) h) (λu s1 ⟨y,H1,I1,rx,a,dx,fs,ex,ea,l,q⟩=>?_) λ_ _ z=>False.elim z) ht;subst ex;obtain rfl:u=Value.ref a:=rx;refine Zcn I1.unwish ea c hm l ?_;refine YBo (first:=[.ref a]) (h₀:=X.base) I.ok.mod.kin hm.kp (YBI (ha pos Bb s1 U H1 _ I1 q) (λus s2 ⟨vs,H2,I2,r,q2⟩=>⟨I2.kIn,?_⟩) λ_ _ z=>False.elim z) hst hpl;exact ZlP (us:=.ref a::us) (vs:=.ref a::vs) F hr hb hd I2.unwish (.cons rfl r) q2
def ZkQ (C:AD)(sp:Sp)(Bk:List V)(t:TA):TX:=λU H Q E=>t U H λvs H1=>∀x dx,H1 x=none->H1 dx=none->dx≠x->sp (.ref x::(vs++Bk)) (upd (upd H1 dx (.own x)) x (.ins C dx [])) (λv H2=>v=.non/\Q (.ref x) H2) E
theorem Zis (M:Mk X.K C f)(F:FnOk X.prog X.w X.K X.mg X.base (CXr X.prog X.w) k f fd ps sp)(hr:Room (k+1) X.A)(hb:Binds X.K fd ps ds)(hd:Vals Bk ds)(I:Inv X Bb U H s)(r:Vals vs us)
  (h:∀x dx,H x=none->H dx=none->dx≠x->sp (.ref x::(vs++Bk)) (upd (upd H dx (.own x)) x (.ins C dx [])) (λv H2=>v=.non/\Q (.ref x) H2) E):
  wpAny (model X.prog X.w) X.A (call (.ref C) us) (EP X Bb U Q) (λev s'=>∃H2 s2,Inv X Bb U H2 s2/\CXr X.prog X.w X.stack H2 s2 E ev s') s:=by
 have hq:=h (s.heap.objs.size+1) s.heap.objs.size (I.hok.fresh (YCX _)) (I.hok.fresh (YAS _)) (YAf (Nat.lt_succ_self _));have J:=Inv.made (C:=C) I;have rr:Vals (V.ref (s.heap.objs.size+1)::(vs++Bk)) (Value.ref (s.heap.objs.size+1)::(us++ds)):=.cons rfl (r.append hd);have hl:(Value.ref (s.heap.objs.size+1)::us++ds).length=ps.length:=by have z:=rr.length;rw[F.len _ _ _ _ hq]at z;exact z.symm
 refine YCI (Zg8 (f:=f) I.kIn M.makes M.init (beq_iff_eq.mp M.fn) (codeAny_mono (F.run _ X.stack _ _ ⟨Value.ref (s.heap.objs.size+1)::us,[]⟩ (Value.ref (s.heap.objs.size+1)::(us++ds)) _ _ E (hr.make C us []) (J.env0.make C us []) (hb _ (Value.ref (s.heap.objs.size+1)::us) J.kIn hl) rr hq) λfr s' z=>?_));cases fr with
 | error ev=>exact⟨_,_,J,z⟩
 | ok fl=>
  cases fl with
  | ret u=>
   obtain⟨v,H',I3,rv,ev,q3⟩:=J.after z;subst ev;exact⟨rv,⟨V.ref (s.heap.objs.size+1),H',I3,rfl,q3⟩⟩
  | next=>exact False.elim z
  | brk=>exact False.elim z
  | cont=>exact False.elim z
theorem Zj7 (M:Mk X.K C f)(F:FnOk X.prog X.w X.K X.mg X.base (CXr X.prog X.w) k f fd ps sp)(hr:Room (k+1) X.A)(hg:Gl X x)(hm:X.mg x=some (.ref C))(hb:Binds X.K fd ps ds)(hd:Vals Bk ds)(ha:PA X.nox (e::es) t)
  (hdb:(x == ("__debug__":Str))=false:=by decide) (he:starEach (e::es) X.env=(false,eval e X.env)::starEach es X.env:=by rfl) (hpl:(backTo pos (starEach es X.env)).any (·.1)=false:=by rfl):PEx X (.Call (.Name x p) (e::es) [] pos) (ZkQ C sp Bk t):=by
 intro Bb s U H Q E I h;refine YBg (ZbW I hg hm ?_ hdb);refine YBo (h₀:=X.base) I.ok.mod.kin M.kp (YBI (ha pos Bb s U H _ (I.wish _) h) (λus s1 ⟨vs,H1,I1,r,q⟩=>⟨I1.kIn,?_⟩) λ_ _ z=>False.elim z) he hpl;exact Zis M F hr hb hd I1.unwish r q
theorem ZdD {c:Expr}{a b:List Stmt}{tc:TT}{t u:TSx}(hc:PT X.nox c tc)(ha:PSsx X a t)(hb:PSsx X b u):PSx X (.If c a b pos) (sIfx tc t u):=by
 intro Bb s U H D Ex I h;refine wpAny_If (YBI (hc Bb s U H _ (I.wish _) h) (λd s1 ⟨H1,I1,q1⟩=>?_) λ_ _ z=>False.elim z);cases d with
 | true=>exact ha Bb s1 U H1 D Ex I1.unwish q1
 | false=>exact hb Bb s1 U H1 D Ex I1.unwish q1
end
def EN:XK:=λ_ _ _=>False
theorem ZaL:Zb1 (CXr X.prog X.w) X EN:=by intro _ _ _ _ _ _ _ h;obtain⟨_,_,_,_,_,_,_,_,_,_,_,_,_,_,_,z⟩:=h;exact z.elim
section
end
open PySem.W (Frag)
def infB (w l:Q11):Bool:=(List.range (l.length+1)).any λi=>decide (i+w.length<=l.length)&&decide ((l.drop i).take w.length=w)
theorem Zdq:infB w l=true↔Inf w l:=by
 unfold infB Inf AtW;rw[List.any_eq_true];constructor
 .rintro⟨i,_,h⟩;rw[YAP,decide_eq_true_eq,decide_eq_true_eq]at h;exact⟨i,h⟩
 .rintro⟨i,h1,h2⟩;refine⟨i,YBA.mpr (by omega),?_⟩;rw[YAP,decide_eq_true_eq,decide_eq_true_eq];exact⟨h1,h2⟩
theorem Zhb:infB w l=false↔¬Inf w l:=by rw[<-Zdq,Bool.not_eq_true]
theorem Zhd (w l:Q11):(!(Builtin.Str.occurrences ⟨l.toArray⟩ ⟨w.toArray⟩ 0 (⟨l.toArray⟩:Str).length 1).isEmpty)=infB w l:=by rw[YBU,StrLaws.found_iff,Zdq];exact⟨λ⟨i,h⟩=>⟨i,(Zb4 l w i).mp h⟩,λ⟨i,h⟩=>⟨i,(Zb4 l w i).mpr h⟩⟩
section
theorem Zg2:OpR X (compareOp .In) (λx y H Q=>∃w l,x=tx w/\y=tx l/\Q (.bl (infB w l)) H):=by rintro Bb s U H x y v u Q I rx ry ⟨w,l,rfl,rfl,q⟩;refine Zfx Bb s U H _ _ v u Q I rx ry ⟨_,_,rfl,rfl,?_⟩;rw[Zhd];exact q
theorem ZdH:OpR X (compareOp .NotIn) (λx y H Q=>∃w l,x=tx w/\y=tx l/\Q (.bl (!infB w l)) H):=by rintro Bb s U H x y v u Q I rx ry ⟨w,l,rfl,rfl,q⟩;refine Zdc Bb s U H _ _ v u Q I rx ry ⟨_,_,rfl,rfl,?_⟩;rw[Zhd];exact q
theorem upper_one:∀k,k<26->Unicode.upperOf (97+k)=[65+k]:=by decide +kernel
theorem ZdW {α β:Type}(g:α->β):∀l:List α,(l.map λx=>[g x]).flatten=l.map g
 | []=>rfl
 | x::l=>by rw[YAc,YBm,ZdW g l];rfl
theorem ZjM {l:Q11}(h:∀c∈l,97<=c/\c<=122):Txt.upper ⟨l.toArray⟩=⟨(l.map (· - 32)).toArray⟩:=by
 unfold Txt.upper placed;have e:(l.toArray.mapIdx λi c=>(Unicode.upperOf c).toArray)=(l.map λc=>#[c-32]).toArray:=by
  apply Array.ext';rw[Array.toList_mapIdx];apply YCQ (by simp);intro i h1 h2;have hi:i<l.length:=by simpa using h2
  obtain⟨b1,b2⟩:=h l[i] (YBr hi);have:=upper_one (l[i]-97) (by omega);have e1:97+(l[i]-97)=l[i]:=by omega
  have e2:65+(l[i]-97)=l[i]-32:=by omega
  rw[e1,e2]at this;simp[this]
 show (⟨(l.toArray.mapIdx λi c=>(Unicode.upperOf c).toArray).flatten⟩:Str)=_;rw[e];congr 1;apply Array.ext';rw[Array.toList_flatten];have:((l.map λc=>#[c-32]).toArray.toList.map Array.toList)=l.map λc=>[c-32]:=by simp
 simp only[YAu];rw[show (l.map (Array.toList ∘ λc=>#[c-32]))=l.map λc=>[c-32] from rfl,ZdW]
theorem ZiS:MtM X "str.upper" (λx vs H Q=>∃l,x=tx l/\vs=[]/\l.length<=1000/\(∀c∈l,97<=c/\c<=122)/\Q (tx (l.map (· - 32))) H):=by
 rintro Bb s U H x vs v us Q I rx rv ⟨l,rfl,rfl,hz,hc,q⟩;obtain⟨t,rfl⟩:=rx;cases rv;have hfit:(⟨l.toArray⟩:Str).length<=5592405:=by rw[Zdh];omega
 refine PyProof.Rows.SCL.upper hfit λhle=>?_;rw[ZjM hc];exact⟨tx (l.map (· - 32)),H,I.tok _,⟨s.toks,rfl⟩,q⟩
end
def rEqI (K:Frag)(neg:Bool):R2:=λx y H Q=>rEqS K neg x y H Q\/∃a b c,x=.ref a/\y=.ref b/\SqL K H a [.ref c]/\SqL K H b [.ref c]/\Q (.bl (!neg)) H
theorem Zk0 {X:Cx}{K:Frag}(hK:X.K=K)(hu:X.A.units+64<cLine):OpR X (compareOp .NotEq) (rEqI K true):=by
 intro Bb s U H x y v u Q I rx ry h;rcases h with h | ⟨a,b,c,rfl,rfl,h1,h2,q⟩
 .exact ZiJ hK hu Bb s U H x y v u Q I rx ry h
 .subst hK;cases rx;cases ry;obtain⟨its,r,p,_⟩:=I.list h1;obtain⟨its',r',p',_⟩:=I.list h2;obtain⟨w1,rfl,e1⟩:=r.one;obtain⟨w2,rfl,e2⟩:=r'.one;cases e1;cases e2;refine SeqAt.RcNeAt.lists (e:=λ_=>true) p.isList p'.isList rfl (by omega) (λj _ _=>SeqAt.EqAt.same _) _ _ _ _ ⟨.bl false,H,I,rfl,q⟩
theorem ZiR {K:Frag}{H:Hp}{Q:VK}{a b:AD}{v:V}(h1:H a=some (.lst [v]))(h2:H b=some (.lst [v]))(hv:Zbe v=true\/∃c,v=.ref c)(q:Q (.bl false) H):rEqI K true (.ref a) (.ref b) H Q:=by
 rcases hv with hf | ⟨c,rfl⟩
 .exact .inl (.inl (.inr ⟨_,_,datL (.mk h1) (by simp[hf]),datL (.mk h2) (by simp[hf]),λz=>YAC z.1,(ownL (K:=K) (.mk h1) (by simp[hf])).2.2,by rw[YAM rfl,show deq (DT.l ([v].map DT.f)) (DT.l ([v].map DT.f))=true from by unfold deq;exact ZbO (by simp[hf])];exact q⟩))
 .exact .inr ⟨a,b,c,rfl,rfl,.mk h1,.mk h2,q⟩
noncomputable def gal:Bool->Keyed->Array Keyed->Nat->Nat->Nat->StateT SortSt Sem (Option Nat):=sortPriv% PySem.Builtin.gallop
noncomputable def galB (bey:Nat->StateT SortSt Sem (Option Bool)) (n h:Nat):StateT SortSt Sem (Option Nat):=do
  let mut la:=0
  let mut o:=1
  let mut lo:=0
  let mut hi:=0
  let some rt <-bey h | return none
  if rt then
   let mx:=n-h
   for _ in [0:n] do
    if o>=mx then break
    let some mo <-bey (h+o) | return none
    if !mo then break
    la:=o
    o:=2*o+1
   lo:=h+la+1
   hi:=h+min o mx
  else
   let mx:=h+1
   for _ in [0:n] do
    if o>=mx then break
    let some fo <-bey (h-o) | return none
    if fo then break
    la:=o
    o:=2*o+1
   lo:=h+1-min o mx
   hi:=h-la
  for _ in [0:n] do
   if lo>=hi then break
   let m:=lo+(hi-lo)/2
   let some mo <-bey m | return none
   if mo then lo:=m+1 else hi:=m
  return some hi
noncomputable def beyOf (lf:Bool) (ky:Keyed) (ar:Array Keyed) (bs:Nat) (i:Nat):StateT SortSt Sem (Option Bool):=do
 let x <-elem' ar (bs+i)
 if lf then lt' x ky else return (<-lt' ky x).map (!·)
theorem Zos (lf:Bool)(ky:Keyed)(ar:Array Keyed)(bs n h:Nat):gal lf ky ar bs n h=galB (beyOf lf ky ar bs) n h:=rfl
noncomputable def galT (bey:Nat->StateT SortSt Sem (Option Bool)) (n l0 h0:Nat):StateT SortSt Sem (Option Nat):=do
  let mut lo:=l0
  let mut hi:=h0
  for _ in [0:n] do
   if lo>=hi then break
   let m:=lo+(hi-lo)/2
   let some mo <-bey m | return none
   if mo then lo:=m+1 else hi:=m
  return some hi
section
variable {M:Model}{A:AH}{E:Q33}{s:AE}{bey:Nat->StateT SortSt Sem (Option Bool)}{B:Nat->Bool}{n h:Nat}{st:SortSt}{Q:Option Nat->SortSt->Prop}
noncomputable def Parts (B:Nat->Bool) (n lo hi:Nat):Prop:=(∀i,i<lo->B i=true)/\∀i,hi<=i->i<n->B i=false
theorem Zmu {lo hi:Nat}(hb:∀i (Q:Option Bool->SortSt->Prop),i<n->Q (some (B i)) st->wpS M A E s (bey i) Q st)(mono:∀i j,i<=j->j<n->B j=true->B i=true)(h1:lo<=hi)(h2:hi<=n)(hp:Parts B n lo hi)
  (q:∀k,k<=n->Parts B n k k->Q (some k) st):wpS M A E s (galT bey n lo hi) Q st:=by
 unfold galT;refine YAO (YBy (YBS (I:=λi c st'=>st'=st/\∃lo hi,c=(none,lo,hi)/\lo<=hi/\hi<=n/\hi-lo<=n-i/\Parts B n lo hi) (Q:=λc st'=>st'=st/\∃k,c=(none,k,k)/\k<=n/\Parts B n k k) ?step ?fin ⟨rfl,lo,hi,rfl,h1,h2,by omega,hp⟩) ?post)
 case step=>
  rintro i c st' _ hi' ⟨rfl,lo,hi,rfl,h1,h2,h3,hp⟩;dsimp only;by_cases hl:lo>=hi
  .have e:lo=hi:=by omega
   subst e;rw[YAM hl];exact YAW ⟨rfl,lo,rfl,h2,hp⟩
  .rw[YAI hl];have hm1:lo<=lo+(hi-lo)/2:=by omega
   have hm2:lo+(hi-lo)/2<hi:=by omega
   generalize lo+(hi-lo)/2=m at hm1 hm2;refine YAO (hb m _ (by omega) ?_);cases hB:B m with
   | true=>exact YAW ⟨rfl,m+1,hi,rfl,by omega,h2,by omega,λi hi=>mono i m (by omega) (by omega) hB,hp.2⟩
   | false=>
    refine YAW ⟨rfl,lo,m,rfl,by omega,by omega,by omega,hp.1,λi hi hn=>?_⟩;cases hx:B i with
    | false=>rfl
    | true=>rw[mono m i hi hn hx]at hB;cases hB
 case fin=>
  rintro c st' ⟨rfl,lo,hi,rfl,h1,h2,h3,hp⟩;have e:lo=hi:=by omega
  subst e;exact⟨rfl,lo,rfl,h2,hp⟩
 case post=>
  rintro c st' ⟨rfl,k,rfl,hk,hp⟩;exact YAW (q k hk hp)
theorem Zmv (hh:h<n)
  (hb:∀i (Q:Option Bool->SortSt->Prop),i<n->Q (some (B i)) st->wpS M A E s (bey i) Q st) (mono:∀i j,i<=j->j<n->B j=true->B i=true)
  (q:∀k,k<=n->Parts B n k k->Q (some k) st):wpS M A E s (galB bey n h) Q st:=by
 have anti:∀ {i j},B i=false->i<=j->j<n->B j=false:=λ{i j} h1 h2 h3=>by
  cases hx:B j with
  | false=>rfl
  | true=>rw[mono i j h2 h3 hx]at h1;cases h1
 have jp:∀lo hi,lo<=hi->hi<=n->Parts B n lo hi->wpS M A E s (galT bey n lo hi) Q st:=λlo hi a b c=>Zmu hb mono a b c q;unfold galB;refine YAO (hb h _ hh ?_);cases hB:B h with
 | true=>
  dsimp only;rw[YAM rfl];refine YAO (YBy (YBS (I:=λi c st'=>st'=st/\∃la o,c=(none,la,o)/\i<o/\la<o/\h+la<n/\B (h+la)=true) (Q:=λc st'=>st'=st/\∃la o,c=(none,la,o)/\la<o/\h+la<n/\B (h+la)=true/\(n-h<=o\/B (h+o)=false)) ?step ?fin ⟨rfl,0,1,rfl,by omega,by omega,by omega,hB⟩) ?post)
  case step=>
   rintro i c st' _ hi' ⟨rfl,la,o,rfl,h1,h2,h3,h4⟩;dsimp only;by_cases hl:o>=n-h
   .rw[YAM hl];exact YAW ⟨rfl,la,o,rfl,h2,h3,h4,.inl hl⟩
   .rw[YAI hl];refine YAO (hb (h+o) _ (by omega) ?_);cases hx:B (h+o) with
    | false=>exact YAW ⟨rfl,la,o,rfl,h2,h3,h4,.inr hx⟩
    | true=>exact YAW ⟨rfl,o,2*o+1,rfl,by omega,by omega,by omega,hx⟩
  case fin=>
   rintro c st' ⟨rfl,la,o,rfl,h1,h2,h3,h4⟩;exact⟨rfl,la,o,rfl,h2,h3,h4,.inl (by omega)⟩
  case post=>
   rintro c st' ⟨rfl,la,o,rfl,h2,h3,h4,h5⟩;refine jp (h+la+1) (h+min o (n-h)) (by omega) (by omega) ⟨λi hi=>mono i (h+la) (by omega) h3 h4,λi hi hn=>?_⟩;rcases h5 with h5 | h5
   .omega
   .exact anti h5 (by omega) hn
 | false=>
  dsimp only;rw[YAI YAC];refine YAO (YBy (YBS (I:=λi c st'=>st'=st/\∃la o,c=(none,la,o)/\i<o/\la<o/\la<=h/\B (h-la)=false) (Q:=λc st'=>st'=st/\∃la o,c=(none,la,o)/\la<o/\la<=h/\B (h-la)=false/\(h+1<=o\/(o<=h/\B (h-o)=true))) ?step2 ?fin2 ⟨rfl,0,1,rfl,by omega,by omega,by omega,hB⟩) ?post2)
  case step2=>
   rintro i c st' _ hi' ⟨rfl,la,o,rfl,h1,h2,h3,h4⟩;dsimp only;by_cases hl:o>=h+1
   .rw[YAM hl];exact YAW ⟨rfl,la,o,rfl,h2,h3,h4,.inl hl⟩
   .rw[YAI hl];refine YAO (hb (h-o) _ (by omega) ?_);cases hx:B (h-o) with
    | true=>exact YAW ⟨rfl,la,o,rfl,h2,h3,h4,.inr ⟨by omega,hx⟩⟩
    | false=>exact YAW ⟨rfl,o,2*o+1,rfl,by omega,by omega,by omega,hx⟩
  case fin2=>
   rintro c st' ⟨rfl,la,o,rfl,h1,h2,h3,h4⟩;exact⟨rfl,la,o,rfl,h2,h3,h4,.inl (by omega)⟩
  case post2=>
   rintro c st' ⟨rfl,la,o,rfl,h2,h3,h4,h5⟩;refine jp (h+1-min o (h+1)) (h-la) (by omega) (by omega) ⟨λi hi=>?_,λi hi hn=>anti h4 hi hn⟩;rcases h5 with h5 | ⟨h5,h6⟩
   .omega
   .exact mono i (h-o) (by omega) (by omega) h6
end
structure Cmp (D:Keyed->Prop)(L:Keyed->Keyed->Bool):Prop where
 asym:∀x y,D x->D y->L x y=true->L y x=false
 tr:∀x y z,D x->D y->D z->L y x=false->L z y=false->L z x=false
abbrev Le (L:Keyed->Keyed->Bool)(x y:Keyed):Prop:=L y x=false
structure MS (D:Keyed->Prop)(L:Keyed->Keyed->Bool)(T:List Keyed)(o x y:List Keyed):Prop where
 perm:(o++(x++y)).Perm T
 so:o.Pairwise (Le L)
 ox:∀u∈o,∀v∈x,Le L u v
 oy:∀u∈o,∀v∈y,Le L u v
 sx:x.Pairwise (Le L)
 sy:y.Pairwise (Le L)
section
theorem MS.movX (h:MS D L T o (p++x) y)(hp:∀u∈p,∀v∈y,Le L u v):MS D L T (o++p) x y:=by
 obtain⟨h1,h2,h3,h4,h5,h6⟩:=h;rw[YBF]at h5;refine⟨by simpa [YAr] using h1,YBF.mpr ⟨h2,h5.1,λu hu v hv=>h3 u hu v (by simp[hv])⟩,?_,?_,h5.2.1,h6⟩
 .intro u hu v hv;rcases YAV.mp hu with hu | hu
  .exact h3 u hu v (by simp[hv])
  .exact h5.2.2 u hu v hv
 .intro u hu v hv;rcases YAV.mp hu with hu | hu
  .exact h4 u hu v hv
  .exact hp u hu v hv
theorem MS.swap (h:MS D L T o x y):MS D L T o y x:=
 ⟨(List.Perm.append_left o List.perm_append_comm).trans h.perm,h.so,h.oy,h.ox,h.sy,h.sx⟩
theorem MS.movY (h:MS D L T o x (p++y))(hp:∀u∈p,∀v∈x,Le L u v):MS D L T (o++p) x y:=(h.swap.movX hp).swap
theorem MS.fin (h:MS D L T o x []):(o++x).Perm T/\(o++x).Pairwise (Le L):=
 ⟨by simpa using h.perm,YBF.mpr ⟨h.so,h.sx,h.ox⟩⟩
theorem MS.all (h:MS D L T o x y)(hxy:∀u∈x,∀v∈y,Le L u v):(o++x++y).Perm T/\(o++x++y).Pairwise (Le L):=by have:=(MS.movX (x:=[]) (by simpa using h) hxy).swap.fin;simpa using this
end
noncomputable def mLo:Array Keyed->Array Keyed->StateT SortSt Sem (Array Keyed):=sortPriv% PySem.Builtin.mergeLo
abbrev ZaH (st:SortSt)(g:Nat):SortSt:=SortSt.mk' (kindOf st) (arrOf st) (pendingOf st) g (failedOf st)
noncomputable def setG (g:Nat):StateT SortSt Sem Unit:=modify λs=>ZaH s g
noncomputable def mLoB (p q:Array Keyed):StateT SortSt Sem (Array Keyed):=do
 rule "list.sort.merge-lo"
 let tt:=p.size+q.size
 let dn (o:Array Keyed) (i j:Nat):=o++p.extract i p.size++q.extract j q.size
 let lp (o:Array Keyed) (i j:Nat):=o++q.extract j q.size++p.extract i p.size
 let mut o:Array Keyed:=#[<-elem' q 0]
 let mut i:=0
 let mut j:=1
 if j == q.size then return dn o i j
 if i+1 == p.size then return lp o i j
 let mut mg:=gallopOf (<-get)
 for _ in [0:tt] do
  let mut ca:=0
  let mut cb:=0
  for _ in [0:tt] do
   let some wn <-lt' (<-elem' q j) (<-elem' p i) | return dn o i j
   if wn then
    o:=o.push (<-elem' q j);j:=j+1;cb:=cb+1;ca:=0
    if j == q.size then return dn o i j
    if cb>=mg then break
   else
    o:=o.push (<-elem' p i);i:=i+1;ca:=ca+1;cb:=0
    if i+1 == p.size then return lp o i j
    if ca>=mg then break
  rule "list.sort.gallop"
  mg:=mg+1
  for _ in [0:tt] do
   if mg>1 then mg:=mg-1
   setG mg
   let some k <-gal false (<-elem' q j) p i (p.size-i) 0 | return dn o i j
   ca:=k
   if k>0 then
    o:=o++p.extract i (i+k);i:=i+k
    if i+1 == p.size then return lp o i j
    if i == p.size then return dn o i j
   o:=o.push (<-elem' q j);j:=j+1
   if j == q.size then return dn o i j
   let some k <-gal true (<-elem' p i) q j (q.size-j) 0 | return dn o i j
   cb:=k
   if k>0 then
    o:=o++q.extract j (j+k);j:=j+k
    if j == q.size then return dn o i j
   o:=o.push (<-elem' p i);i:=i+1
   if i+1 == p.size then return lp o i j
   if ca<7&&cb<7 then break
  mg:=mg+1
  setG mg
 unsupported "internal:list.sort.merge-bound"
theorem ZnW (p q:Array Keyed):mLo p q=mLoB p q:=rfl
section
noncomputable def PureC (M:Model) (A:AH) (E:Q33) (s:AE) (D:Keyed->Prop) (L:Keyed->Keyed->Bool) (kd:SortKind):Prop:=
 ∀(st:SortSt) (x y:Keyed) (Q:Option Bool->SortSt->Prop),kindOf st=kd->D x->D y->Q (some (L x y)) st->wpS M A E s (lt' x y) Q st
theorem Za6 {ar:Array Keyed}{i:Nat}{x:Keyed}{Q:Keyed->SortSt->Prop}{st:SortSt}(h:ar[i]?=some x)(q:Q x st):wpS M A E s (elem' ar i) Q st:=by rw[elem'_eq,h];exact YAW q
theorem Zer (hC:Cmp D L)(hP:PureC M A E s D L kd){lf:Bool}{ky:Keyed}{ar:Array Keyed}{bs n h:Nat}{st:SortSt}{Q:Option Nat->SortSt->Prop}(hk:kindOf st=kd)
  (hn:bs+n<=ar.size) (hh:h<n) (hy:D ky) (hd:∀u∈ar.toList,D u) (hs:((ar.toList.drop bs).take n).Pairwise (Le L))
  (q:∀k,k<=n->(∀u∈((ar.toList.drop bs).take n).take k,if lf then L u ky=true else Le L u ky)->(∀u∈((ar.toList.drop bs).take n).drop k,if lf then Le L ky u else L ky u=true)->Q (some k) st):
  wpS M A E s (gal lf ky ar bs n h) Q st:=by
 rw[Zos];obtain⟨xs,hxs⟩:∃xs,xs=(ar.toList.drop bs).take n:=⟨_,rfl⟩;rw[<-hxs]at hs q;have Bd:xs.length=n:=by rw[hxs,YAa,YAk,YAR];omega
 have hat:∀i (hi:i<xs.length),ar[bs+i]?=some xs[i]:=by intro i hi;have:xs[i]?=some xs[i]:=YAN hi;rw[<-this,hxs,YCq,YAM (by omega),YCr,YAo]
 have hdx:∀u∈xs,D u:=λu hu=>hd u (YAb (YAe (hxs▸hu)));refine Zmv (B:=λi=>if hi:i<xs.length then (if lf then L xs[i] ky else !L ky xs[i]) else false) hh ?_ ?_ ?_
 .intro i Q hi hq;have hi':i<xs.length:=by omega
  rw[dif_pos hi']at hq;refine YAO (Za6 (hat i hi') ?_);have hD:=hdx _ (YBr hi');cases lf with
  | true=>exact hP st _ _ _ hk hD hy hq
  | false=>exact YAO (hP st _ _ _ hk hy hD (YAW hq))
 .intro i j hij hj;have hj':j<xs.length:=by omega
  have hi':i<xs.length:=by omega
  rw[dif_pos hj',dif_pos hi'];by_cases e:i=j
  .subst e;exact id
  .have hle:Le L xs[i] xs[j]:=YDR.mp hs i j hi' hj' (by omega);have hDi:=hdx _ (YBr hi');have hDj:=hdx _ (YBr hj');cases lf with
   | true=>
    rw[YAM rfl,YAM rfl];intro h1;cases h2:L xs[i] ky with
    | true=>rfl
    | false=>rw[hC.tr ky _ _ hy hDi hDj h2 hle]at h1;cases h1
   | false=>
    rw[YAI YAC,YAI YAC];intro h1;rw[Bool.not_eq_true']at h1 ⊢;exact hC.tr _ _ ky hDi hDj hy hle h1
 .intro k hk' hp;refine q k hk' (λu hu=>?_) (λu hu=>?_)
  .obtain⟨i,hi,rfl⟩:=YCN hu;rw[YAa]at hi;have:=hp.1 i (by omega);dsimp only at this;rw[dif_pos (by omega)]at this;rw[List.getElem_take];cases lf with
   | true=>exact this
   | false=>simpa using this
  .obtain⟨i,hi,rfl⟩:=YCN hu;rw[YAk]at hi;have:=hp.2 (k+i) (by omega) (by omega);dsimp only at this;rw[dif_pos (by omega)]at this;rw[List.getElem_drop];cases lf with
   | true=>exact this
   | false=>simpa using this
end
abbrev LoC:=Option (Array Keyed)×Array Keyed×Nat×Nat×Nat×Nat×Nat
noncomputable def dnf (p q o:Array Keyed) (i j:Nat):Array Keyed:=o++p.extract i p.size++q.extract j q.size
noncomputable def lpf (p q o:Array Keyed) (i j:Nat):Array Keyed:=o++q.extract j q.size++p.extract i p.size
noncomputable def loE (p q o:Array Keyed) (i j mg ca cb:Nat):StateT SortSt Sem (ForInStep LoC):=do
 let e <-elem' p i
 if (i+1+1 == p.size)=true then pure (ForInStep.done (some (lpf p q (o.push e) (i+1) j),o.push e,i+1,j,mg,ca,cb))
 else if (decide (ca<7)&&decide (cb<7))=true then pure (ForInStep.done (none,o.push e,i+1,j,mg,ca,cb))
 else pure (ForInStep.yield (none,o.push e,i+1,j,mg,ca,cb))
noncomputable def loD (p q o:Array Keyed) (i j mg ca cb:Nat):StateT SortSt Sem (ForInStep LoC):=do
 let e <-elem' q j
 if (j+1 == q.size)=true then pure (ForInStep.done (some (dnf p q (o.push e) i (j+1)),o.push e,i,j+1,mg,ca,cb))
 else do
  let some k <-gal true (<-elem' p i) q (j+1) (q.size-(j+1)) 0 | pure (ForInStep.done (some (dnf p q (o.push e) i (j+1)),o.push e,i,j+1,mg,ca,cb))
  if k>0 then
   if (j+1+k == q.size)=true then pure (ForInStep.done (some (dnf p q (o.push e++q.extract (j+1) (j+1+k)) i (j+1+k)),o.push e++q.extract (j+1) (j+1+k),i,j+1+k,mg,ca,k))
   else loE p q (o.push e++q.extract (j+1) (j+1+k)) i (j+1+k) mg ca k
  else loE p q (o.push e) i (j+1) mg ca k
noncomputable def loF (p q o:Array Keyed) (i j mg ca cb:Nat):StateT SortSt Sem (ForInStep LoC):=do
 setG mg
 let some k <-gal false (<-elem' q j) p i (p.size-i) 0 | pure (ForInStep.done (some (dnf p q o i j),o,i,j,mg,ca,cb))
 if k>0 then
  if (i+k+1 == p.size)=true then pure (ForInStep.done (some (lpf p q (o++p.extract i (i+k)) (i+k) j),o++p.extract i (i+k),i+k,j,mg,k,cb))
  else if (i+k == p.size)=true then pure (ForInStep.done (some (dnf p q (o++p.extract i (i+k)) (i+k) j),o++p.extract i (i+k),i+k,j,mg,k,cb))
  else loD p q (o++p.extract i (i+k)) (i+k) j mg k cb
 else loD p q o i j mg k cb
section
variable {M:Model}{A:AH}{E:Q33}{s:AE}{D:Keyed->Prop}{L:Keyed->Keyed->Bool}{kd:SortKind}{p q:Array Keyed}{T:List Keyed}{st:SortSt}
structure LoI (D:Keyed->Prop)(L:Keyed->Keyed->Bool)(p q:Array Keyed)(T:List Keyed)(o:Array Keyed)(i j:Nat):Prop where
 ms:MS D L T o.toList (p.toList.drop i) (q.toList.drop j)
 li:i+1<p.size
 lj:j<q.size
noncomputable def Fin1 (L:Keyed->Keyed->Bool) (T:List Keyed) (z:Array Keyed):Prop:=z.toList.Perm T/\z.toList.Pairwise (Le L)
theorem ZfZ (h:p[i]?=some e):p.toList.drop i=e::p.toList.drop (i+1):=by obtain⟨hi,rfl⟩:=YBz.mp h;rw[<-Array.getElem_toList];exact YCD (by simpa using hi)
theorem at? (h:i<p.size):∃e,p[i]?=some e/\e∈p.toList:=⟨p[i],getElem?_pos p i h,by simp⟩
theorem ZkB (p q o:Array Keyed)(i j:Nat):(dnf p q o i j).toList=o.toList++p.toList.drop i++q.toList.drop j:=by unfold dnf;rw[YBL,YBL,YBG,YBG,List.extract,List.extract,YAp (by simp),YAp (by simp)]
theorem Zkl (p q o:Array Keyed)(i j:Nat):(lpf p q o i j).toList=o.toList++q.toList.drop j++p.toList.drop i:=by unfold lpf;rw[YBL,YBL,YBG,YBG,List.extract,List.extract,YAp (by simp),YAp (by simp)]
theorem ZfX (p:Array Keyed)(i k:Nat):(p.extract i (i+k)).toList=(p.toList.drop i).take k:=by simp[YBG,List.extract]
theorem Zev (l:List Keyed)(i k:Nat):l.drop i=(l.drop i).take k++l.drop (i+k):=by rw[<-YCg,YAs]
structure LoH (D:Keyed->Prop)(L:Keyed->Keyed->Bool)(p q:Array Keyed):Prop where
 dp:∀u∈p.toList,D u
 dq:∀u∈q.toList,D u
 sp:p.toList.Pairwise (Le L)
 sq:q.toList.Pairwise (Le L)
 last:∀u∈q.toList,∀v∈p.toList.drop (p.size-1),L u v=true
theorem LoH.fin_lp (hH:LoH D L p q)(hC:Cmp D L)(h:MS D L T o.toList (p.toList.drop i) (q.toList.drop j))(e:i+1=p.size):Fin1 L T (lpf p q o i j):=by
 unfold Fin1;rw[Zkl];refine h.swap.all λu hu v hv=>?_;have hu:=YAb hu;have e':i=p.size-1:=by omega
 subst e';exact hC.asym _ _ (hH.dq u hu) (hH.dp v (YAb hv)) (hH.last u hu v hv)
theorem Zhe (h:MS D L T o.toList (p.toList.drop i) (q.toList.drop j))(e:j=q.size):Fin1 L T (dnf p q o i j):=by unfold Fin1;rw[ZkB];have e2:q.toList.drop j=[]:=YCU (by simp;omega);rw[e2]at h ⊢;simpa using h.fin
noncomputable def LoQ (D:Keyed->Prop) (L:Keyed->Keyed->Bool) (p q:Array Keyed) (T:List Keyed) (w:Nat) (c:LoC):Prop:=
 ∃r o i j mg ca cb,c=(r,o,i,j,mg,ca,cb)/\((∃z,r=some z/\Fin1 L T z)\/(r=none/\LoI D L p q T o i j/\w<=i+j))
noncomputable def LoY (D:Keyed->Prop) (L:Keyed->Keyed->Bool) (p q:Array Keyed) (T:List Keyed) (w:Nat) (c:LoC):Prop:=
 ∃o i j mg ca cb,c=(none,o,i,j,mg,ca,cb)/\LoI D L p q T o i j/\w<=i+j
noncomputable def LoP (D:Keyed->Prop) (L:Keyed->Keyed->Bool) (p q:Array Keyed) (T:List Keyed) (w:Nat) (st:SortSt) (r:ForInStep LoC) (st':SortSt):Prop:=
 (∃g,st'=ZaH st g)/\match r with | .done c=>LoQ D L p q T w c | .yield c=>LoY D L p q T w c
theorem Zk3 (hH:LoH D L p q)(hC:Cmp D L)(hi:i+1<p.size)(hj:j<q.size)(hw:w<=i+1+j)(h:MS D L T o.toList (p.toList.drop i) (q.toList.drop j))
  (hle:∀u∈(p.toList.drop i).take 1,∀v∈q.toList.drop j,Le L u v):wpS M A E s (loE p q o i j mg ca cb) (LoP D L p q T w st) (ZaH st g):=by
 obtain⟨e,he,hm⟩:=at? (p:=p) (i:=i) (by omega);have hd:=ZfZ he;have h2:MS D L T (o.push e).toList (p.toList.drop (i+1)) (q.toList.drop j):=by rw[YBY];rw[hd]at h hle;exact MS.movX (p:=[e]) h (λu hu v hv=>hle u (by simpa using hu) v hv)
 unfold loE;refine YAO (Za6 he ?_);by_cases c1:i+1+1=p.size
 .rw[YAM (by simpa using c1)];exact YAW ⟨⟨g,rfl⟩,_,_,_,_,_,_,_,rfl,.inl ⟨_,rfl,hH.fin_lp hC h2 c1⟩⟩
 .rw[YAI (by simpa using c1)];have hI:LoI D L p q T (o.push e) (i+1) j:=⟨h2,by omega,hj⟩;split
  .exact YAW ⟨⟨g,rfl⟩,_,_,_,_,_,_,_,rfl,.inr ⟨rfl,hI,hw⟩⟩
  .exact YAW ⟨⟨g,rfl⟩,_,_,_,_,_,_,rfl,hI,hw⟩
theorem Zk4 (hH:LoH D L p q)(hC:Cmp D L)(hP:PureC M A E s D L kd)(hk:kindOf st=kd)(hi:i+1<p.size)(hj:j<q.size)(hw:w<=i+1+j)(h:MS D L T o.toList (p.toList.drop i) (q.toList.drop j))
  (hle:∀u∈(q.toList.drop j).take 1,∀v∈p.toList.drop i,Le L u v):wpS M A E s (loD p q o i j mg ca cb) (LoP D L p q T w st) (ZaH st g):=by
 obtain⟨e,he,hm⟩:=at? (p:=q) (i:=j) hj;obtain⟨x,hx,hxm⟩:=at? (p:=p) (i:=i) (by omega);have hd:=ZfZ he;have h2:MS D L T (o.push e).toList (p.toList.drop i) (q.toList.drop (j+1)):=by rw[YBY];rw[hd]at h hle;exact MS.movY (p:=[e]) h (λu hu v hv=>hle u (by simpa using hu) v hv)
 unfold loD;refine YAO (Za6 he ?_);by_cases c1:j+1=q.size
 .rw[YAM (by simpa using c1)];exact YAW ⟨⟨g,rfl⟩,_,_,_,_,_,_,_,rfl,.inl ⟨_,rfl,Zhe h2 c1⟩⟩
 .rw[YAI (by simpa using c1)];refine YAO (Za6 hx ?_);have et:(q.toList.drop (j+1)).take (q.size-(j+1))=q.toList.drop (j+1):=YAp (by simp);refine YAO (Zer hC hP (by exact hk) (by omega) (by omega) (hH.dp x hxm) hH.dq (by rw[et];exact h2.sy) ?_);rw[et];intro k hkn ha hb;replace ha:∀u∈(q.toList.drop (j+1)).take k,L u x=true:=ha;replace hb:∀u∈(q.toList.drop (j+1)).drop k,Le L x u:=hb;dsimp only;have hpd:=ZfZ hx;have hsx:=h2.sx;rw[hpd,YBC]at hsx;have xle:∀v∈p.toList.drop i,Le L x v:=by
   intro v hv;rw[hpd]at hv;rcases YAE.mp hv with rfl | hv
   .cases hx:L v v with
    | false=>exact hx
    | true=>exact hC.asym v v (hH.dp v hxm) (hH.dp v hxm) hx
   .exact hsx.1 v hv
  have h3:MS D L T (o.push e++q.extract (j+1) (j+1+k)).toList (p.toList.drop i) (q.toList.drop (j+1+k)):=by rw[YBL,ZfX];rw[Zev q.toList (j+1) k]at h2;refine h2.movY λu hu v hv=>?_;have hDu:=hH.dq u (YAb (YAe hu));exact hC.tr u x v hDu (hH.dp x hxm) (hH.dp v (YAb hv)) (hC.asym u x hDu (hH.dp x hxm) (ha u hu)) (xle v hv)
  have hle2:∀u∈(p.toList.drop i).take 1,∀v∈q.toList.drop (j+1+k),Le L u v:=by
   intro u hu v hv;rw[hpd]at hu;have:u=x:=by simpa using hu
   subst this;exact hb v (by rwa [YCg])
  by_cases hk0:k>0
  .rw[YAM hk0];by_cases c2:j+1+k=q.size
   .rw[YAM (by simpa using c2)];exact YAW ⟨⟨g,rfl⟩,_,_,_,_,_,_,_,rfl,.inl ⟨_,rfl,Zhe h3 c2⟩⟩
   .rw[YAI (by simpa using c2)];exact Zk3 hH hC hi (by omega) (by omega) h3 hle2
  .rw[YAI hk0];have:k=0:=by omega
   subst this;exact Zk3 hH hC hi (by omega) (by omega) h2 hle2
theorem Zn1 (hH:LoH D L p q)(hC:Cmp D L)(hP:PureC M A E s D L kd)(hk:kindOf st=kd)(hw:w<=i+1+j)(hI:LoI D L p q T o i j):
  wpS M A E s (loF p q o i j mg ca cb) (LoP D L p q T w st) (ZaH st g):=by
 obtain⟨h,hi,hj⟩:=hI;obtain⟨x,hx,hxm⟩:=at? (p:=q) (i:=j) hj;have hqd:=ZfZ hx;have hsy:=h.sy;rw[hqd,YBC]at hsy;have xle:∀v∈q.toList.drop j,Le L x v:=by
  intro v hv;rw[hqd]at hv;rcases YAE.mp hv with rfl | hv
  .cases hx:L v v with
   | false=>exact hx
   | true=>exact hC.asym v v (hH.dq v hxm) (hH.dq v hxm) hx
  .exact hsy.1 v hv
 unfold loF;refine YAO (YCF ?_);refine YAO (Za6 hx ?_);have et:(p.toList.drop i).take (p.size-i)=p.toList.drop i:=YAp (by simp);refine YAO (Zer hC hP (by exact hk) (by omega) (by omega) (hH.dq x hxm) hH.dp (by rw[et];exact h.sx) ?_);rw[et];intro k hkn ha hb;replace ha:∀u∈(p.toList.drop i).take k,Le L u x:=ha;replace hb:∀u∈(p.toList.drop i).drop k,L x u=true:=hb;dsimp only;have h3:MS D L T (o++p.extract i (i+k)).toList (p.toList.drop (i+k)) (q.toList.drop j):=by rw[YBL,ZfX];rw[Zev p.toList i k]at h;refine h.movX λu hu v hv=>?_;exact hC.tr u x v (hH.dp u (YAb (YAe hu))) (hH.dq x hxm) (hH.dq v (YAb hv)) (ha u hu) (xle v hv)
 have hle2:∀u∈(q.toList.drop j).take 1,∀v∈p.toList.drop (i+k),Le L u v:=by
  intro u hu v hv;rw[hqd]at hu;have:u=x:=by simpa using hu
  subst this;have hv':v∈(p.toList.drop i).drop k:=by rwa [YCg]
  exact hC.asym u v (hH.dq u hxm) (hH.dp v (YAb hv)) (hb v hv')
 have hlast:i+k≠p.size:=by
  intro e;obtain⟨y,hy,hym⟩:=at? (p:=p) (i:=p.size-1) (by omega);have hyd:=ZfZ hy;have h5:=hH.last x hxm y (by rw[hyd];simp);have hy2:y∈(p.toList.drop i).take k:=by
   rw[YAp (by simp;omega)];have:y∈p.toList.drop (p.size-1):=by rw[hyd];simp
   rw[show p.size-1=i+(p.size-1-i) by omega,<-YCg]at this;exact YAb this
  have h6:=ha y hy2;rw[show L x y=false from h6]at h5;cases h5
 by_cases hk0:k>0
 .rw[YAM hk0];by_cases c2:i+k+1=p.size
  .rw[YAM (by simpa using c2)];exact YAW ⟨⟨_,rfl⟩,_,_,_,_,_,_,_,rfl,.inl ⟨_,rfl,hH.fin_lp hC h3 c2⟩⟩
  .rw[YAI (by simpa using c2),YAI (by simpa using hlast)];exact Zk4 hH hC hP hk (by omega) hj (by omega) h3 hle2
 .rw[YAI hk0];have:k=0:=by omega
  subst this;exact Zk4 hH hC hP hk hi hj hw h hle2
theorem Zeq {β γ:Type}{r:Std.Legacy.Range}{i:β}{F:Nat->β->StateT SortSt Sem (ForInStep β)}{G:β->StateT SortSt Sem γ}{M:Model}{A:AH}{E:Q33}{s:AE}{Q:γ->SortSt->Prop}{st:SortSt}(h:let F':=F;let G':=G;wpS M A E s (forIn r i F' >>= G') Q st):wpS M A E s (forIn r i F >>= G) Q st:=h
theorem ZnV (hH:LoH D L p q)(hC:Cmp D L)(hP:PureC M A E s D L kd)(hk:kindOf st=kd)(hp:0<p.size)(hq:0<q.size)
  (h0:∀u∈q.toList.take 1,∀v∈p.toList,Le L u v) (hQ:∀z g,Fin1 L (p.toList++q.toList) z->Q z (ZaH st g)):wpS M A E s (mLo p q) Q st:=by
 rw[ZnW];unfold mLoB;obtain⟨e,he,hm⟩:=at? (p:=q) (i:=0) hq;have hd:q.toList=e::q.toList.drop 1:=by simpa using ZfZ he
 have h1:MS D L (p.toList++q.toList) (#[e]:Array Keyed).toList (p.toList.drop 0) (q.toList.drop 1):=by have:MS D L (p.toList++q.toList) [] p.toList ([e]++q.toList.drop 1):=⟨by rw[hd];simp,List.Pairwise.nil,by simp,by simp,hH.sp,by have:=hH.sq;rw[hd]at this;exact this⟩;refine this.movY λu hu v hv=>h0 u ?_ v hv;rw[hd];simpa using hu
 refine YAO (wpS_lift (YCH ⟨rfl,?_⟩));refine YAO (Za6 he ?_);by_cases c1:1=q.size
 .rw[YAM (by simpa using c1)];exact YAW (hQ _ _ (Zhe h1 c1))
 rw[YAI (by simpa using c1)];by_cases c2:0+1=p.size
 .rw[YAM (by simpa using c2)];exact YAW (hQ _ _ (hH.fin_lp hC h1 c2))
 rw[YAI (by simpa using c2)];refine YAO (YDH ?_);have hI:LoI D L p q (p.toList++q.toList) #[e] 0 1:=⟨h1,by omega,by omega⟩;generalize p.toList++q.toList=T at hI hQ;refine Zeq ?_;intro F1 G1;refine YAO (YBy (YBS (I:=λx c st'=>∃g,st'=ZaH st g/\∃o i j mg,c=(none,o,i,j,mg)/\LoI D L p q T o i j/\x<=i+j)
  (Q:=λc st'=>∃g,st'=ZaH st g/\∃z o i j mg,c=(some z,o,i,j,mg)/\Fin1 L T z) ?step ?fin ⟨gallopOf st,rfl,_,_,_,_,rfl,hI,by omega⟩) ?post)
 case post=>
  rintro c st' ⟨g,rfl,z,o,i,j,mg,rfl,hz⟩;exact YAW (hQ z g hz)
 case fin=>
  rintro c st' ⟨g,rfl,o,i,j,mg,rfl,hI,hx⟩;have:=hI.li;have:=hI.lj;omega
 case step=>
  rintro x c st' _ hx ⟨g,rfl,o,i,j,mg,rfl,hI,hxi⟩;dsimp only[F1];refine Zeq ?_;intro F2 G2;refine YAO (YBy (YBS (I:=λy c st'=>st'=ZaH st g/\∃o i j ca cb,c=(none,o,i,j,ca,cb)/\LoI D L p q T o i j/\y+x<=i+j)
   (Q:=λc st'=>st'=ZaH st g/\∃r o i j ca cb,c=(r,o,i,j,ca,cb)/\((∃z,r=some z/\Fin1 L T z)\/(r=none/\LoI D L p q T o i j/\x+1<=i+j))) ?s1 ?f1 ⟨rfl,_,_,_,_,_,rfl,hI,by omega⟩) ?p1)
  case f1=>
   rintro c st' ⟨rfl,o,i,j,ca,cb,rfl,hI,hx⟩;have:=hI.li;have:=hI.lj;omega
  case s1=>
   rintro y c st' _ hy ⟨rfl,o,i,j,ca,cb,rfl,hI,hxi⟩;obtain⟨h,hi,hj⟩:=hI;obtain⟨u,hu,hum⟩:=at? (p:=q) (i:=j) hj;obtain⟨v,hv,hvm⟩:=at? (p:=p) (i:=i) (by omega);have hDu:=hH.dq u hum;have hDv:=hH.dp v hvm;have hqd:=ZfZ hu;have hpd:=ZfZ hv;have hsx:=h.sx;have hsy:=h.sy;rw[hpd,YBC]at hsx;rw[hqd,YBC]at hsy;dsimp only[F2];refine YAO (Za6 hu (YAO (Za6 hv (YAO (hP _ _ _ _ hk hDu hDv ?_)))));dsimp only;cases hL:L u v with
   | true=>
    rw[YAM rfl];refine YAO (Za6 hu ?_);have h2:MS D L T (o.push u).toList (p.toList.drop i) (q.toList.drop (j+1)):=by
     rw[YBY];rw[hqd]at h;refine MS.movY (p:=[u]) h λa ha b hb=>?_;have ha:a=u:=by simpa using ha
     subst ha;have hav:Le L a v:=hC.asym _ _ hDu hDv hL;rw[hpd]at hb;rcases YAE.mp hb with rfl | hb
     .exact hav
     .exact hC.tr a v b hDu hDv (hH.dp b (YAb hb)) hav (hsx.1 b hb)
    by_cases c3:j+1=q.size
    .rw[YAM (by simpa using c3)];exact YAW ⟨rfl,_,_,_,_,_,_,rfl,.inl ⟨_,rfl,Zhe h2 c3⟩⟩
    .rw[YAI (by simpa using c3)];have hI:LoI D L p q T (o.push u) i (j+1):=⟨h2,hi,by omega⟩;split
     .exact YAW ⟨rfl,_,_,_,_,_,_,rfl,.inr ⟨rfl,hI,by omega⟩⟩
     .exact YAW ⟨rfl,_,_,_,_,_,rfl,hI,by omega⟩
   | false=>
    rw[YAI YAC];refine YAO (Za6 hv ?_);have h2:MS D L T (o.push v).toList (p.toList.drop (i+1)) (q.toList.drop j):=by
     rw[YBY];rw[hpd]at h;refine MS.movX (p:=[v]) h λa ha b hb=>?_;have ha:a=v:=by simpa using ha
     subst ha;rw[hqd]at hb;rcases YAE.mp hb with rfl | hb
     .exact hL
     .exact hC.tr a u b hDv hDu (hH.dq b (YAb hb)) hL (hsy.1 b hb)
    by_cases c3:i+1+1=p.size
    .rw[YAM (by simpa using c3)];exact YAW ⟨rfl,_,_,_,_,_,_,rfl,.inl ⟨_,rfl,hH.fin_lp hC h2 c3⟩⟩
    .rw[YAI (by simpa using c3)];have hI:LoI D L p q T (o.push v) (i+1) j:=⟨h2,by omega,hj⟩;split
     .exact YAW ⟨rfl,_,_,_,_,_,_,rfl,.inr ⟨rfl,hI,by omega⟩⟩
     .exact YAW ⟨rfl,_,_,_,_,_,rfl,hI,by omega⟩
  case p1=>
   rintro c st' ⟨rfl,r,o,i,j,ca,cb,rfl,⟨z,rfl,hz⟩|⟨rfl,hI,hw⟩⟩
   .exact YAW ⟨g,rfl,z,o,i,j,mg,rfl,hz⟩
   .dsimp only[G2];refine YAO (wpS_lift (YCH ⟨rfl,?_⟩));refine Zeq ?_;intro F3 G3;refine YAO (YBy (YBS (I:=λy c st'=>(∃g,st'=ZaH st g)/\LoY D L p q T (y+(x+1)) c)
     (Q:=λc st'=>(∃g,st'=ZaH st g)/\LoQ D L p q T (x+1) c) ?s2 ?f2 ⟨⟨g,rfl⟩,_,_,_,_,_,_,rfl,hI,by omega⟩) ?p2)
    case f2=>
     rintro c st' ⟨_,o,i,j,mg,ca,cb,rfl,hI,hx⟩;have:=hI.li;have:=hI.lj;omega
    case p2=>
     rintro c st' ⟨⟨g,rfl⟩,r,o,i,j,mg,ca,cb,rfl,⟨z,rfl,hz⟩|⟨rfl,hI,hw⟩⟩
     .exact YAW ⟨g,rfl,z,o,i,j,mg,rfl,hz⟩
     .exact YAO (YCF (YAW ⟨_,rfl,_,_,_,_,rfl,hI,hw⟩))
    case s2=>
     rintro y c st' _ hy ⟨⟨g,rfl⟩,o,i,j,mg,ca,cb,rfl,hI,hw⟩;have key:∀mg,wpS M A E s (loF p q o i j mg ca cb) (λr st'=>match r with | .done c'=>(∃g,st'=ZaH st g)/\LoQ D L p q T (x+1) c' | .yield c'=>(∃g,st'=ZaH st g)/\LoY D L p q T (y+1+(x+1)) c') (ZaH st g):=by
      intro mg;refine YBy (Zn1 (w:=y+1+(x+1)) hH hC hP hk (by omega) hI) ?_;rintro r st' ⟨hg,hr⟩;cases r with
      | done c=>
       obtain⟨r,o,i,j,mg,ca,cb,rfl,h | ⟨rfl,hI,hw⟩⟩:=hr
       .exact⟨hg,r,o,i,j,mg,ca,cb,rfl,.inl h⟩
       .exact⟨hg,none,o,i,j,mg,ca,cb,rfl,.inr ⟨rfl,hI,by omega⟩⟩
      | yield c=>exact⟨hg,hr⟩
     have key2:wpS M A E s (if mg>1 then loF p q o i j (mg-1) ca cb else loF p q o i j mg ca cb) (λr st'=>match r with | .done c'=>(∃g,st'=ZaH st g)/\LoQ D L p q T (x+1) c' | .yield c'=>(∃g,st'=ZaH st g)/\LoY D L p q T (y+1+(x+1)) c') (ZaH st g):=by
      split
      .exact key _
      .exact key _
     refine YBy (Q:=λr st'=>match r with | .done c'=>(∃g,st'=ZaH st g)/\LoQ D L p q T (x+1) c' | .yield c'=>(∃g,st'=ZaH st g)/\LoY D L p q T (y+1+(x+1)) c') ?_ (λr st' hr=>by cases r<;>exact hr);by_cases hmg:mg>1
     .dsimp only[F3];rw[YAM hmg];exact key (mg-1)
     .dsimp only[F3];rw[YAI hmg];exact key mg
end
noncomputable def mHi:Array Keyed->Array Keyed->StateT SortSt Sem (Array Keyed):=sortPriv% PySem.Builtin.mergeHi
noncomputable def mHiB (p q:Array Keyed):StateT SortSt Sem (Array Keyed):=do
 rule "list.sort.merge-hi"
 let tt:=p.size+q.size
 let dn (o:Array Keyed) (i j:Nat):=p.extract 0 i++q.extract 0 j++o.reverse
 let fb (o:Array Keyed) (i j:Nat):=q.extract 0 j++p.extract 0 i++o.reverse
 let mut i:=p.size-1
 let mut j:=q.size
 let mut o:Array Keyed:=#[<-elem' p i]
 if i == 0 then return dn o i j
 if j == 1 then return fb o i j
 let mut mg:=gallopOf (<-get)
 for _ in [0:tt] do
  let mut ca:=0
  let mut cb:=0
  for _ in [0:tt] do
   let some wn <-lt' (<-elem' q (j-1)) (<-elem' p (i-1)) | return dn o i j
   if wn then
    i:=i-1;o:=o.push (<-elem' p i);ca:=ca+1;cb:=0
    if i == 0 then return dn o i j
    if ca>=mg then break
   else
    j:=j-1;o:=o.push (<-elem' q j);cb:=cb+1;ca:=0
    if j == 1 then return fb o i j
    if cb>=mg then break
  rule "list.sort.gallop"
  mg:=mg+1
  for _ in [0:tt] do
   if mg>1 then mg:=mg-1
   setG mg
   let some a <-gal false (<-elem' q (j-1)) p 0 i (i-1) | return dn o i j
   let k:=i-a
   ca:=k
   if k>0 then
    o:=o++(p.extract a i).reverse;i:=a
    if i == 0 then return dn o i j
   j:=j-1;o:=o.push (<-elem' q j)
   if j == 1 then return fb o i j
   let some a <-gal true (<-elem' p (i-1)) q 0 j (j-1) | return dn o i j
   let k:=j-a
   cb:=k
   if k>0 then
    o:=o++(q.extract a j).reverse;j:=a
    if j == 1 then return fb o i j
    if j == 0 then return dn o i j
   i:=i-1;o:=o.push (<-elem' p i)
   if i == 0 then return dn o i j
   if ca<7&&cb<7 then break
  mg:=mg+1
  setG mg
 unsupported "internal:list.sort.merge-bound"
theorem ZnY (p q:Array Keyed):mHi p q=mHiB p q:=rfl
abbrev HiC:=Option (Array Keyed)×Nat×Nat×Array Keyed×Nat×Nat×Nat
noncomputable def dnh (p q o:Array Keyed) (i j:Nat):Array Keyed:=p.extract 0 i++q.extract 0 j++o.reverse
noncomputable def fbh (p q o:Array Keyed) (i j:Nat):Array Keyed:=q.extract 0 j++p.extract 0 i++o.reverse
noncomputable def hiE (p q o:Array Keyed) (i j mg ca cb:Nat):StateT SortSt Sem (ForInStep HiC):=do
 let e <-elem' p (i-1)
 if (i-1 == 0)=true then pure (ForInStep.done (some (dnh p q (o.push e) (i-1) j),i-1,j,o.push e,mg,ca,cb))
 else if (decide (ca<7)&&decide (cb<7))=true then pure (ForInStep.done (none,i-1,j,o.push e,mg,ca,cb))
 else pure (ForInStep.yield (none,i-1,j,o.push e,mg,ca,cb))
noncomputable def hiD (p q o:Array Keyed) (i j mg ca cb:Nat):StateT SortSt Sem (ForInStep HiC):=do
 let e <-elem' q (j-1)
 if (j-1 == 1)=true then pure (ForInStep.done (some (fbh p q (o.push e) i (j-1)),i,j-1,o.push e,mg,ca,cb))
 else do
  let some a <-gal true (<-elem' p (i-1)) q 0 (j-1) (j-1-1) | pure (ForInStep.done (some (dnh p q (o.push e) i (j-1)),i,j-1,o.push e,mg,ca,cb))
  if j-1-a>0 then
   if (a == 1)=true then pure (ForInStep.done (some (fbh p q (o.push e++(q.extract a (j-1)).reverse) i a),i,a,o.push e++(q.extract a (j-1)).reverse,mg,ca,j-1-a))
   else if (a == 0)=true then pure (ForInStep.done (some (dnh p q (o.push e++(q.extract a (j-1)).reverse) i a),i,a,o.push e++(q.extract a (j-1)).reverse,mg,ca,j-1-a))
   else hiE p q (o.push e++(q.extract a (j-1)).reverse) i a mg ca (j-1-a)
  else hiE p q (o.push e) i (j-1) mg ca (j-1-a)
noncomputable def hiF (p q o:Array Keyed) (i j mg ca cb:Nat):StateT SortSt Sem (ForInStep HiC):=do
 setG mg
 let some a <-gal false (<-elem' q (j-1)) p 0 i (i-1) | pure (ForInStep.done (some (dnh p q o i j),i,j,o,mg,ca,cb))
 if i-a>0 then
  if (a == 0)=true then pure (ForInStep.done (some (dnh p q (o++(p.extract a i).reverse) a j),a,j,o++(p.extract a i).reverse,mg,i-a,cb))
  else hiD p q (o++(p.extract a i).reverse) a j mg (i-a) cb
 else hiD p q o i j mg (i-a) cb
section
variable {M:Model}{A:AH}{E:Q33}{s:AE}{D:Keyed->Prop}{L:Keyed->Keyed->Bool}{kd:SortKind}{p q:Array Keyed}{T:List Keyed}{st:SortSt}
abbrev Fl (L:Keyed->Keyed->Bool):Keyed->Keyed->Bool:=λx y=>L y x
theorem ZkV {l:List Keyed}:l.reverse.Pairwise (Le (Fl L))↔l.Pairwise (Le L):=by rw[List.pairwise_reverse]
abbrev MR (D:Keyed->Prop)(L:Keyed->Keyed->Bool)(T:List Keyed)(p q o:Array Keyed)(i j:Nat):Prop:=MS D (Fl L) T o.toList (p.toList.take i).reverse (q.toList.take j).reverse
structure HiI (D:Keyed->Prop)(L:Keyed->Keyed->Bool)(p q:Array Keyed)(T:List Keyed)(o:Array Keyed)(i j:Nat):Prop where
 ms:MR D L T p q o i j
 li:0<i
 lj:1<j
 hi:i<=p.size
 hj:j<=q.size
structure HiH (D:Keyed->Prop)(L:Keyed->Keyed->Bool)(p q:Array Keyed):Prop where
 dp:∀u∈p.toList,D u
 dq:∀u∈q.toList,D u
 sp:p.toList.Pairwise (Le L)
 sq:q.toList.Pairwise (Le L)
 first:∀u∈q.toList.take 1,∀v∈p.toList,L u v=true
theorem Zhr (hi:0<i)(h:p[i-1]?=some e):p.toList.take i=p.toList.take (i-1)++[e]:=by obtain⟨i,rfl⟩:∃k,i=k+1:=⟨i-1,by omega⟩;rw[Nat.add_sub_cancel]at h ⊢;rw[List.take_succ,YAo,h];rfl
theorem ZjP (hi:0<i)(h:p[i-1]?=some e):(p.toList.take i).reverse=[e]++(p.toList.take (i-1)).reverse:=by rw[Zhr hi h,List.reverse_append];rfl
theorem Zeh (l:List Keyed){a i:Nat}(h:a<=i):(l.take i).reverse=((l.take i).drop a).reverse++(l.take a).reverse:=by
 rw[<-List.reverse_append];congr 1;have:l.take a=(l.take i).take a:=by rw[YCS,YBv h]
 rw[this,YAs]
theorem Zou (p:Array Keyed)(a i:Nat):(p.extract a i).reverse.toList=((p.toList.take i).drop a).reverse:=by rw[Array.toList_reverse,YBG,List.extract,List.drop_take]
theorem ZkA (p q o:Array Keyed)(i j:Nat):(dnh p q o i j).toList=p.toList.take i++q.toList.take j++o.toList.reverse:=by unfold dnh;rw[YBL,YBL,YBG,YBG,Array.toList_reverse,List.extract,List.extract];simp
theorem Zkx (p q o:Array Keyed)(i j:Nat):(fbh p q o i j).toList=q.toList.take j++p.toList.take i++o.toList.reverse:=by unfold fbh;rw[YBL,YBL,YBG,YBG,Array.toList_reverse,List.extract,List.extract];simp
theorem Zjo {l m:List Keyed}(h:l.Perm T/\l.Pairwise (Le (Fl L)))(e:m=l.reverse):m.Perm T/\m.Pairwise (Le L):=by subst e;refine⟨(List.reverse_perm l).trans h.1,?_⟩;rw[List.pairwise_reverse];exact h.2
theorem Zhf (h:MR D L T p q o i j)(e:i=0):Fin1 L T (dnh p q o i j):=by unfold Fin1;rw[ZkA];subst e;have h':=h.swap;exact Zjo (l:=o.toList++(q.toList.take j).reverse) (MS.fin (D:=D) (by simpa using h')) (by simp)
theorem HiH.fin_fb (hH:HiH D L p q)(hC:Cmp D L)(h:MR D L T p q o i j)(e:j=1):Fin1 L T (fbh p q o i j):=by unfold Fin1;rw[Zkx];subst e;refine Zjo (h.all λu hu v hv=>?_) (by simp);have hu:u∈p.toList:=YAe (YBa.mp hu);have hv:=YBa.mp hv;exact hC.asym v u (hH.dq v (YAe hv)) (hH.dp u hu) (hH.first v hv u hu)
noncomputable def HiQ (D:Keyed->Prop) (L:Keyed->Keyed->Bool) (p q:Array Keyed) (T:List Keyed) (w:Nat) (c:HiC):Prop:=
 ∃r o i j mg ca cb,c=(r,i,j,o,mg,ca,cb)/\((∃z,r=some z/\Fin1 L T z)\/(r=none/\HiI D L p q T o i j/\i+j<=w))
noncomputable def HiY (D:Keyed->Prop) (L:Keyed->Keyed->Bool) (p q:Array Keyed) (T:List Keyed) (w:Nat) (c:HiC):Prop:=
 ∃o i j mg ca cb,c=(none,i,j,o,mg,ca,cb)/\HiI D L p q T o i j/\i+j<=w
noncomputable def HiP (D:Keyed->Prop) (L:Keyed->Keyed->Bool) (p q:Array Keyed) (T:List Keyed) (w:Nat) (st:SortSt) (r:ForInStep HiC) (st':SortSt):Prop:=
 (∃g,st'=ZaH st g)/\match r with | .done c=>HiQ D L p q T w c | .yield c=>HiY D L p q T w c
theorem Zlc (hH:HiH D L p q)(hi:0<i)(hip:i<=p.size)(hj:1<j)(hjq:j<=q.size)(hw:i-1+j<=w)(h:MR D L T p q o i j)
  (hle:∀u∈(p.toList.take i).drop (i-1),∀v∈q.toList.take j,Le L v u):wpS M A E s (hiE p q o i j mg ca cb) (HiP D L p q T w st) (ZaH st g):=by
 obtain⟨e,he,hm⟩:=at? (p:=p) (i:=i-1) (by omega);have hd:=ZjP hi he;have h2:MR D L T p q (o.push e) (i-1) j:=by
  unfold MR at h ⊢;rw[YBY];rw[hd]at h;refine MS.movX h λu hu v hv=>?_;have hu:u=e:=by simpa using hu
  subst hu;refine hle u ?_ v (YBa.mp hv);rw[Zhr hi he,YCR (by simp;omega)];simp
 unfold hiE;refine YAO (Za6 he ?_);by_cases c1:i-1=0
 .rw[YAM (by simpa using c1)];exact YAW ⟨⟨g,rfl⟩,_,_,_,_,_,_,_,rfl,.inl ⟨_,rfl,Zhf h2 c1⟩⟩
 .rw[YAI (by simpa using c1)];have hI:HiI D L p q T (o.push e) (i-1) j:=⟨h2,by omega,hj,by omega,hjq⟩;split
  .exact YAW ⟨⟨g,rfl⟩,_,_,_,_,_,_,_,rfl,.inr ⟨rfl,hI,hw⟩⟩
  .exact YAW ⟨⟨g,rfl⟩,_,_,_,_,_,_,rfl,hI,hw⟩
theorem le_refl' (hC:Cmp D L){v:Keyed}(h:D v):Le L v v:=by
 cases hx:L v v with
 | false=>exact hx
 | true=>exact hC.asym v v h h hx
theorem ZeU (hC:Cmp D L)(hd:∀u∈p.toList,D u)(hs:p.toList.Pairwise (Le L)){i:Nat}{x:Keyed}(hi:0<i)(hx:p[i-1]?=some x)(hm:x∈p.toList):∀v∈p.toList.take i,Le L v x:=by
 intro v hv;have h2:=hs.sublist (YCb i p.toList);rw[Zhr hi hx]at h2 hv;rcases YAV.mp hv with hv | hv
 .exact(YBF.mp h2).2.2 v hv x (by simp)
 .have:v=x:=by simpa using hv
  subst this;exact le_refl' hC (hd v hm)
theorem ZdY (hi:0<i)(hip:i<=p.size)(hx:p[i-1]?=some x):u∈(p.toList.take i).drop (i-1)↔u=x:=by rw[Zhr hi hx,YCR (by simp;omega),YCU (by simp;omega)];simp
theorem Zld (hH:HiH D L p q)(hC:Cmp D L)(hP:PureC M A E s D L kd)(hk:kindOf st=kd)(hi:0<i)(hip:i<=p.size)(hj:1<j)(hjq:j<=q.size)(hw:i-1+j<=w)
  (h:MR D L T p q o i j) (hle:∀v∈(q.toList.take j).drop (j-1),∀u∈p.toList.take i,Le L u v):wpS M A E s (hiD p q o i j mg ca cb) (HiP D L p q T w st) (ZaH st g):=by
 obtain⟨e,he,hm⟩:=at? (p:=q) (i:=j-1) (by omega);obtain⟨x,hx,hxm⟩:=at? (p:=p) (i:=i-1) (by omega);have h2:MR D L T p q (o.push e) i (j-1):=by
  unfold MR at h ⊢;rw[YBY];rw[ZjP (by omega) he]at h;refine MS.movY h λu hu v hv=>?_;have hu:u=e:=by simpa using hu
  exact hle u ((ZdY (by omega) hjq he).mpr hu) v (YBa.mp hv)
 unfold hiD;refine YAO (Za6 he ?_);by_cases c1:j-1=1
 .rw[YAM (by simpa using c1)];exact YAW ⟨⟨g,rfl⟩,_,_,_,_,_,_,_,rfl,.inl ⟨_,rfl,hH.fin_fb hC h2 c1⟩⟩
 .rw[YAI (by simpa using c1)];refine YAO (Za6 hx ?_);refine YAO (Zer hC hP (by exact hk) (by omega) (by omega) (hH.dp x hxm) hH.dq (by rw[YBV];exact hH.sq.sublist (YCb _ _)) ?_);rw[YBV];intro a hkn ha hb;replace ha:∀u∈(q.toList.take (j-1)).take a,L u x=true:=ha;replace hb:∀u∈(q.toList.take (j-1)).drop a,Le L x u:=hb;rw[YCS,YBv hkn]at ha;dsimp only;have xge:=ZeU hC hH.dp hH.sp hi hx hxm;have h3:MR D L T p q (o.push e++(q.extract a (j-1)).reverse) i a:=by unfold MR at h2 ⊢;rw[YBL,Zou];rw[Zeh q.toList hkn]at h2;refine h2.movY λu hu v hv=>?_;have hu:=YBa.mp hu;have hv:=YBa.mp hv;exact hC.tr v x u (hH.dp v (YAe hv)) (hH.dp x hxm) (hH.dq u (YAe (YAb hu))) (xge v hv) (hb u hu)
  have hle2:∀u∈(p.toList.take i).drop (i-1),∀v∈q.toList.take a,Le L v u:=by intro u hu v hv;have:=(ZdY hi hip hx).mp hu;subst this;exact hC.asym v u (hH.dq v (YAe hv)) (hH.dp u hxm) (ha v hv)
  have ha0:a≠0:=by
   rintro rfl;obtain⟨y,hy,hym⟩:=at? (p:=q) (i:=0) (by omega);have hyq:q.toList.take 1=[y]:=by have:=Zhr (p:=q) (i:=1) (by omega) hy;simpa using this
   have h5:=hH.first y (by rw[hyq];simp) x hxm
   have h6:y∈q.toList.take (j-1):=by
    have:q.toList.take 1=(q.toList.take (j-1)).take 1:=by rw[YCS,YBv (by omega)]
    rw[this]at hyq;exact YAe (i:=1) (by rw[hyq];simp)
   rw[show L y x=false from hb y h6]at h5;cases h5
  by_cases hk0:j-1-a>0
  .rw[YAM hk0];by_cases c2:a=1
   .rw[YAM (by simpa using c2)];exact YAW ⟨⟨g,rfl⟩,_,_,_,_,_,_,_,rfl,.inl ⟨_,rfl,hH.fin_fb hC h3 c2⟩⟩
   .rw[YAI (by simpa using c2),YAI (by simpa using ha0)];exact Zlc hH hi hip (by omega) (by omega) (by omega) h3 hle2
  .rw[YAI hk0];have:a=j-1:=by omega
   subst this;exact Zlc hH hi hip (by omega) (by omega) (by omega) h2 hle2
theorem Zoq (hH:HiH D L p q)(hC:Cmp D L)(hP:PureC M A E s D L kd)(hk:kindOf st=kd)(hw:i-1+j<=w)(hI:HiI D L p q T o i j):
  wpS M A E s (hiF p q o i j mg ca cb) (HiP D L p q T w st) (ZaH st g):=by
 obtain⟨h,hi,hj,hip,hjq⟩:=hI;obtain⟨x,hx,hxm⟩:=at? (p:=q) (i:=j-1) (by omega);unfold hiF;refine YAO (YCF ?_);refine YAO (Za6 hx ?_);refine YAO (Zer hC hP (by exact hk) (by omega) (by omega) (hH.dq x hxm) hH.dp (by rw[YBV];exact hH.sp.sublist (YCb _ _)) ?_);rw[YBV];intro a hkn ha hb;replace ha:∀u∈(p.toList.take i).take a,Le L u x:=ha;replace hb:∀u∈(p.toList.take i).drop a,L x u=true:=hb;rw[YCS,YBv hkn]at ha;dsimp only;have xge:=ZeU hC hH.dq hH.sq (by omega) hx hxm;have h3:MR D L T p q (o++(p.extract a i).reverse) a j:=by unfold MR at h ⊢;rw[YBL,Zou];rw[Zeh p.toList hkn]at h;refine h.movX λu hu v hv=>?_;have hu:=YBa.mp hu;have hv:=YBa.mp hv;have hDu:=hH.dp u (YAe (YAb hu));exact hC.tr v x u (hH.dq v (YAe hv)) (hH.dq x hxm) hDu (xge v hv) (hC.asym x u (hH.dq x hxm) hDu (hb u hu))
 have hle2:∀v∈(q.toList.take j).drop (j-1),∀u∈p.toList.take a,Le L u v:=by intro v hv u hu;have:=(ZdY (by omega) hjq hx).mp hv;subst this;exact ha u hu
 by_cases hk0:i-a>0
 .rw[YAM hk0];by_cases c2:a=0
  .rw[YAM (by simpa using c2)];exact YAW ⟨⟨_,rfl⟩,_,_,_,_,_,_,_,rfl,.inl ⟨_,rfl,Zhf h3 c2⟩⟩
  .rw[YAI (by simpa using c2)];exact Zld hH hC hP hk (by omega) (by omega) hj hjq (by omega) h3 hle2
 .rw[YAI hk0];have:a=i:=by omega
  subst this;exact Zld hH hC hP hk hi hip hj hjq hw h hle2
theorem ZnX (hH:HiH D L p q)(hC:Cmp D L)(hP:PureC M A E s D L kd)(hk:kindOf st=kd)(hp:0<p.size)(hq:0<q.size)
  (h0:∀u∈p.toList.drop (p.size-1),∀v∈q.toList,Le L v u) (hQ:∀z g,Fin1 L (p.toList++q.toList) z->Q z (ZaH st g)):wpS M A E s (mHi p q) Q st:=by
 rw[ZnY];unfold mHiB;obtain⟨e,he,hm⟩:=at? (p:=p) (i:=p.size-1) (by omega);have hd:p.toList=p.toList.take (p.size-1)++[e]:=by
  have:=Zhr hp he
  rwa [YAp (by simp)]at this
 have h1:MR D L (p.toList++q.toList) p q #[e] (p.size-1) q.size:=by
  unfold MR;have e2:(q.toList.take q.size)=q.toList:=YAp (by simp);rw[e2];have:MS D (Fl L) (p.toList++q.toList) [] ([e]++(p.toList.take (p.size-1)).reverse) q.toList.reverse:=by
   have e3:[e]++(p.toList.take (p.size-1)).reverse=p.toList.reverse:=by
    conv=>rhs;rw[hd]
    simp
   rw[e3];exact⟨by simpa using (List.reverse_perm _).append (List.reverse_perm _),List.Pairwise.nil,by simp,by simp,ZkV.mpr hH.sp,ZkV.mpr hH.sq⟩
  refine this.movX λu hu v hv=>h0 u ?_ v (YBa.mp hv);have hu:u=e:=by simpa using hu
  subst hu;rw[hd,YCR (by simp)];simp
 refine YAO (wpS_lift (YCH ⟨rfl,?_⟩));refine YAO (Za6 he ?_);by_cases c1:p.size-1=0
 .rw[YAM (by simpa using c1)];exact YAW (hQ _ _ (Zhf h1 c1))
 rw[YAI (by simpa using c1)];by_cases c2:q.size=1
 .rw[YAM (by simpa using c2)];exact YAW (hQ _ _ (hH.fin_fb hC h1 c2))
 rw[YAI (by simpa using c2)];refine YAO (YDH ?_);have hI:HiI D L p q (p.toList++q.toList) #[e] (p.size-1) q.size:=⟨h1,by omega,by omega,by omega,by omega⟩;generalize p.toList++q.toList=T at hI hQ;refine Zeq ?_;intro F1 G1;refine YAO (YBy (YBS (a:=0) (b:=p.size+q.size) (I:=λx c st'=>∃g,st'=ZaH st g/\∃o i j mg,c=(none,i,j,o,mg)/\HiI D L p q T o i j/\x+(i+j)<=p.size+q.size)
  (Q:=λc st'=>∃g,st'=ZaH st g/\∃z o i j mg,c=(some z,i,j,o,mg)/\Fin1 L T z) ?step ?fin ⟨gallopOf st,rfl,#[e],p.size-1,q.size,gallopOf st,rfl,hI,by omega⟩) ?post)
 case post=>
  rintro c st' ⟨g,rfl,z,o,i,j,mg,rfl,hz⟩;exact YAW (hQ z g hz)
 case fin=>
  rintro c st' ⟨g,rfl,o,i,j,mg,rfl,hI,hx⟩;have:=hI.li;have:=hI.lj;omega
 case step=>
  rintro x c st' _ hx ⟨g,rfl,o,i,j,mg,rfl,hI,hxi⟩;dsimp only[F1];refine Zeq ?_;intro F2 G2;refine YAO (YBy (YBS (I:=λy c st'=>st'=ZaH st g/\∃o i j ca cb,c=(none,i,j,o,ca,cb)/\HiI D L p q T o i j/\y+x+(i+j)<=p.size+q.size)
   (Q:=λc st'=>st'=ZaH st g/\∃r o i j ca cb,c=(r,i,j,o,ca,cb)/\((∃z,r=some z/\Fin1 L T z)\/(r=none/\HiI D L p q T o i j/\x+1+(i+j)<=p.size+q.size))) ?s1 ?f1 ⟨rfl,_,_,_,_,_,rfl,hI,by omega⟩) ?p1)
  case f1=>
   rintro c st' ⟨rfl,o,i,j,ca,cb,rfl,hI,hx⟩;have:=hI.li;have:=hI.lj;omega
  case s1=>
   rintro y c st' _ hy ⟨rfl,o,i,j,ca,cb,rfl,hI,hxi⟩;obtain⟨h,hi,hj,hip,hjq⟩:=hI;obtain⟨u,hu,hum⟩:=at? (p:=q) (i:=j-1) (by omega);obtain⟨v,hv,hvm⟩:=at? (p:=p) (i:=i-1) (by omega);have hDu:=hH.dq u hum;have hDv:=hH.dp v hvm;have uge:=ZeU hC hH.dq hH.sq (by omega) hu hum;have vge:=ZeU hC hH.dp hH.sp hi hv hvm;dsimp only[F2];refine YAO (Za6 hu (YAO (Za6 hv (YAO (hP _ _ _ _ hk hDu hDv ?_)))));dsimp only;cases hL:L u v with
   | true=>
    rw[YAM rfl];refine YAO (Za6 hv ?_);have h2:MR D L T p q (o.push v) (i-1) j:=by
     unfold MR at h ⊢;rw[YBY];rw[ZjP hi hv]at h;refine MS.movX h λa ha b hb=>?_;have ha:a=v:=by simpa using ha
     subst ha;have hb:=YBa.mp hb;exact hC.tr b u a (hH.dq b (YAe hb)) hDu hDv (uge b hb) (hC.asym _ _ hDu hDv hL)
    by_cases c3:i-1=0
    .rw[YAM (by simpa using c3)];exact YAW ⟨rfl,_,_,_,_,_,_,rfl,.inl ⟨_,rfl,Zhf h2 c3⟩⟩
    .rw[YAI (by simpa using c3)];have hI:HiI D L p q T (o.push v) (i-1) j:=⟨h2,by omega,by omega,by omega,by omega⟩;split
     .exact YAW ⟨rfl,_,_,_,_,_,_,rfl,.inr ⟨rfl,hI,by omega⟩⟩
     .exact YAW ⟨rfl,_,_,_,_,_,rfl,hI,by omega⟩
   | false=>
    rw[YAI YAC];refine YAO (Za6 hu ?_);have h2:MR D L T p q (o.push u) i (j-1):=by
     unfold MR at h ⊢;rw[YBY];rw[ZjP (by omega) hu]at h;refine MS.movY h λa ha b hb=>?_;have ha:a=u:=by simpa using ha
     subst ha;have hb:=YBa.mp hb;exact hC.tr b v a (hH.dp b (YAe hb)) hDv hDu (vge b hb) hL
    by_cases c3:j-1=1
    .rw[YAM (by simpa using c3)];exact YAW ⟨rfl,_,_,_,_,_,_,rfl,.inl ⟨_,rfl,hH.fin_fb hC h2 c3⟩⟩
    .rw[YAI (by simpa using c3)];have hI:HiI D L p q T (o.push u) i (j-1):=⟨h2,by omega,by omega,by omega,by omega⟩;split
     .exact YAW ⟨rfl,_,_,_,_,_,_,rfl,.inr ⟨rfl,hI,by omega⟩⟩
     .exact YAW ⟨rfl,_,_,_,_,_,rfl,hI,by omega⟩
  case p1=>
   rintro c st' ⟨rfl,r,o,i,j,ca,cb,rfl,⟨z,rfl,hz⟩|⟨rfl,hI,hw⟩⟩
   .exact YAW ⟨g,rfl,z,o,i,j,mg,rfl,hz⟩
   .dsimp only[G2];refine YAO (wpS_lift (YCH ⟨rfl,?_⟩));refine Zeq ?_;intro F3 G3;refine YAO (YBy (YBS (I:=λy c st'=>(∃g,st'=ZaH st g)/\HiY D L p q T (p.size+q.size-y-(x+1)) c)
     (Q:=λc st'=>(∃g,st'=ZaH st g)/\HiQ D L p q T (p.size+q.size-(x+1)) c) ?s2 ?f2 ⟨⟨g,rfl⟩,_,_,_,_,_,_,rfl,hI,by omega⟩) ?p2)
    case f2=>
     rintro c st' ⟨_,o,i,j,mg,ca,cb,rfl,hI,hx⟩;have:=hI.li;have:=hI.lj;omega
    case p2=>
     rintro c st' ⟨⟨g,rfl⟩,r,o,i,j,mg,ca,cb,rfl,⟨z,rfl,hz⟩|⟨rfl,hI,hw⟩⟩
     .exact YAW ⟨g,rfl,z,o,i,j,mg,rfl,hz⟩
     .exact YAO (YCF (YAW ⟨_,rfl,o,i,j,mg+1,rfl,hI,by have:=hI.li;omega⟩))
    case s2=>
     rintro y c st' _ hy ⟨⟨g,rfl⟩,o,i,j,mg,ca,cb,rfl,hI,hw⟩;have key:∀mg,wpS M A E s (hiF p q o i j mg ca cb) (λr st'=>match r with | .done c'=>(∃g,st'=ZaH st g)/\HiQ D L p q T (p.size+q.size-(x+1)) c' | .yield c'=>(∃g,st'=ZaH st g)/\HiY D L p q T (p.size+q.size-(y+1)-(x+1)) c') (ZaH st g):=by
      intro mg;have:=hI.li;refine YBy (Zoq (w:=p.size+q.size-(y+1)-(x+1)) hH hC hP hk (by omega) hI) ?_;rintro r st' ⟨hg,hr⟩;cases r with
      | done c=>
       obtain⟨r,o,i,j,mg,ca,cb,rfl,h | ⟨rfl,hI,hw⟩⟩:=hr
       .exact⟨hg,r,o,i,j,mg,ca,cb,rfl,.inl h⟩
       .exact⟨hg,none,o,i,j,mg,ca,cb,rfl,.inr ⟨rfl,hI,by omega⟩⟩
      | yield c=>exact⟨hg,hr⟩
     refine YBy (Q:=λr st'=>match r with | .done c'=>(∃g,st'=ZaH st g)/\HiQ D L p q T (p.size+q.size-(x+1)) c' | .yield c'=>(∃g,st'=ZaH st g)/\HiY D L p q T (p.size+q.size-(y+1)-(x+1)) c') ?_ (λr st' hr=>by cases r<;>exact hr);by_cases hmg:mg>1
     .dsimp only[F3];rw[YAM hmg];exact key (mg-1)
     .dsimp only[F3];rw[YAI hmg];exact key mg
end
noncomputable def mAtB (i:Nat):StateT SortSt Sem Bool:=do
 let v <-get
 let (some (sa,na,pw),some (sb,nb,_)):=((pendingOf v)[i]?,(pendingOf v)[i+1]?) | unsupported "internal:list.sort.pending"
 set (setPending v (((pendingOf v).setIfInBounds i (sa,na+nb,pw)).eraseIdxIfInBounds (i+1)))
 let some k <-gal false (<-elem' (arrOf v) sb) (arrOf v) sa na 0 | return false
 let (sa,na):=(sa+k,na-k)
 if na == 0 then return true
 let some nb <-gal true (<-elem' (arrOf v) (sa+na-1)) (arrOf v) sb nb (nb-1) | return false
 if nb == 0 then return true
 let x:=(arrOf v).extract sa sb
 let y:=(arrOf v).extract sb (sb+nb)
 let mm <-if na<=nb then mLo x y else mHi x y
 modify λu=>setArr u (mm.toList.zipIdx.foldl (λa (p,j)=>a.setIfInBounds (sa+j) p) (arrOf u))
 return (failedOf (<-get)).isNone
theorem Zn0 (i:Nat):mergeAt' i=mAtB i:=rfl
theorem Zls {M:Model}{A:AH}{E:Q33}{s:AE}{U:Type}{v:U}{Q:PUnit->U->Prop}{st:U}(h:Q ⟨⟩ v):wpS M A E s (set v:StateT U Sem PUnit) Q st:=by unfold wpS;rw[StateT.run_set];exact YAF ⟨rfl,h⟩
noncomputable def putL (a:Array Keyed) (b:Nat) (l:List Keyed):Array Keyed:=l.zipIdx.foldl (λa (p,j)=>a.setIfInBounds (b+j) p) a
theorem Zix:∀(l:List Keyed) (n b:Nat) (a:Array Keyed) (x y z:List Keyed),a.toList=x++y++z->x.length=b+n->y.length=l.length ->
  ((l.zipIdx n).foldl (λa (p,j)=>a.setIfInBounds (b+j) p) a).toList=x++l++z
 | [],n,b,a,x,y,z,h,hx,hy=>by
  have:y=[]:=YCp.mp hy;subst this;simpa using h
 | e::l,n,b,a,x,y,z,h,hx,hy=>by
  cases y with
  | nil=>simp at hy
  | cons f y=>
   rw[List.zipIdx_cons,YCY];have:=Zix l (n+1) b (a.setIfInBounds (b+n) e) (x++[e]) y z (by rw[YDP,h,<-hx,YAr,YCk,List.set_append_right _ _ (YAS _),Nat.sub_self];simp) (by simp;omega) (by simpa using hy)
   rw[this];simp
theorem Ziw (h:a.toList=x++y++z)(hx:x.length=b)(hy:y.length=l.length):(putL a b l).toList=x++l++z:=
 Zix l 0 b a x y z h (by omega) hy
section
variable {M:Model}{A:AH}{E:Q33}{s:AE}{D:Keyed->Prop}{L:Keyed->Keyed->Bool}{kd:SortKind}{st:SortSt}
theorem slice {a:Array Keyed}{x y z:List Keyed}{b n:Nat}(h:a.toList=x++y++z)(hb:b=x.length)(hn:n=y.length):(a.toList.drop b).take n=y:=by rw[h,hb,hn,YAr,List.drop_left,List.take_left]
theorem ZnZ (hC:Cmp D L)(hP:PureC M A E s D L kd)(hk:kindOf st=kd)(hf:failedOf st=none)
  (ha:(arrOf st).toList=W++X++Y++Z) (hd:∀u∈(arrOf st).toList,D u) (hX:X≠[]) (hY:Y≠[]) (sX:X.Pairwise (Le L)) (sY:Y.Pairwise (Le L))
  (h1:(pendingOf st)[i]?=some (W.length,X.length,pw)) (h2:(pendingOf st)[i+1]?=some (W.length+X.length,Y.length,pw2))
  (hQ:∀(V:List Keyed) (a:Array Keyed) g,a.toList=W++V++Z->V.Perm (X++Y)->V.Pairwise (Le L)->Q true (SortSt.mk' kd a (((pendingOf st).setIfInBounds i (W.length,X.length+Y.length,pw)).eraseIdxIfInBounds (i+1)) g none)):
  wpS M A E s (mergeAt' i) Q st:=by
 rw[Zn0];unfold mAtB;refine YAO (YDH ?_);rw[h1,h2];dsimp only;refine YAO (Zls ?_);have hsz:(arrOf st).size=W.length+X.length+Y.length+Z.length:=by rw[<-YAR,ha];simp;omega
 have hXp:0<X.length:=YBc.mpr hX;have hYp:0<Y.length:=YBc.mpr hY;have dX:∀u∈X,D u:=λu hu=>hd u (by rw[ha];simp[hu]);have dY:∀u∈Y,D u:=λu hu=>hd u (by rw[ha];simp[hu]);obtain⟨y0,Y',rfl⟩:∃y l,Y=y::l:=by cases Y with | nil=>exact absurd rfl hY | cons y l=>exact⟨y,l,rfl⟩
 have hy0:(arrOf st)[W.length+X.length]?=some y0:=by rw[<-YAo,ha,YAr,YBH (by simp)];simp
 have dy0:=dY y0 (by simp);refine YAO (Za6 hy0 ?_);have sl1:=slice (a:=arrOf st) (x:=W) (y:=X) (z:=y0::Y'++Z) (b:=W.length) (n:=X.length) (by rw[ha];simp) rfl rfl;have sl2:=slice (a:=arrOf st) (x:=W++X) (y:=y0::Y') (z:=Z) (b:=W.length+X.length) (n:=(y0::Y').length) (by rw[ha]) (by simp) rfl;refine YAO (Zer hC hP (by exact hk) (by omega) hXp dy0 hd (by rw[sl1];exact sX) ?_);rw[sl1];intro k hkn ha1 hb1;replace ha1:∀u∈X.take k,Le L u y0:=ha1;replace hb1:∀u∈X.drop k,L y0 u=true:=hb1;dsimp only;have y0le:∀v∈y0::Y',Le L y0 v:=by
  intro v hv;rcases YAE.mp hv with rfl | hv
  .exact le_refl' hC dy0
  .exact(YBC.mp sY).1 v hv
 have X1Y:∀u∈X.take k,∀v∈y0::Y',Le L u v:=λu hu v hv=>hC.tr u y0 v (dX u (YAe hu)) dy0 (dY v hv) (ha1 u hu) (y0le v hv);by_cases c1:X.length-k=0
 .rw[YAM (by simpa using c1)];refine YAW ?_;have e:X.take k=X:=YAp (by omega);rw[e]at X1Y;have:=hQ (X++(y0::Y')) (arrOf st) (gallopOf st) (by rw[ha];simp) (YDS _) (YBF.mpr ⟨sX,sY,X1Y⟩);rw[<-hk,<-hf]at this;exact this
 rw[YAI (by simpa using c1)];obtain⟨xl,hxl⟩:∃xl,X[X.length-1]?=some xl:=⟨X[X.length-1],YAN (by omega)⟩;have hxm:xl∈X:=YAq hxl;have hxl2:xl∈X.drop k:=by refine YAq (i:=X.length-1-k) ?_;rw[YCr,<-hxl];congr 1;omega
 have hxa:(arrOf st)[W.length+k+(X.length-k)-1]?=some xl:=by rw[<-YAo,ha,YAr,YAr,YBH (by omega),YBK (by omega),<-hxl];congr 1;omega
 refine YAO (Za6 hxa ?_);refine YAO (Zer hC hP (by exact hk) (by simp at hsz ⊢;omega) (by simp) (dX xl hxm) hd (by rw[sl2];exact sY) ?_);rw[sl2];intro n hnn ha2 hb2;replace ha2:∀u∈(y0::Y').take n,L u xl=true:=ha2;replace hb2:∀u∈(y0::Y').drop n,Le L xl u:=hb2;dsimp only;have hn0:n≠0:=by rintro rfl;have h5:=hb1 xl hxl2;rw[show L y0 xl=false from hb2 y0 (by simp)]at h5;cases h5
 rw[YAI (by simpa using hn0)];obtain⟨x,hx⟩:∃x,x=(arrOf st).extract (W.length+k) (W.length+X.length):=⟨_,rfl⟩;obtain⟨y,hy⟩:∃y,y=(arrOf st).extract (W.length+X.length) (W.length+X.length+n):=⟨_,rfl⟩;have xL:x.toList=X.drop k:=by rw[hx,YBG,List.extract];exact slice (x:=W++X.take k) (z:=y0::Y'++Z) (by rw[ha];simp only[YAr];rw[<-YAr (X.take k),YAs]) (by rw[YAH,YAa,YBv hkn]) (by rw[YAk];omega)
 have yL:y.toList=(y0::Y').take n:=by rw[hy,YBG,List.extract];exact slice (x:=W++X) (z:=(y0::Y').drop n++Z) (by rw[ha];simp only[YAr];rw[<-YAr (List.take n _),YAs]) (by rw[YAH]) (by rw[YAa,YBv hnn];omega)
 have xS:x.size=X.length-k:=by rw[<-YAR,xL,YAk]
 have yS:y.size=n:=by rw[<-YAR,yL,YAa,YBv hnn]
 have y1:y.toList.take 1=[y0]:=by rw[yL,YCS,YBv (by omega)];simp
 have xd:∀v∈x.toList.drop (x.size-1),v=xl:=by
  intro v hv;rw[xL,xS,YCg]at hv;have:X.drop (k+(X.length-k-1))=[xl]:=by obtain⟨h5,h6⟩:=YAj.mp hxl;rw[show k+(X.length-k-1)=X.length-1 by omega,YCD h5,h6,YCU (by omega)]
  rw[this]at hv;simpa using hv
 have dx:∀u∈x.toList,D u:=λu hu=>dX u (YAb (xL▸hu));have dy:∀u∈y.toList,D u:=λu hu=>dY u (YAe (yL▸hu));have sx:x.toList.Pairwise (Le L):=by rw[xL];exact sX.sublist (List.drop_sublist _ _)
 have sy:y.toList.Pairwise (Le L):=by rw[yL];exact sY.sublist (YCb _ _)
 have y0x:∀v∈x.toList,L y0 v=true:=λv hv=>hb1 v (xL▸hv);have yxl:∀u∈y.toList,L u xl=true:=λu hu=>ha2 u (yL▸hu);have main:∀(z:Array Keyed) g,Fin1 L (x.toList++y.toList) z->wpS M A E s (do
   modify λu=>setArr u (putL (arrOf u) (W.length+k) z.toList)
   return (failedOf (<-get)).isNone) Q (ZaH (setPending st (((pendingOf st).setIfInBounds i (W.length,X.length+(y0::Y').length,pw)).eraseIdxIfInBounds (i+1))) g):=by
  rintro z g ⟨hz1,hz2⟩;refine YAO (YCF (YAO (YDH (YAW ?_))));show Q (failedOf st).isNone _;rw[hf];have hzl:(X.drop k++(y0::Y').take n).length=z.toList.length:=by rw[hz1.length_eq,xL,yL]
  have hp:(putL (arrOf st) (W.length+k) z.toList).toList=W++(X.take k++z.toList++(y0::Y').drop n)++Z:=by
   rw[Ziw (x:=W++X.take k) (y:=X.drop k++(y0::Y').take n) (z:=(y0::Y').drop n++Z) (by rw[ha];simp only[YAr];rw[<-YAr (List.take n _),YAs,<-YAr (X.take k),YAs]) (by rw[YAH,YAa,YBv hkn]) hzl]
   simp only[YAr]
  have zm:∀v∈z.toList,v∈X.drop k\/v∈(y0::Y').take n:=λv hv=>by have:=hz1.mem_iff.mp hv;rw[xL,yL]at this;exact YAV.mp this
  have dxl:=dX xl hxm;have:=hQ (X.take k++z.toList++(y0::Y').drop n) _ g hp ?_ ?_
  .rw[<-hk,<-hf]at this;exact this
  .have e1:(X.take k++z.toList++(y0::Y').drop n).Perm (X.take k++(X.drop k++(y0::Y').take n)++(y0::Y').drop n):=by refine List.Perm.append_right _ (List.Perm.append_left _ ?_);rw[xL,yL]at hz1;exact hz1
   refine e1.trans (List.Perm.of_eq ?_);rw[<-YAr,YAs,YAr,YAs]
  .have zY2:∀u∈z.toList,∀v∈(y0::Y').drop n,Le L u v:=by
    intro u hu v hv;rcases zm u hu with h | h
    .have hux:Le L u xl:=by
      have e5:X=X.take (X.length-1)++[xl]:=by
       obtain⟨h5,h6⟩:=YAj.mp hxl
       conv=>lhs;rw[<-YAs (X.length-1) X,YCD h5,h6,YCU (by omega)]
      have hu':u∈X:=YAb h;rw[e5]at sX hu';rcases YAV.mp hu' with hu' | hu'
      .exact(YBF.mp sX).2.2 u hu' xl (by simp)
      .have:u=xl:=by simpa using hu'
       subst this;exact le_refl' hC dxl
     exact hC.tr u xl v (dX u (YAb h)) dxl (dY v (YAb hv)) hux (hb2 v hv)
    .have e5:=sY;rw[<-YAs n (y0::Y')]at e5;exact(YBF.mp e5).2.2 u h v hv
   rw[YBF,YBF];refine⟨⟨sX.sublist (YCb _ _),hz2,λu hu v hv=>?_⟩,sY.sublist (List.drop_sublist _ _),λu hu v hv=>?_⟩
   .rcases zm v hv with h | h
    .have e5:=sX;rw[<-YAs k X]at e5;exact(YBF.mp e5).2.2 u hu v h
    .exact X1Y u hu v (YAe h)
   .rcases YAV.mp hu with hu | hu
    .exact X1Y u hu v (YAb hv)
    .exact zY2 u hu v hv
 have xp:0<x.size:=by omega
 have yp:0<y.size:=by omega
 rw[<-hx,<-hy];by_cases c3:X.length-k<=n
 .rw[YAM c3];refine YAO (ZnV (st:=setPending st _) ⟨dx,dy,sx,sy,λu hu v hv=>by rw[xd v hv];exact yxl u hu⟩ hC hP (by exact hk) xp yp (λu hu v hv=>?_) λz g hz=>main z g hz);have hu:u=y0:=by rw[y1]at hu;simpa using hu
  subst hu;exact hC.asym u v dy0 (dx v hv) (y0x v hv)
 .rw[YAI c3];refine YAO (ZnX (st:=setPending st _) ⟨dx,dy,sx,sy,λu hu v hv=>by rw[y1]at hu;rw[show u=y0 by simpa using hu];exact y0x v hv⟩ hC hP (by exact hk) xp yp (λu hu v hv=>?_) λz g hz=>main z g hz);rw[xd u hu];exact hC.asym v xl (dy v hv) (dX xl hxm) (yxl v hv)
end
abbrev CmpT (L:Keyed->Keyed->Bool):Prop:=Cmp (λ_=>True) L
theorem CmpT.to (h:CmpT L):Cmp D L:=⟨λx y _ _=>h.asym x y trivial trivial,λx y z _ _ _=>h.tr x y z trivial trivial trivial⟩
theorem CmpT.rf (h:CmpT L)(x:Keyed):Le L x x:=le_refl' h trivial
theorem CmpT.le (h:CmpT L){x y:Keyed}(e:L x y=true):Le L x y:=h.asym x y trivial trivial e
theorem CmpT.t (h:CmpT L){x y z:Keyed}(e:Le L x y)(f:Le L y z):Le L x z:=h.tr x y z trivial trivial trivial e f
theorem CmpT.lt_le (h:CmpT L){x y z:Keyed}(e:L x y=true)(f:Le L y z):L x z=true:=by
 cases hx:L x z with
 | true=>rfl
 | false=>rw[h.tr y z x trivial trivial trivial f hx]at e;cases e
noncomputable def at0 (a:Array Keyed) (i:Nat):Keyed:=(a[i]?).getD (.none,.none)
theorem Zd8 (h:a[i]?=b[j]?):at0 a i=at0 b j:=by unfold at0;rw[h]
noncomputable def SegU (L:Keyed->Keyed->Bool) (a:Array Keyed) (l h:Nat):Prop:=∀i j,l<=i->i<=j->j<h->Le L (at0 a i) (at0 a j)
noncomputable def SegD (L:Keyed->Keyed->Bool) (a:Array Keyed) (l h:Nat):Prop:=∀i j,l<=i->i<=j->j<h->Le L (at0 a j) (at0 a i)
structure Kept (lo:Nat)(a b:Array Keyed):Prop where
 perm:b.Perm a
 pre:∀k,k<lo->b[k]?=a[k]?
theorem Kept.rf (lo:Nat)(a:Array Keyed):Kept lo a a:=⟨Array.Perm.refl _,λ_ _=>rfl⟩
theorem Kept.tr {lo:Nat}{a b c:Array Keyed}(h:Kept lo a b)(k:Kept lo b c):Kept lo a c:=⟨k.perm.trans h.perm,λi hi=>(k.pre i hi).trans (h.pre i hi)⟩
theorem Kept.sz {lo:Nat}{a b:Array Keyed}(h:Kept lo a b):b.size=a.size:=h.perm.size_eq
theorem Kept.d {lo:Nat}{a b:Array Keyed}{D:Keyed->Prop}(h:Kept lo a b)(hd:∀u∈a.toList,D u):∀u∈b.toList,D u:=λu hu=>hd u ((YCd.mp h.perm).mem_iff.mp hu)
theorem ZjI (hs:src<xs.size)(hd:d<=src)(k:Nat):
  at0 (bubble xs src d) k=if k=src-d then at0 xs src else if src-d<k/\k<=src then at0 xs (k-1) else at0 xs k:=by
 have e:=getElem?_bubble hs d hd k;repeat' split
 all_goals (refine Zd8 (e.trans ?_);first | rw[YAM (by assumption)] | (rw[YAI (by assumption)];first | rw[YAM (by assumption)] | rw[YAI (by assumption)]))
theorem ZgK (hj:j<=xs.size)(k:Nat):
  at0 (mirror xs i j ((j-i)/2)) k=if i<=k/\k<j then at0 xs (i+j-1-k) else at0 xs k:=by
 have e:=getElem?_mirror_all (i:=i) hj k;split
 .exact Zd8 (e.trans (YAM (by assumption)))
 .exact Zd8 (e.trans (YAI (by assumption)))
theorem Kept.bub {lo src d:Nat}{a:Array Keyed}(hs:src<a.size)(hd:lo+d<=src):Kept lo a (bubble a src d):=
 ⟨bubble_perm _ _ _,λk hk=>by rw[getElem?_bubble hs d (by omega),YAI (by omega),YAI (by omega)]⟩
theorem Kept.mir {lo i j:Nat}{a:Array Keyed}(hj:j<=a.size)(hl:lo<=i):Kept lo a (mirror a i j ((j-i)/2)):=
 ⟨mirror_perm _ _ _ _,λk hk=>by rw[getElem?_mirror_all hj,YAI (by omega)]⟩
section
variable {M:Model}{A:AH}{E:Q33}{s:AE}{D:Keyed->Prop}{L:Keyed->Keyed->Bool}{kd:SortKind}{st:SortSt}
theorem ZfI (hP:PureC M A E s D L kd)(hk:kindOf st=kd)(hd:∀u∈a.toList,D u)(hi:i<a.size)(hj:j<a.size)
  (q:Q (some (L (at0 a i) (at0 a j))) (setArr st a)):wpS M A E s (ltAt' i j) Q (setArr st a):=by
 obtain⟨x,hx,hxm⟩:=at? hi;obtain⟨y,hy,hym⟩:=at? hj;have ex:at0 a i=x:=by unfold at0;rw[hx];rfl
 have ey:at0 a j=y:=by unfold at0;rw[hy];rfl
 rw[ex,ey]at q;rw[ltAt'_eq];refine YAO (YDH ?_);exact YAO (Za6 hx (YAO (Za6 hy (hP _ _ _ _ hk (hd x hxm) (hd y hym) q))))
theorem ZmG {a:Array Keyed}{lo n ok:Nat}{Q:Bool->SortSt->Prop}(hC:CmpT L)(hP:PureC M A E s D L kd)(hk:kindOf st=kd)(hd:∀u∈a.toList,D u)(hn:lo+n<=a.size)(hok:ok<=n)
  (hs:SegU L a lo (lo+ok)) (h:∀b,Kept lo a b->SegU L b lo (lo+n)->Q true (setArr st b)):wpS M A E s (binarySort' lo n ok) Q (setArr st a):=by
 rw[binarySort'_eq];refine YAO (YBy (YBS (I:=λk c st'=>c=(none,())/\∃b,st'=setArr st b/\Kept lo a b/\SegU L b lo (lo+min k n))
  (Q:=λc st'=>c=(none,())/\∃b,st'=setArr st b/\Kept lo a b/\SegU L b lo (lo+n)) ?step ?fin ?init) ?post)
 case post=>
  rintro c st' ⟨rfl,b,rfl,hb,hs'⟩;exact YAW (h b hb hs')
 case init=>
  refine⟨rfl,a,rfl,Kept.rf _ _,λi j hl hij hj=>?_⟩;by_cases h1:ok=0
  .have:i=j:=by omega
   subst this;exact hC.rf _
  .exact hs i j hl hij (by omega)
 case fin=>
  rintro c st' ⟨hc,b,hst,hb,hs'⟩;refine⟨hc,b,hst,hb,?_⟩
  rwa [show min (max (max ok 1) n) n=n by omega]at hs'
 case step=>
  rintro k c st' hak hkn ⟨rfl,b,rfl,hb,hs'⟩;rw[show min k n=k by omega]at hs';have hsz:=hb.sz;have hdb:=hb.d hd;refine YAO (YBy (YBS (I:=λx c st''=>st''=setArr st b/\∃l r,c=(none,l,r)/\l<=r/\r<=k/\r-l<=k-x /\
    (∀i,lo<=i->i<lo+l->Le L (at0 b i) (at0 b (lo+k)))/\(∀i,lo+r<=i->i<lo+k->L (at0 b (lo+k)) (at0 b i)=true))
   (Q:=λc st''=>st''=setArr st b/\∃l r,c=(none,l,r)/\l<=k /\
    (∀i,lo<=i->i<lo+l->Le L (at0 b i) (at0 b (lo+k)))/\(∀i,lo+l<=i->i<lo+k->L (at0 b (lo+k)) (at0 b i)=true)) ?istep ?ifin ?iinit) ?ipost)
  case iinit=>exact⟨rfl,0,k,rfl,by omega,by omega,by omega,λi h1 hi=>by omega,λi h1 h2=>by omega⟩
  case ifin=>
   rintro c st'' ⟨rfl,l,r,rfl,hlr,hrk,hm,hlo,hhi⟩;have:l=r:=by omega
   subst this;exact⟨rfl,l,l,rfl,hrk,hlo,hhi⟩
  case istep=>
   rintro x c st'' _ hxk ⟨rfl,l,r,rfl,hlr,hrk,hm,hlo,hhi⟩;dsimp only;by_cases hge:l>=r
   .rw[YAM hge];have:l=r:=by omega
    subst this;exact YAW ⟨rfl,l,l,rfl,hrk,hlo,hhi⟩
   .rw[YAI hge];refine YAO (ZfI hP hk hdb (by omega) (by omega) ?_);cases hless:L (at0 b (lo+k)) (at0 b (lo+(l+r)/2)) with
    | true=>exact YAW ⟨rfl,l,(l+r)/2,rfl,by omega,by omega,by omega,hlo,λi h1 h2=>hC.lt_le hless (hs' _ _ (by omega) h1 h2)⟩
    | false=>exact YAW ⟨rfl,(l+r)/2+1,r,rfl,by omega,by omega,by omega,λi h0 h1=>hC.t (hs' i (lo+(l+r)/2) h0 (by omega) (by omega)) hless,hhi⟩
  case ipost=>
   rintro c st'' ⟨rfl,l,r,rfl,hlk,hlo,hhi⟩;show wpS _ _ _ _ (do moveDown' (lo+k) (lo+l);pure (ForInStep.yield (none,()))) _ _;rw[moveDown'_eq];have hks:lo+k<b.size:=by omega
   refine YAO (YCF (YAW ⟨rfl,bubble b (lo+k) (lo+k-(lo+l)),rfl,hb.tr (Kept.bub hks (by omega)),?_⟩));rw[show min (k+1) n=k+1 by omega];intro i j hl hij hj;rw[ZjI hks (by omega),ZjI hks (by omega),show lo+k-(lo+k-(lo+l))=lo+l by omega];repeat' split
   all_goals first
    | (exfalso;omega)
    | exact hC.rf _
    | exact hlo _ (by omega) (by omega)
    | exact hC.le (hhi _ (by omega) (by omega))
    | exact hs' _ _ (by omega) (by omega) (by omega)
end
noncomputable def ascO (lo a nr:Nat):StateT SortSt Sem AscSt:=
 forIn [a:nr] ((none,a):AscSt) λ_ c=>do
  let x <-ltAt' (lo+c.snd) (lo+c.snd-1)
  match x with
  | some sm=>if sm=true then pure (ForInStep.done (none,c.snd)) else pure (ForInStep.yield (none,c.snd+1))
  | _=>pure (ForInStep.done (some none,c.snd))
noncomputable def tailO (lo n nr:Nat):StateT SortSt Sem (Option Nat):=do
 reverseSlice' lo (lo+n)
 let c <-ascO lo n nr
 match c.fst with
 | some r=>pure r
 | none=>pure (some c.snd)
noncomputable def descO (lo n nr:Nat):StateT SortSt Sem DescSt:=
 forIn [n:nr] ((none,n,0):DescSt) λ_ c=>do
  let x <-ltAt' (lo+c.snd.fst) (lo+c.snd.fst-1)
  match x with
  | some sm=>
   if sm=true then
    if c.snd.snd>0 then do
     reverseSlice' (lo+c.snd.fst-(c.snd.snd+1)) (lo+c.snd.fst)
     pure (ForInStep.yield (none,c.snd.fst+1,0))
    else pure (ForInStep.yield (none,c.snd.fst+1,0))
   else do
    let y <-ltAt' (lo+c.snd.fst-1) (lo+c.snd.fst)
    match y with
    | some lg=>
     if lg=true then pure (ForInStep.done (none,c.snd.fst,c.snd.snd))
     else pure (ForInStep.yield (none,c.snd.fst+1,c.snd.snd+1))
    | _=>pure (ForInStep.done (some none,c.snd.fst,c.snd.snd))
  | _=>pure (ForInStep.done (some none,c.snd.fst,c.snd.snd))
section
variable {M:Model}{A:AH}{E:Q33}{s:AE}{D:Keyed->Prop}{L:Keyed->Keyed->Bool}{kd:SortKind}{st:SortSt}
noncomputable def Eqv (L:Keyed->Keyed->Bool) (x y:Keyed):Prop:=Le L x y/\Le L y x
theorem ZdB (q:Q () (setArr st (mirror a i j ((j-i)/2)))):wpS M A E s (reverseSlice' i j) Q (setArr st a):=by rw[reverseSlice'_eq];exact YCF q
theorem ZjJ {a:Array Keyed}{lo n0 nr:Nat}{Q:AscSt->SortSt->Prop}(hC:CmpT L)(hP:PureC M A E s D L kd)(hk:kindOf st=kd)(hd:∀u∈a.toList,D u)(hn:lo+nr<=a.size)(h1:1<=n0)(hnn:n0<=nr)
  (hs:SegU L a lo (lo+n0)) (h:∀n,n0<=n->n<=nr->SegU L a lo (lo+n)->(n=nr\/L (at0 a (lo+n)) (at0 a (lo+n-1))=true)->Q (none,n) (setArr st a)):wpS M A E s (ascO lo n0 nr) Q (setArr st a):=by
 unfold ascO;refine YBS (I:=λx c st'=>st'=setArr st a/\c=(none,x)/\SegU L a lo (lo+x)) ?step ?fin ⟨rfl,rfl,hs⟩
 case fin=>
  rintro c st' ⟨rfl,rfl,hs'⟩;rw[show max n0 nr=nr by omega]at hs' ⊢;exact h nr hnn (YAS _) hs' (.inl rfl)
 case step=>
  rintro x c st' hax hxn ⟨rfl,rfl,hs'⟩;dsimp only;refine YAO (ZfI hP hk hd (by omega) (by omega) ?_);cases hl:L (at0 a (lo+x)) (at0 a (lo+x-1)) with
  | true=>exact YAW (h x hax (by omega) hs' (.inr hl))
  | false=>
   refine YAW ⟨rfl,rfl,λi j hli hij hj=>?_⟩;by_cases hjx:j<lo+x
   .exact hs' i j hli hij hjx
   .have hj':j=lo+x:=by omega
    subst hj';by_cases hi':i=lo+x
    .subst hi';exact hC.rf _
    .exact hC.t (hs' i (lo+x-1) hli (by omega) (by omega)) hl
theorem Zdl {a:Array Keyed}{lo n nr:Nat}{Q:Option Nat->SortSt->Prop}(hC:CmpT L)(hP:PureC M A E s D L kd)(hk:kindOf st=kd)(hd:∀u∈a.toList,D u)(hn:lo+nr<=a.size)(h1:1<=n)(hnn:n<=nr)
  (hs:SegD L a lo (lo+n)) (h:∀b m,Kept lo a b->1<=m->m<=nr->SegU L b lo (lo+m)->Q (some m) (setArr st b)):wpS M A E s (tailO lo n nr) Q (setArr st a):=by
 unfold tailO;refine YAO (ZdB ?_);have hK:Kept lo a (mirror a lo (lo+n) ((lo+n-lo)/2)):=Kept.mir (by omega) (YAS _);refine YAO (ZjJ hC hP hk (hK.d hd) (by rw[hK.sz];exact hn) h1 hnn ?_ λm hm1 hm2 hsm _=>YAW (h _ m hK (by omega) hm2 hsm));intro i j hli hij hj;rw[ZgK (by omega),ZgK (by omega),YAM (by omega),YAM (by omega)];exact hs _ _ (by omega) (by omega) (by omega)
theorem ZeR (hC:CmpT L)(hj:j<=a.size)(he:∀k,i<=k->k<j->Eqv L (at0 a k) (at0 a (j-1)))(k:Nat):Eqv L (at0 (mirror a i j ((j-i)/2)) k) (at0 a k):=by
 rw[ZgK hj];split
 .have e1:=he (i+j-1-k) (by omega) (by omega);have e2:=he k (by omega) (by omega);exact⟨hC.t e1.1 e2.2,hC.t e2.1 e1.2⟩
 .exact⟨hC.rf _,hC.rf _⟩
theorem SegD.eqv (hC:CmpT L)(hs:SegD L a l h)(he:∀k,Eqv L (at0 b k) (at0 a k)):SegD L b l h:=
 λi j h1 h2 h3=>hC.t (he j).1 (hC.t (hs i j h1 h2 h3) (he i).2)
theorem SegD.more (hC:CmpT L)(hs:SegD L a l x)(hle:l<x->Le L (at0 a x) (at0 a (x-1))):SegD L a l (x+1):=by
 intro i j hli hij hj;by_cases hjx:j<x
 .exact hs i j hli hij hjx
 .have hj':j=x:=by omega
  subst hj';by_cases hi':i=j
  .subst hi';exact hC.rf _
  .exact hC.t (hle (by omega)) (hs i (j-1) hli (by omega) (by omega))
theorem Zhj {a:Array Keyed}{lo n nr:Nat}{Q:DescSt->SortSt->Prop}(hC:CmpT L)(hP:PureC M A E s D L kd)(hk:kindOf st=kd)(hd:∀u∈a.toList,D u)(hn:lo+nr<=a.size)(h1:1<=n)(hnn:n<=nr)
  (hs:SegD L a lo (lo+n))
  (h:∀b m nq,Kept lo a b->n<=m->m<=nr->SegD L b lo (lo+m)->nq+1<=m->(∀i,lo+m-(nq+1)<=i->i<lo+m->Eqv L (at0 b i) (at0 b (lo+m-1)))->Q (none,m,nq) (setArr st b)):
  wpS M A E s (descO lo n nr) Q (setArr st a):=by
 unfold descO;refine YBS (I:=λx c st'=>∃b nq,st'=setArr st b/\c=(none,x,nq)/\Kept lo a b/\SegD L b lo (lo+x)/\nq+1<=x /\
   (∀i,lo+x-(nq+1)<=i->i<lo+x->Eqv L (at0 b i) (at0 b (lo+x-1)))) ?step ?fin ⟨a,0,rfl,rfl,Kept.rf _ _,hs,by omega,λi h1 h2=>by rw[show i=lo+n-1 by omega];exact⟨hC.rf _,hC.rf _⟩⟩
 case fin=>
  rintro c st' ⟨b,nq,rfl,rfl,hK,hs',hq,he⟩;rw[show max n nr=nr by omega]at hs' hq he ⊢;exact h b nr nq hK hnn (YAS _) hs' hq he
 case step=>
  rintro x c st' hax hxn ⟨b,nq,rfl,rfl,hK,hs',hq,he⟩;have hbs:=hK.sz;have hdb:=hK.d hd;dsimp only;refine YAO (ZfI hP hk hdb (by omega) (by omega) ?_);cases hl:L (at0 b (lo+x)) (at0 b (lo+x-1)) with
  | true=>
   have hmore:SegD L b lo (lo+x+1):=hs'.more hC λ_=>hC.le hl;dsimp only;by_cases hq0:nq>0
   .rw[YAM rfl,YAM hq0];refine YAO (ZdB (YAW ⟨_,0,rfl,rfl,hK.tr (Kept.mir (by omega) (by omega)),hmore.eqv hC (ZeR hC (by omega) he),by omega,λi h1 h2=>?_⟩));rw[show i=lo+(x+1)-1 by omega];exact⟨hC.rf _,hC.rf _⟩
   .rw[YAM rfl,YAI hq0];refine YAW ⟨b,0,rfl,rfl,hK,hmore,by omega,λi h1 h2=>?_⟩;rw[show i=lo+(x+1)-1 by omega];exact⟨hC.rf _,hC.rf _⟩
  | false=>
   dsimp only;rw[YAI YAC];refine YAO (ZfI hP hk hdb (by omega) (by omega) ?_);cases hg:L (at0 b (lo+x-1)) (at0 b (lo+x)) with
   | true=>exact YAW (h b x nq hK hax (by omega) hs' hq he)
   | false=>
    refine YAW ⟨b,nq+1,rfl,rfl,hK,hs'.more hC λ_=>hg,by omega,λi h1 h2=>?_⟩;rw[show lo+(x+1)-1=lo+x by omega];by_cases hix:i=lo+x
    .subst hix;exact⟨hC.rf _,hC.rf _⟩
    .have e:=he i (by omega) (by omega);exact⟨hC.t e.1 hl,hC.t hg e.2⟩
theorem ZmE {a:Array Keyed}{lo nr:Nat}{Q:Option Nat->SortSt->Prop}(hC:CmpT L)(hP:PureC M A E s D L kd)(hk:kindOf st=kd)(hd:∀u∈a.toList,D u)(hn:lo+nr<=a.size)(h1:1<=nr)
  (h:∀b m,Kept lo a b->1<=m->m<=nr->SegU L b lo (lo+m)->Q (some m) (setArr st b)):wpS M A E s (countRun' lo nr) Q (setArr st a):=by
 rw[countRun'_eq];refine YAO (YBy (ZjJ (Q:=λc st'=>∃n,c=(none,n)/\st'=setArr st a/\1<=n/\n<=nr/\SegU L a lo (lo+n)/\(n=nr\/L (at0 a (lo+n)) (at0 a (lo+n-1))=true)) hC hP hk hd hn (YAS 1) h1 (λi j hl hij hj=>by have:i=j:=(by omega);subst this;exact hC.rf _) λn a1 a2 a3 a4=>⟨n,rfl,rfl,a1,a2,a3,a4⟩) ?_);rintro c st' ⟨n,rfl,rfl,hn1,hn2,hsn,hor⟩;dsimp only;by_cases hnn:n=nr
 .rw[YAM (by simpa using hnn)];exact YAW (h a n (Kept.rf _ _) hn1 hn2 hsn)
 .rw[YAI (by simpa using hnn)];have Bl:=hor.resolve_left hnn;by_cases hgt:n>1
  .rw[YAM hgt];refine YAO (ZfI hP hk hd (by omega) (by omega) ?_);cases hrose:L (at0 a lo) (at0 a (lo+n-1)) with
   | true=>
    dsimp only;rw[YAM rfl];exact YAW (h a n (Kept.rf _ _) hn1 hn2 hsn)
   | false=>
    dsimp only;rw[YAI YAC];have hall:∀k,lo<=k->k<lo+n->Eqv L (at0 a k) (at0 a (lo+n-1)):=by intro k hk1 hk2;have a1:=hsn lo k (by omega) hk1 hk2;have a2:=hsn k (lo+n-1) hk1 (by omega) (by omega);exact⟨a2,hC.t hrose a1⟩
    have hsd:SegD L a lo (lo+(n+1)):=by refine SegD.more hC (λi j h1 h2 h3=>?_) λ_=>hC.le Bl;replace h3:j<lo+n:=h3;exact hC.t (hall j (by omega) h3).1 (hall i h1 (by omega)).2
    have hK:Kept lo a (mirror a lo (lo+n) ((lo+n-lo)/2)):=Kept.mir (by omega) (YAS _);refine YAO (ZdB ?_);obtain⟨b,hb,hKb,hsb⟩:∃b,b=mirror a lo (lo+n) ((lo+n-lo)/2)/\Kept lo a b/\SegD L b lo (lo+(n+1)):=⟨_,rfl,hK,hsd.eqv hC (ZeR hC (by omega) hall)⟩;rw[<-hb];have hbs:=Kept.sz hKb;refine YAO (wpS_lift (YCH ⟨rfl,?_⟩));refine YAO (Zhj hC hP hk (Kept.d hKb hd) (by omega) (by omega) (by omega) hsb λc m nq hK hm1 hm2 hs' hq he=>?_);have hcs:=hK.sz;have hdc:=hK.d (Kept.d hKb hd);dsimp only;by_cases hq0:nq>0
    .rw[YAM hq0];have hK2:Kept lo c (mirror c (lo+m-(nq+1)) (lo+m) ((lo+m-(lo+m-(nq+1)))/2)):=Kept.mir (by omega) (by omega);refine YAO (ZdB ?_);refine Eq.mp ?_ (Zdl (Q:=Q) hC hP hk (hK2.d hdc) (by rw[hK2.sz];omega) (by omega) hm2 (hs'.eqv hC (ZeR hC (by omega) he)) λd k hc=>h d k (Kept.tr hKb (hK.tr (hK2.tr hc))));refine congrArg (λm=>wpS _ _ _ _ m _ _) ?_;unfold tailO ascO;refine congrArg _ (funext λ_=>congrArg _ (funext λc=>?_));obtain⟨r3,n3⟩:=c;cases r3<;>rfl
    .rw[YAI hq0];refine Eq.mp ?_ (Zdl (Q:=Q) hC hP hk hdc (by omega) (by omega) hm2 hs' λd k hc=>h d k (Kept.tr hKb (hK.tr hc)));refine congrArg (λm=>wpS _ _ _ _ m _ _) ?_;unfold tailO ascO;refine congrArg _ (funext λ_=>congrArg _ (funext λc=>?_));obtain⟨r3,n3⟩:=c;cases r3<;>rfl
  .rw[YAI hgt];obtain⟨b,hb,hKb,hsb⟩:∃b,b=a/\Kept lo a b/\SegD L b lo (lo+(n+1)):=⟨_,rfl,Kept.rf _ _,SegD.more hC (λi j h1 h2 h3=>by replace h3:j<lo+n:=h3;rw[show i=j by omega];exact hC.rf _) λ_=>hC.le Bl⟩
   rw[<-hb];have hbs:=Kept.sz hKb;refine YAO (wpS_lift (YCH ⟨rfl,?_⟩));refine YAO (Zhj hC hP hk (Kept.d hKb hd) (by omega) (by omega) (by omega) hsb λc m nq hK hm1 hm2 hs' hq he=>?_);have hcs:=hK.sz;have hdc:=hK.d (Kept.d hKb hd);dsimp only;by_cases hq0:nq>0
   .rw[YAM hq0];have hK2:Kept lo c (mirror c (lo+m-(nq+1)) (lo+m) ((lo+m-(lo+m-(nq+1)))/2)):=Kept.mir (by omega) (by omega);refine YAO (ZdB ?_);refine Eq.mp ?_ (Zdl (Q:=Q) hC hP hk (hK2.d hdc) (by rw[hK2.sz];omega) (by omega) hm2 (hs'.eqv hC (ZeR hC (by omega) he)) λd k hc=>h d k (Kept.tr hKb (hK.tr (hK2.tr hc))));refine congrArg (λm=>wpS _ _ _ _ m _ _) ?_;unfold tailO ascO;refine congrArg _ (funext λ_=>congrArg _ (funext λc=>?_));obtain⟨r3,n3⟩:=c;cases r3<;>rfl
   .rw[YAI hq0];refine Eq.mp ?_ (Zdl (Q:=Q) hC hP hk hdc (by omega) (by omega) hm2 hs' λd k hc=>h d k (Kept.tr hKb (hK.tr hc)));refine congrArg (λm=>wpS _ _ _ _ m _ _) ?_;unfold tailO ascO;refine congrArg _ (funext λ_=>congrArg _ (funext λc=>?_));obtain⟨r3,n3⟩:=c;cases r3<;>rfl
end
noncomputable def Pd (L:Keyed->Keyed->Bool):Nat->List (Nat×Nat×Nat)->List (List Keyed)->Prop
 | _,[],[]=>True
 | o,t::ps,r::rs=>t.1=o/\t.2.1=r.length/\r≠[]/\r.Pairwise (Le L)/\Pd L (o+r.length) ps rs
 | _,_,_=>False
section
variable {M:Model}{A:AH}{E:Q33}{s:AE}{D:Keyed->Prop}{L:Keyed->Keyed->Bool}{kd:SortKind}{st:SortSt}
theorem Pd.len:∀ {ps:List (Nat×Nat×Nat)} {rs:List (List Keyed)} {o:Nat},Pd L o ps rs->ps.length=rs.length
 | [],[],_,_=>rfl
 | t::ps,r::rs,o,h=>by have:=Pd.len h.2.2.2.2;simp[this]
 | [],_::_,_,h=>h.elim
 | _::_,[],_,h=>h.elim
theorem Pd.le:∀ {ps:List (Nat×Nat×Nat)} {rs:List (List Keyed)} {o:Nat},Pd L o ps rs->ps.length<=rs.flatten.length
 | [],[],_,_=>by simp
 | t::ps,r::rs,o,h=>by
  have h1:=Pd.le h.2.2.2.2;have h2:=YBc.mpr h.2.2.1;rw[YBm,YAH,YAl];omega
 | [],_::_,_,h=>h.elim
 | _::_,[],_,h=>h.elim
theorem Pd.app:∀ {ps:List (Nat×Nat×Nat)} {rs:List (List Keyed)} {o:Nat} {t:Nat×Nat×Nat} {r:List Keyed},Pd L o ps rs->t.1=o+rs.flatten.length->t.2.1=r.length->r≠[]->r.Pairwise (Le L)->Pd L o (ps++[t]) (rs++[r])
 | [],[],o,t,r,_,h1,h2,h3,h4=>⟨by simpa using h1,h2,h3,h4,trivial⟩
 | t::ps,r::rs,o,t',r',h,h1,h2,h3,h4=>⟨h.1,h.2.1,h.2.2.1,h.2.2.2.1,Pd.app h.2.2.2.2 (by rw[h1,YBm,YAH];omega) h2 h3 h4⟩
 | [],_::_,_,_,_,h,_,_,_,_=>h.elim
 | _::_,[],_,_,_,h,_,_,_,_=>h.elim
theorem Pd.pow:∀ {ps qs:List (Nat×Nat×Nat)} {rs:List (List Keyed)} {o:Nat},Pd L o ps rs->ps.map (λt=>(t.1,t.2.1))=qs.map (λt=>(t.1,t.2.1))->Pd L o qs rs
 | [],qs,[],_,_,e=>by
  have:qs=[]:=by simpa using e.symm
  subst this;trivial
 | t::ps,qs,r::rs,o,h,e=>by
  cases qs with
  | nil=>simp at e
  | cons u qs=>
   simp only[YAc,List.cons.injEq,Prod.mk.injEq]at e;exact⟨e.1.1▸h.1,e.1.2▸h.2.1,h.2.2.1,h.2.2.2.1,Pd.pow h.2.2.2.2 e.2⟩
 | [],_,_::_,_,h,_=>h.elim
 | _::_,_,[],_,h,_=>h.elim
theorem Pd.pick:∀ {ps:List (Nat×Nat×Nat)} {rs:List (List Keyed)} {o i:Nat},Pd L o ps rs->i+1<ps.length ->
  ∃ra X Y rb pw pw2,rs=ra++X::Y::rb/\ps[i]?=some (o+ra.flatten.length,X.length,pw)/\ps[i+1]?=some (o+ra.flatten.length+X.length,Y.length,pw2)/\X≠[]/\Y≠[]/\X.Pairwise (Le L)/\Y.Pairwise (Le L) /\
   ∀V:List Keyed,V.length=X.length+Y.length->V.Pairwise (Le L)->Pd L o ((ps.set i (o+ra.flatten.length,X.length+Y.length,pw)).eraseIdx (i+1)) (ra++V::rb)
 | t::u::ps,r::r2::rs,o,0,h,_=>by
  obtain⟨a1,a2,a3,a4,b1,b2,b3,b4,b5⟩:=h;obtain⟨t1,t2,t3⟩:=t;obtain⟨u1,u2,u3⟩:=u;dsimp only at a1 a2 b1 b2;subst a1 a2 b1 b2;refine⟨[],r,r2,rs,t3,u3,rfl,by simp,by simp,a3,b3,a4,b4,λV hV hs=>?_⟩;refine⟨by simp,by simpa using hV.symm,?_,hs,?_⟩
  .intro e;rw[e]at hV;have:=YBc.mpr a3;simp at hV;omega
  .rw[hV,<-Nat.add_assoc];exact b5
 | t::ps,r::rs,o,i+1,h,hi=>by
  obtain⟨a1,a2,a3,a4,a5⟩:=h;obtain⟨ra,X,Y,rb,pw,pw2,h1,h2,h3,h4,h5,h6,h7,h8⟩:=Pd.pick a5 (i:=i) (by simpa using hi);refine⟨r::ra,X,Y,rb,pw,pw2,by rw[h1];rfl,?_,?_,h4,h5,h6,h7,λV hV hs=>?_⟩
  .rw[List.getElem?_cons_succ,h2,YBm,YAH,Nat.add_assoc]
  .rw[List.getElem?_cons_succ,h3,YBm,YAH,Nat.add_assoc o]
  .have:=h8 V hV hs;rw[List.set_cons_succ,List.eraseIdx_cons_succ,YBm,YAH,<-Nat.add_assoc];exact⟨a1,a2,a3,a4,this⟩
 | [_],[_],_,0,_,h=>by simp at h
 | [],_,_,_,_,h=>by simp at h
 | _::_,[],_,_,h,_=>h.elim
 | _::_::_,[_],_,0,h,_=>h.2.2.2.2.elim
 | [_],_::_::_,_,0,h,_=>h.2.2.2.2.elim
structure SI (L:Keyed->Keyed->Bool)(kd:SortKind)(a0:List Keyed)(n:Nat)(Z:List Keyed)(st:SortSt):Prop where
 kind:kindOf st=kd
 fail:failedOf st=none
 perm:(arrOf st).toList.Perm a0
 runs:∃rs:List (List Keyed),(arrOf st).toList=rs.flatten++Z/\rs.flatten.length=n/\Pd L 0 (pendingOf st).toList rs
theorem SI.merge (hC:CmpT L)(hP:PureC M A E s D L kd)(hd:∀u∈a0,D u)(h:SI L kd a0 n Z st)(hi:i+1<(pendingOf st).size)
  (q:∀st',SI L kd a0 n Z st'->(pendingOf st').size+1=(pendingOf st).size->Q true st'):wpS M A E s (mergeAt' i) Q st:=by
 obtain⟨h1,h2,h3,rs,h4,h5,h6⟩:=h;obtain⟨ra,X,Y,rb,pw,pw2,rfl,p1,p2,p3,p4,p5,p6,p7⟩:=h6.pick (i:=i) (by simpa using hi);rw[Nat.zero_add]at p1 p2;have ha:(arrOf st).toList=ra.flatten++X++Y++(rb.flatten++Z):=by rw[h4];simp
 refine ZnZ hC.to hP h1 h2 ha (λu hu=>hd u (h3.mem_iff.mp hu)) p3 p4 p5 p6 (by rw[<-YAo];exact p1) (by rw[<-YAo];exact p2) λV a g hV hp hs=>?_;have hl:=hp.length_eq;rw[YAH]at hl;refine q _ ⟨rfl,rfl,?_,ra++V::rb,?_,?_,?_⟩ ?_
 .show a.toList.Perm a0;refine List.Perm.trans ?_ h3;rw[hV,ha];have:=(List.Perm.append_left ra.flatten hp).append_right (rb.flatten++Z);simpa using this
 .show a.toList=_;rw[hV];simp
 .rw[<-h5];simp[hl];omega
 .show Pd L 0 (Array.eraseIdxIfInBounds _ _).toList _;have:=p7 V hl hs;rw[Nat.zero_add]at this;rw[Array.toList_eraseIdxIfInBounds,YDP];exact this
 .show (Array.eraseIdxIfInBounds _ _).size+1=_;rw[<-YAR,Array.toList_eraseIdxIfInBounds,YDP,YDO (by simpa using hi),List.length_set,YAR];omega
end
theorem Kept.pref {lo:Nat}{a b:Array Keyed}{F Z:List Keyed}(h:Kept lo a b)(ha:a.toList=F++Z)(hF:F.length=lo):b.toList=F++b.toList.drop lo:=by
 have e:b.toList.take lo=F:=by
  refine YCz λi=>?_;rw[YCq];by_cases hi:i<lo
  .rw[YAM hi,YAo,h.pre i hi,<-YAo,ha,YBK (by omega)]
  .rw[YAI hi,YBe (by omega)]
 conv=>lhs;rw[<-YAs lo b.toList,e]
theorem SegU.pw {L:Keyed->Keyed->Bool}{b:Array Keyed}{lo m:Nat}(h:SegU L b lo (lo+m)):((b.toList.drop lo).take m).Pairwise (Le L):=by
 rw[YDR];intro i j hi hj hij;rw[YAa,YAk,YAR]at hi hj;have e:∀k (hk:k<((b.toList.drop lo).take m).length),at0 b (lo+k)=((b.toList.drop lo).take m)[k]:=by intro k hk;rw[YAa,YAk,YAR]at hk;unfold at0;rw[getElem?_pos b (lo+k) (by omega)];simp
 rw[<-e i (by simp;omega),<-e j (by simp;omega)];exact h _ _ (by omega) (by omega) (by omega)
section
variable {M:Model}{A:AH}{E:Q33}{s:AE}{D:Keyed->Prop}{L:Keyed->Keyed->Bool}{kd:SortKind}{st:SortSt}
theorem SI.push {a0 R Z:List Keyed}{lo n p:Nat}(h:SI L kd a0 lo (R++Z) st)(h1:R.length=n)(h2:R≠[])(h3:R.Pairwise (Le L)):SI L kd a0 (lo+n) Z (setPending st ((pendingOf st).push (lo,n,p))):=by
 obtain⟨a1,a2,a3,rs,a4,a5,a6⟩:=h;refine⟨a1,a2,a3,rs++[R],?_,?_,?_⟩
 .show (arrOf st).toList=_;rw[a4];simp
 .simp[a5,h1]
 .show Pd L 0 ((pendingOf st).push (lo,n,p)).toList _;rw[YBY];exact a6.app (by simp[a5]) h1.symm h2 h3
theorem ZhH (g:α->β)(f:α->α)(h:∀x,g (f x)=g x)(l:List α)(k:Nat):(l.modify k f).map g=l.map g:=by
 refine YCz λi=>?_;rw[YAi,YAi,List.getElem?_modify];cases l[i]? with
 | none=>rfl
 | some x=>by_cases e:k=i<;>simp[e,h]
theorem SI.pow {a0 Z:List Keyed}{lo k w:Nat}(h:SI L kd a0 lo Z st):SI L kd a0 lo Z (setPending st ((pendingOf st).modify k λx=>(x.1,x.2.1,w))):=by obtain⟨a1,a2,a3,rs,a4,a5,a6⟩:=h;refine⟨a1,a2,a3,rs,a4,a5,?_⟩;show Pd L 0 ((pendingOf st).modify k _).toList _;rw[Array.toList_modify];exact a6.pow (ZhH (λt=>(t.1,t.2.1)) (λx=>(x.1,x.2.1,w)) (λ_=>rfl) _ _).symm
theorem Ziq (hC:CmpT L)(hP:PureC M A E s D L kd)(hd:∀u∈a0,D u)(hk:kindOf st=kd)(hf:failedOf st=none)(hpe:pendingOf st=#[])(ha:(arrOf st).toList=a0)
  (q:∀st',(arrOf st').toList.Perm a0->(arrOf st').toList.Pairwise (Le L)->failedOf st'=none->Q () st'):wpS M A E s sortRuns' Q st:=by
 rw[sortRuns'_eq];refine YAO (YDH ?_);dsimp only;obtain⟨N,hN⟩:∃N,N=(arrOf st).size:=⟨_,rfl⟩;have hN':a0.length=N:=by rw[hN,<-ha,YAR]
 rw[<-hN];have hSI:SI L kd a0 0 a0 st:=⟨hk,hf,by rw[ha],[],by simpa using ha,rfl,by rw[hpe];trivial⟩;refine YAO (YBy (YBS (a:=0) (b:=N) (I:=λx c st'=>∃lo Z,c=(none,lo)/\SI L kd a0 lo Z st'/\x<=lo/\lo<=N)
  (Q:=λc st'=>∃Z,c=(none,N)/\SI L kd a0 N Z st') ?step ?fin ⟨0,a0,rfl,hSI,by omega,by omega⟩) ?post)
 case fin=>
  rintro c st' ⟨lo,Z,rfl,hS,hx,hl⟩;have:lo=N:=by omega
  subst this;exact⟨Z,rfl,hS⟩
 case post=>
  rintro c st' ⟨Z,rfl,hS⟩;have hZ:∀st',SI L kd a0 N Z st'->Z=[]:=by intro st' hS;obtain⟨h1,h2,h3,rs,h4,h5,h6⟩:=hS;have:=h3.length_eq;rw[h4,YAH,h5,hN']at this;exact YCp.mp (by omega)
  dsimp only;refine YAO (YBy (YBS (a:=0) (b:=N) (I:=λx c st'=>c=(none,())/\SI L kd a0 N Z st'/\(pendingOf st').size+x<=N)
   (Q:=λc st'=>c=(none,())/\SI L kd a0 N Z st'/\(pendingOf st').size<=1) ?s2 ?f2 ⟨rfl,hS,?_⟩) ?p2)
  case f2=>
   rintro c st' ⟨rfl,hS,hx⟩;exact⟨rfl,hS,by omega⟩
  case p2=>
   rintro c st' ⟨rfl,hS,hx⟩;obtain⟨h1,h2,h3,rs,h4,h5,h6⟩:=hS;have:=hZ st' ⟨h1,h2,h3,rs,h4,h5,h6⟩;subst this;refine YAW (q st' h3 ?_ h2);have hl:=h6.len;rw[YAR]at hl;rw[h4,YDN];cases rs with
   | nil=>exact List.Pairwise.nil
   | cons r rs=>
    cases rs with
    | nil=>
     cases hps:(pendingOf st').toList with
     | nil=>rw[hps]at h6;exact h6.elim
     | cons t ps=>rw[hps]at h6;simpa using h6.2.2.2.1
    | cons r2 rs=>simp at hl;omega
  case s2=>
   rintro x c st' _ hx ⟨rfl,hS,hpx⟩;refine YAO (YDH ?_);by_cases hp1:(pendingOf st').size<=1
   .rw[YAM hp1];exact YAW ⟨rfl,hS,hp1⟩
   .rw[YAI hp1];refine YAO (hS.merge hC hP hd ?_ λst2 hS2 hp2=>?_)
    .have hle:∀(c:Prop) [Decidable c] (k:Nat),(if c then k-1 else k)<=k:=λc _ k=>by split<;>omega
     exact YCV (YCA (hle _ _)) (by omega)
    .exact YAW ⟨rfl,hS2,by omega⟩
  .obtain⟨h1,h2,h3,rs,h4,h5,h6⟩:=hS;have:=h6.le;rw[YAR]at this;omega
 case step=>
  rintro x c st' _ hx ⟨lo,Z,rfl,hS,hxl,hl⟩;dsimp only;by_cases hlo:lo>=N
  .rw[YAM hlo];have:lo=N:=by omega
   subst this;exact YAW ⟨Z,rfl,hS⟩
  rw[YAI hlo];obtain⟨h1,h2,h3,rs,h4,h5,h6⟩:=hS;have hsz:(arrOf st').size=N:=by rw[<-YAR,h3.length_eq,hN']
  have hda:∀u∈(arrOf st').toList,D u:=λu hu=>hd u (h3.mem_iff.mp hu);refine YAO (Eq.mp (congrArg (λv=>wpS M A E s (countRun' lo (N-lo)) _ v) (show setArr st' (arrOf st')=st' from rfl)) (ZmE hC hP h1 hda (by omega) (by omega) λb m hK hm1 hm2 hsm=>?_));dsimp only;have hbz:=hK.sz;by_cases hmr:m<minRun' N N 0
  .rw[YAM hmr];obtain⟨n,hn⟩:∃n,n=min (N-lo) (minRun' N N 0):=⟨_,rfl⟩;rw[<-hn];refine YAO (wpS_lift (YCH ⟨rfl,?_⟩));refine YAO (ZmG hC hP h1 (hK.d hda) (by omega) (by omega) hsm λb2 hK2 hs2=>?_);rw[YAI (by simp)];have hKb:=hK.tr hK2;have hn1:1<=n:=by omega
   have hn2:n<=N-lo:=by omega
   have hbz2:=Kept.sz hKb;have hb1:=Kept.pref hKb h4 h5;obtain⟨R,hR⟩:∃R,R=(List.drop lo (Array.toList b2)).take n:=⟨_,rfl⟩;obtain⟨Z2,hZ2⟩:∃Z2,Z2=(List.drop lo (Array.toList b2)).drop n:=⟨_,rfl⟩;have hRZ:(List.drop lo (Array.toList b2))=R++Z2:=by rw[hR,hZ2,YAs]
   have hRl:R.length=n:=by rw[hR,YAa,YAk,YAR];omega
   have hRn:R≠[]:=by intro e;rw[e]at hRl;simp at hRl;omega
   have hRs:R.Pairwise (Le L):=by rw[hR];exact SegU.pw hs2
   have hS:SI L kd a0 lo (R++Z2) (setArr st' b2):=⟨h1,h2,(YCd.mp (Kept.perm hKb)).trans h3,rs,by rw[<-hRZ];exact hb1,h5,h6⟩;refine YAO (YDH ?_);cases hb:(pendingOf (setArr st' b2)).back? with
   | none=>
    dsimp only;exact YAO (YCF (YAW ⟨lo+n,Z2,rfl,hS.push hRl hRn hRs,by omega,by omega⟩))
   | some t=>
    obtain⟨s1,n1,p1⟩:=t;dsimp only;refine YAO (YBy (YBS (a:=0) (b:=N) (I:=λy c st2=>c=(none,())/\SI L kd a0 lo (R++Z2) st2) (Q:=λc st2=>c=(none,())/\SI L kd a0 lo (R++Z2) st2) ?_ (λ_ _ h=>h) ⟨rfl,hS⟩) ?_)
    .rintro y c st2 _ _ ⟨hc,hS2⟩;subst hc;refine YAO (YDH ?_);by_cases hp:(pendingOf st2).size>1
     .rw[YAM hp];obtain⟨t,ht⟩:∃t,(pendingOf st2)[(pendingOf st2).size-2]?=some t:=⟨_,getElem?_pos _ _ (by omega)⟩;obtain⟨t1,t2,t3⟩:=t;rw[ht];dsimp only;split
      .exact YAW ⟨rfl,hS2⟩
      .exact YAO (hS2.merge hC hP hd (by omega) λst3 hS3 _=>YAW ⟨rfl,hS3⟩)
     .rw[YAI hp];exact YAW ⟨rfl,hS2⟩
    .rintro c st2 ⟨hc,hS2⟩;subst hc;exact YAO (YCF (YAO (YCF (YAW ⟨lo+n,Z2,rfl,hS2.pow.push hRl hRn hRs,by omega,by omega⟩))))
  .rw[YAI hmr];have hKb:=hK;have hbz2:=Kept.sz hKb;have hb1:=Kept.pref hKb h4 h5;obtain⟨R,hR⟩:∃R,R=(List.drop lo (Array.toList b)).take m:=⟨_,rfl⟩;obtain⟨Z2,hZ2⟩:∃Z2,Z2=(List.drop lo (Array.toList b)).drop m:=⟨_,rfl⟩;have hRZ:(List.drop lo (Array.toList b))=R++Z2:=by rw[hR,hZ2,YAs]
   have hRl:R.length=m:=by rw[hR,YAa,YAk,YAR];omega
   have hRn:R≠[]:=by intro e;rw[e]at hRl;simp at hRl;omega
   have hRs:R.Pairwise (Le L):=by rw[hR];exact SegU.pw hsm
   have hS:SI L kd a0 lo (R++Z2) (setArr st' b):=⟨h1,h2,(YCd.mp (Kept.perm hKb)).trans h3,rs,by rw[<-hRZ];exact hb1,h5,h6⟩;refine YAO (YDH ?_);cases hb:(pendingOf (setArr st' b)).back? with
   | none=>
    dsimp only;exact YAO (YCF (YAW ⟨lo+m,Z2,rfl,hS.push hRl hRn hRs,by omega,by omega⟩))
   | some t=>
    obtain⟨s1,n1,p1⟩:=t;dsimp only;refine YAO (YBy (YBS (a:=0) (b:=N) (I:=λy c st2=>c=(none,())/\SI L kd a0 lo (R++Z2) st2) (Q:=λc st2=>c=(none,())/\SI L kd a0 lo (R++Z2) st2) ?_ (λ_ _ h=>h) ⟨rfl,hS⟩) ?_)
    .rintro y c st2 _ _ ⟨hc,hS2⟩;subst hc;refine YAO (YDH ?_);by_cases hp:(pendingOf st2).size>1
     .rw[YAM hp];obtain⟨t,ht⟩:∃t,(pendingOf st2)[(pendingOf st2).size-2]?=some t:=⟨_,getElem?_pos _ _ (by omega)⟩;obtain⟨t1,t2,t3⟩:=t;rw[ht];dsimp only;split
      .exact YAW ⟨rfl,hS2⟩
      .exact YAO (hS2.merge hC hP hd (by omega) λst3 hS3 _=>YAW ⟨rfl,hS3⟩)
     .rw[YAI hp];exact YAW ⟨rfl,hS2⟩
    .rintro c st2 ⟨hc,hS2⟩;subst hc;exact YAO (YCF (YAO (YCF (YAW ⟨lo+m,Z2,rfl,hS2.pow.push hRl hRn hRs,by omega,by omega⟩))))
end
noncomputable def keyD (κ:KeyKind) (p:Keyed):κ.α:=(κ.keyOf p.1).getD κ.dflt
noncomputable def ltD (κ:KeyKind) (x y:Keyed):Bool:=κ.blt (keyD κ x) (keyD κ y)
theorem Zmd (κ:KeyKind):CmpT (ltD κ):=
 ⟨λx y _ _ h=>KeyOrd.klt_asymm (O:=κ.toKeyOrd) h,λx y z _ _ _ h1 h2=>KeyOrd.kle_trans (O:=κ.toKeyOrd) h1 h2⟩
section
theorem Zkk (hO:κ.OneLt):PureC (model prog w) A E s (λp=>∃a,κ.keyOf p.1=some a) (ltD κ) oneType':=by
 rintro st ⟨x,p⟩ ⟨y,r⟩ Q hk ⟨a,ha⟩ ⟨b,hb⟩ q;have e:ltD κ (x,p) (y,r)=κ.blt a b:=by unfold ltD keyD;rw[ha,hb];rfl
 rw[e]at q;rw[lt'_eq];refine YAO (YDH ?_);rw[hk,keyLt'_oneType];exact YAO (wpS_lift (YCa (hO prog w A _ s x y a b ha hb ⟨rfl,YAW q⟩)))
theorem ZjS {a0:Array Keyed}{st:SortSt}{Q:Unit->SortSt->Prop}(hO:κ.OneLt)(h0:KeysOf κ a0)(hk:kindOf st=oneType')(hf:failedOf st=none)(hp:pendingOf st=#[])(ha:arrOf st=a0)
  (q:∀st',(arrOf st').Perm a0->failedOf st'=none->SortedToK κ (arrOf st') a0.size->Q () st'):wpS (model prog w) A E s sortRuns' Q st:=by
 refine Ziq (a0:=a0.toList) (Zmd κ) (Zkk hO) h0 hk hf hp (by rw[ha]) λst' p1 p2 p3=>q st' (YCd.mpr p1) p3 ?_;have hsz:(arrOf st').size=a0.size:=by rw[<-YAR,p1.length_eq,YAR]
 intro i j hij hj;have hK:∀k (hk:k<(arrOf st').size),KK κ (arrOf st') k=keyD κ ((arrOf st').toList[k]'(by simpa using hk)):=by intro k hk;unfold KK keyD;rw[getElem?_pos _ k hk];rfl
 rw[hK i (by omega),hK j (by omega)];by_cases e:i=j
 .subst e;exact KeyOrd.kle_refl _
 .exact YDR.mp p2 i j (by simp;omega) (by simp;omega) (by omega)
end
section
theorem ZjR (hO:κ.OneLt) {a:AD} {vs:AC} {n:Nat} {P:Fin->AE->Prop} (ho:s.heap.get? a=some (seqObj "list" vs.toArray n))
  (h0:KeysOf κ (pairsOf vs)) (hkk:∀x y r,vs=x::y::r->keyKind' (x::y::r).toArray=pure oneType') (hN:vs.length<=sizeLine)
  (h:∀v:SortSt,(arrOf v).Perm (pairsOf vs)->SortedToK κ (arrOf v) (pairsOf vs).size->P (.done (.ret .none)) { s with heap:=sortedHeap s.heap a vs ((arrOf v).map (·.2)) }):
  wpAny (model prog w) A (Builtin.«list.sort» ⟨[.ref a],[]⟩) P E s:=by
 by_cases h64:vs.length<64
 .exact list_sort_treeK hO ho h0 hkk h64 h
 obtain⟨x,y,r,hv⟩:∃x y r,vs=x::y::r:=by
  match vs,h64 with
  | x::y::r,_=>exact⟨x,y,r,rfl⟩
  | [x],h=>simp at h
  | [],h=>simp at h
 have h2:¬vs.toArray.size<2:=by rw[YAJ];omega
 have Bl:a<s.heap.objs.size:=YAL ho;have up:=get?_update_seq ho (λ_=>#[]);generalize hep:(if (#[]:Array Value).size == vs.toArray.size then n else n+1)=ep at up;have up3:(((s.heap.update a (Obj.mapSeq λ_=>#[])).push (seqObj "tuple" vs.toArray 0)).push (seqObj "list" #[] 0)).get? a=some (seqObj "list" #[] ep):=by
  rw[Heap.get?_push_ne,Heap.get?_push_ne]
  .exact up
  .rw[Heap.size_update];exact YAf Bl
  .rw[size_push',Heap.size_update];exact YAf (YCx Bl)
 rw[list_sort_plain];refine YAA (listItems_at ho rfl (YAA (listUpdate_at ho rfl (YAA (seqEpoch_at up rfl (YAA (wpAny_newTuple (YAA (wpAny_newList (YAz ?_)))))) ) (hsz:=by rw[YAJ];exact hN))));dsimp only;rw[YAI h2,YAI h2];have hk1:keyKind' vs.toArray=pure oneType':=by rw[hv];exact hkk x y r hv
 rw[hk1];refine YAA (YAF (YAA (YBI (ZjS hO h0 (st:=SortSt.mk' oneType' (pairsOf vs) #[] 7 none) (Q:=λ_ v=>(arrOf v).Perm (pairsOf vs)/\failedOf v=none/\SortedToK κ (arrOf v) (pairsOf vs).size) rfl rfl rfl rfl λv p1 p2 p3=>⟨p1,p2,p3⟩) ?_ λ_ _ e=>e)));rintro⟨⟨⟩,v⟩ s2 ⟨rfl,p1,p2,p3⟩;dsimp only;refine YAA (seqEpoch_at up3 rfl (YAA (listUpdate_at up3 rfl ?_ (hsz2:=?_))))
 .rw[p2,bne_self_eq_false];exact YAF (h v p1 p3)
 .rw[Array.size_map,p1.size_eq,pairsOf_size];omega
end
section
theorem Zei {vs:AC}{ms:Q22}{Q:Q33}(hv:Vals (ms.map tx) vs)(h64:ms.length<=sizeLine)
  (h:∀(h':Heap) (us:AC) (e:Nat),(∀b o,s.heap.get? b=some o->h'.get? b=some o)->h'.get? s.heap.objs.size=some { cls:=.type "list",data:=.seq us.toArray e }->Vals ((ZaV ms).map tx) us->Q (.ref s.heap.objs.size) { s with heap:=h' }):
  wpAny (model prog w) A (do let l <-newList vs;let _ <-holding [l] (call (.builtin "list.sort") [l] []);ret l) (λfin s'=>∃v,fin=Fin.done (Flow.ret v)/\Q v s') E s:=by
 have hS:=Zfl hv;have Bd:vs.length<=sizeLine:=by rw[<-hv.length,YAD];exact h64
 refine YAA (wpAny_newList ?_ ?_)
 .have hoL:(s.heap.push (seqObj "list" vs.toArray 0)).get? s.heap.objs.size=some (seqObj "list" vs.toArray 0):=YAQ _ rfl;refine YAA (YAz (YCi slot_list_sort ⟨_,hoL,rfl⟩ entry_list_sort (ZjR strKind_oneLt hoL hS.keysOf (λv1 v9 rest e=>keyKind_strs (by rw[<-e];exact hS)) Bd λst' a1 a2=>⟨_,rfl,?_⟩) (args_list_sort _)));obtain⟨ss',b1,b2,b3⟩:=sorted_out_str hS a1 a2;obtain⟨e,he⟩:=sortedHeap_at (out:=(arrOf st').map (·.2)) hoL;refine YAF ⟨_,rfl,h _ ((arrOf st').map (·.2)).toList e (λb o q=>?_) ?_ ?_⟩
  .have Bl:=YAL q;have hlt':b<(s.heap.push (seqObj "list" vs.toArray 0)).objs.size:=by rw[YBW];exact YCx Bl
   exact(sortedHeap_old (YAf Bl) hlt').trans (YAB _ q)
  .have q:((arrOf st').map (·.2)).toList.toArray=(arrOf st').map (·.2):=YCf;rw[q];exact he
  .have p1:(ss'.map λx=>x.cps.toList).Perm ms:=by
    have:=b2.map (λx:Str=>x.cps.toList)
    rwa [Zhm]at this
   have e1:=Zck p1 (ZcE b3);rw[<-e1];exact Zgh b1
 .exact Bd
theorem Zgj (hh:A.handled=none)(hS:TxSet prog w s.heap S ls (!Zbi w))(h64:ls.length<=sizeLine)
  (h:∀(s':AE) (a:AD) (us:AC) (e:Nat),s.heap.get? a=none->(∀b o,s.heap.get? b=some o->s'.heap.get? b=some o)->s'.gens=s.gens->s'.os=s.os->s'.heap.get? a=some { cls:=.type "list",data:=.seq us.toArray e }->Vals ((ZaV ls).map tx) us->Q (.ref a) s'):
  wpAny (model prog w) A (call (.builtin "sorted") [.ref S]) Q E s:=by
 refine YCh kind_sorted plain_sorted entry_sorted (args_sorted1 _) ?_;unfold Builtin.«sorted»;refine YAA (m:=checkCount "sorted" 1 1 _) (YAF ?_);refine YAA (Zd4 (by first | exact hh | simpa using hh) hS h64 λs' vs ms k1 hg ho hp hv=>?_);have hl:ms.length<=sizeLine:=by rw[hp.length_eq];exact h64
 refine Zei hv hl λh' us e k2 he r=>?_;rw[Zcu hp]at r;exact h _ _ us e (by
  cases q:s.heap.get? s'.heap.objs.size with
  | none=>rfl
  | some o=>exact absurd (YAL (k1 _ _ q)) (YAv _)) (λb o q=>k2 b o (k1 b o q)) hg ho he r
end
section
end
theorem ZfP (b:Bool)(x y:Value):keyLt' (tuples' b) x y=(do
  let xs <-Builtin.List.listItems x
  let ys <-Builtin.List.listItems y
  for ((p,r),i) in (xs.toList.zip ys.toList).zipIdx do
   if !(<-eqBool p r) then return <-oneLt' (b&&i == 0) p r
  return xs.size<ys.size):=rfl
noncomputable def keyT (h:Heap):Value->Int×Q11
 | .ref a=>match h.get? a with
  | some o=>match o.data with
   | .seq xs _=>match xs.toList with
    | [.int n _,.str w _]=>(n,w.cps.toList)
    | _=>(0,[])
   | _=>(0,[])
  | none=>(0,[])
 | _=>(0,[])
noncomputable def ltP (a b:Int×Q11):Bool:=decide (a.1<b.1) || (a.1 == b.1&&decide (a.2<b.2))
noncomputable def ltT (h:Heap) (x y:Keyed):Bool:=ltP (keyT h x.1) (keyT h y.1)
theorem Zgs:ltP a b=true↔a.1<b.1\/(a.1=b.1/\a.2<b.2):=by unfold ltP;simp
theorem ZiW:ltP b a=false↔a.1<b.1\/(a.1=b.1/\¬b.2<a.2):=by
 rw[<-Bool.not_eq_true,Zgs];constructor
 .intro h;by_cases e:a.1=b.1
  .exact .inr ⟨e,λk=>h (.inr ⟨e.symm,k⟩)⟩
  .exact .inl (by have:¬b.1<a.1:=λk=>h (.inl k);omega)
 .rintro (h | ⟨h,k⟩) (l | ⟨l,m⟩)
  .omega
  .omega
  .omega
  .exact k m
theorem Zmb (h:Heap):CmpT (ltT h):=by
 refine⟨λx y _ _ e=>?_,λx y z _ _ _ e f=>?_⟩
 .unfold ltT at e ⊢;rw[Zgs]at e;rw[ZiW];rcases e with e | ⟨e,f⟩
  .exact .inl e
  .exact .inr ⟨e,List.lt_asymm f⟩
 .unfold ltT at e f ⊢;rw[ZiW]at e f ⊢;rcases e with e | ⟨e,e2⟩<;>rcases f with f | ⟨f,f2⟩
  .exact .inl (by omega)
  .exact .inl (by omega)
  .exact .inl (by omega)
  .exact .inr ⟨by omega,List.not_lt.mpr (List.le_trans (List.not_lt.mp e2) (List.not_lt.mp f2))⟩
noncomputable def IsT (h:Heap) (v:Value) (n:Int) (c:Q11):Prop:=∃a t w u e,v=.ref a/\h.get? a=some (seqObj "tuple" #[.int n t,.str w u] e)/\w.cps.toList=c
theorem IsT.key (k:IsT h v n c):keyT h v=(n,c):=by obtain⟨a,t,w,u,e,rfl,ho,rfl⟩:=k;unfold keyT;dsimp only;rw[ho]
section
theorem ZhC (h:Q (decide (a.cps.toList<b.cps.toList)) s):wpAny (model prog w) A (oneLt' false (.str a t) (.str b u)) Q E s:=by rw[oneLt'_eq];simp only[YBp,if_false];refine YAA (wpAny_richCompare_same (typeIs_str s a t) (typeIs_str s b u) slot_str_lt (call_str_lt ⟨(λz=>nomatch z),?_⟩));exact YCG h
theorem Zkj:PureC (model prog w) A E s (λp=>∃n c,IsT s.heap p.1 n c) (ltT s.heap) (tuples' true):=by
 rintro st ⟨x,p⟩ ⟨y,r⟩ Q hk ⟨n,c,hx⟩ ⟨m,d,hy⟩ q;have e:ltT s.heap (x,p) (y,r)=ltP (n,c) (m,d):=by unfold ltT;rw[hx.key,hy.key]
 rw[e]at q;obtain⟨a,t,v,u,ep,rfl,ho,rfl⟩:=hx;obtain⟨b,t2,v2,u2,ep2,rfl,ho2,rfl⟩:=hy;rw[lt'_eq];refine YAO (YDH ?_);rw[hk,ZfP];refine YAO (wpS_lift (YCa (YAA (listItems_at ho rfl (YAA (listItems_at ho2 rfl ?_))))));show wpAny _ _ (forIn [((Value.int n t,Value.int m t2),0),((Value.str v u,Value.str v2 u2),1)] _ _ >>= _) _ _ _;rw[List.forIn_cons];refine YAA (YAA (YAA (wpAny_eqBool_int ?_)));by_cases hnm:n=m
 .subst hnm;rw[YAI (by simp)];refine YAF ?_;dsimp only;rw[List.forIn_cons];refine YAA (YAA (eqBool_str ?_));by_cases hv:v=v2
  .subst hv;rw[YAI (by simp)];refine YAF ?_;dsimp only;rw[List.forIn_nil];refine YAF ?_;dsimp only;refine YAF ⟨rfl,YAW ?_⟩;have:ltP (n,v.cps.toList) (n,v.cps.toList)=false:=by unfold ltP;simp[List.lt_irrefl]
   rw[this]at q;simpa using q
  .rw[YAM (by simpa using hv)];refine YAA (ZhC (YAF (YAF ?_)));dsimp only;refine YAF ⟨rfl,YAW ?_⟩;have:ltP (n,v.cps.toList) (n,v2.cps.toList)=decide (v.cps.toList<v2.cps.toList):=by unfold ltP;simp
   rw[this]at q;exact q
 .rw[YAM (by simpa using hnm)];refine YAA (oneLt_int (YAF (YAF ?_)));dsimp only;refine YAF ⟨rfl,YAW ?_⟩;have:ltP (n,v.cps.toList) (m,v2.cps.toList)=decide (n<m):=by unfold ltP;simp[hnm]
  rw[this]at q;exact q
end
section
theorem Zcr:∀ {vs:AC} {Q:List (Option Value)->AE->Prop},(∀v∈vs,∃n c,IsT s.heap v n c) ->
  (∀us:AC,us.length=vs.length->(∀u∈us,∃n t,u=.int n t)->Q (us.map some) s)->wpAny (model prog w) A (vs.mapM firstOfTuple') Q E s
 | [],Q,_,q=>by rw[List.mapM_nil];exact YAF (q [] rfl (by simp))
 | v::vs,Q,h,q=>by
  obtain⟨n,c,a,t,x,u,e,rfl,ho,rfl⟩:=h v (by simp);rw[List.mapM_cons];refine YAA ?_;show wpAny _ _ (do
   if (<-typeOf (.ref a)) != .type "tuple" then return none
   return (<-Builtin.List.listItems (.ref a))[0]?) _ _ _
  refine YAA (wpAny_typeOf_ref ho ?_);rw[YAI (show ¬((Value.type "tuple" != Value.type "tuple")=true) by decide)];refine YAA (listItems_at ho rfl (YAF ?_));refine YAA (Zcr (λv hv=>h v (by simp[hv])) λus hl hu=>YAF ?_);refine q (.int n t::us) (by simp[hl]) λu hu'=>?_;rcases YAE.mp hu' with rfl | hu'
  .exact⟨n,t,rfl⟩
  .exact hu u hu'
theorem Zgv (hv:∀v∈vs,∃n c,IsT s.heap v n c)(hne:vs≠[])(q:Q (tuples' true) s):wpAny (model prog w) A (keyKind' vs.toArray) Q E s:=by
 rw[keyKind'_eq,List.mapM_toArray,map_eq_pure_bind,bind_assoc];refine YAA (Zcr hv λus hl hu=>?_);rw[pure_bind,YAM (by simp)];refine YAA (YCH ?_);have hI:IntsAre us (us.map numOf):=intsAre_map us hu;have e1:((us.map some).toArray.filterMap id)=us.toArray:=by simp
 rw[e1,oneTypeOnly'_eq,List.mapM_toArray,mapM_typeOf_ints hI];cases us with
 | nil=>
  cases vs with
  | nil=>exact absurd rfl hne
  | cons v vs=>simp at hl
 | cons u us=>
  simp only[map_pure,pure_bind];have h0:(List.map (λ_=>Value.type "int") (u::us)).toArray[0]?=some (Value.type "int"):=by simp
  have hall:((List.map (λ_=>Value.type "int") (u::us)).toArray.all λz=>z == Value.type "int")=true:=by rw[List.all_toArray,List.all_map,YBD];exact λ_ _=>rfl
  rw[h0];simp only[hall,if_true,pure_bind];exact YAF q
end
theorem Zhv (a g:AD):Builtin.«list.sort» ⟨[.ref a],[(Str.ofString "key",.ref g)]⟩=(do
  let its <-Builtin.List.listItems (.ref a)
  Builtin.List.listUpdate (.ref a) λ_=>#[]
  let be <-seqEpoch a
  let hd <-newTuple its.toList
  let ks <-newList []
  holding [hd,ks] do
   rule "list.sort.key"
   for x in its do
    match <-(call (.ref g) [x]).attempt with
    | .ok k=>Builtin.List.listUpdate ks (·.push k)
    | .error e=>
     rule "list.sort.key-raised"
     let md <-Builtin.List.listItems ks
     Builtin.List.listUpdate ks λ_=>#[]
     letGo md.toList.reverse [e]
     Builtin.List.listUpdate (.ref a) λ_=>its
     throw e
   let kys <-Builtin.List.listItems ks
   let kind <-if its.size<2 then pure general' else keyKind' kys
   let ((),v) <-(if its.size<2 then pure () else sortRuns').run (SortSt.mk' kind (kys.zip its) #[] 7 none)
   Builtin.List.listUpdate ks λ_=>#[]
   letGo ((arrOf v).map (·.1)).toList (failedOf v).toList
   let tch:=(<-seqEpoch a) != be
   Builtin.List.listUpdate (.ref a) λ_=>(arrOf v).map (·.2)
   if let some e:=failedOf v then rule "list.sort.comparison-raised";throw e
   if tch then rule "list.sort.modified";raiseError "ValueError" "list modified during sort"
   ret .none):=rfl
noncomputable def Kp (h g:Heap):Prop:=∀b o,h.get? b=some o->g.get? b=some o
noncomputable def KeyCall (M:Model) (A:AH) (g:AD) (vs:AC) (kf:Value->Int×Q11) (s:AE):Prop:=
 ∀(E:Q33) (s':AE) (v:Value) (Q:Q33),v∈vs->Kp s.heap s'.heap->s'.gens=s.gens->s'.os=s.os ->
  (∀(s2:AE) (k:Value),Kp s'.heap s2.heap->s2.gens=s'.gens->s2.os=s'.os->IsT s2.heap k (kf v).1 (kf v).2->Q k s2)->wpAny M A (call (.ref g) [v]) Q E s'
theorem IsT.kp (k:IsT h v n c)(q:Kp h g):IsT g v n c:=by obtain⟨a,t,w,u,e,h1,h2,h3⟩:=k;exact⟨a,t,w,u,e,h1,q _ _ h2,h3⟩
theorem IsT.up {h:Heap} {v:Value} {n:Int} {c:Q11} {K:AD} {xs:Array Value} {m:Nat} {f:Obj->Obj} (k:IsT h v n c) (hK:h.get? K=some (seqObj "list" xs m)):IsT (h.update K f) v n c:=by
 obtain⟨a,t,w,u,e,h1,h2,h3⟩:=k;refine⟨a,t,w,u,e,h1,?_,h3⟩;rw[(YAm h K f).2 a ?_]
 .exact h2
 .rintro rfl;rw[h2]at hK;have:=congrArg Obj.cls (Option.some.inj hK);exact absurd (show Value.type "tuple"=Value.type "list" from this) (by decide)
noncomputable def KeysAre (h:Heap) (kf:Value->Int×Q11) (ks vs:AC):Prop:=ks.length=vs.length/\∀(i:Nat) (k v:Value),ks[i]?=some k->vs[i]?=some v->IsT h k (kf v).1 (kf v).2
section
theorem Zja {g K a:AD}{vs:AC}{kf:Value->Int×Q11}{oa:Obj}{Q:PUnit->AE->Prop}{er:Value->Sem (ForInStep PUnit)}(hc:KeyCall (model prog w) A g vs kf s)(hK0:s.heap.get? K=none)(ha0:a≠K)(hN:vs.length<=sizeLine)
  (q:∀(s2:AE) ks n,Kp s.heap s2.heap->s2.gens=s.gens->s2.os=s.os->s2.heap.get? K=some (seqObj "list" ks.toArray n)->KeysAre s2.heap kf ks vs->s2.heap.get? a=some oa->Q ⟨⟩ s2):
  ∀(l dn ks:AC) (s':AE) (n:Nat),vs=dn++l->Kp s.heap s'.heap->s'.gens=s.gens->s'.os=s.os->s'.heap.get? K=some (seqObj "list" ks.toArray n)->KeysAre s'.heap kf ks dn->s'.heap.get? a=some oa ->
   wpAny (model prog w) A (forIn l PUnit.unit λx _=>do
    match <-(call (.ref g) [x]).attempt with
    | .ok k=>do
     Builtin.List.listUpdate (.ref K) (·.push k)
     pure (ForInStep.yield PUnit.unit)
    | .error e=>er e) Q E s'
 | [],dn,ks,s',n,hv,h1,h2,h3,h4,h5,h6=>by
  rw[YDN]at hv;subst hv;rw[List.forIn_nil];exact YAF (q s' ks n h1 h2 h3 h4 h5 h6)
 | x::l,dn,ks,s',n,hv,h1,h2,h3,h4,h5,h6=>by
  rw[List.forIn_cons];refine YAA (YAA (YCa (hc _ s' x _ (by rw[hv];simp) h1 h2 h3 λs2 k k1 k2 k3 k4=>?_)));have Bd:ks.length<vs.length:=by rw[h5.1,hv];simp
  have hK2:=k1 _ _ h4;refine YAA (listUpdate_at hK2 rfl (YAF ?_) (hsz:=by rw[YAJ];omega) (hsz2:=by rw[Array.size_push,YAJ];omega));dsimp only;have sb:=YAm s2.heap K (Obj.mapSeq λz=>z.push k);refine Zja hc hK0 ha0 hN q l (dn++[x]) (ks++[k]) _ _ (by rw[hv];simp) ?_ (k2.trans h2) (k3.trans h3) (by have:=get?_update_seq hK2 (λz=>z.push k);rw[List.push_toArray]at this;exact this) ?_ ?_
  .intro b o hb;refine(sb.2 b ?_).trans (k1 b o (h1 b o hb));rintro rfl;rw[hK0]at hb;cases hb
  .refine⟨by simp[h5.1],λi k' v' e1 e2=>?_⟩;by_cases hi:i<ks.length
   .rw[YBK hi]at e1;rw[YBK (by rw[<-h5.1];exact hi)]at e2;exact((h5.2 i k' v' e1 e2).kp k1).up hK2
   .have hi2:i=ks.length:=by have:=(YAj.mp e1).1;simp at this;omega
    subst hi2;rw[YBH (YAS _),Nat.sub_self]at e1;rw[h5.1,YBH (YAS _),Nat.sub_self]at e2;cases e1;cases e2;exact k4.up hK2
  .exact(sb.2 a ha0).trans (k1 a oa h6)
end
section
theorem Zgc (hk:KeysAre h kf ks vs){p:Keyed}(hp:p∈ks.zip vs):keyT h p.1=kf p.2/\∃n c,IsT h p.1 n c:=by
 obtain⟨i,hi,rfl⟩:=YCN hp;rw[List.length_zip]at hi;have h1:i<ks.length:=by omega
 have h2:i<vs.length:=by omega
 have:=hk.2 i ks[i] vs[i] (YAN h1) (YAN h2);rw[List.getElem_zip];exact⟨this.key,_,_,this⟩
theorem Zhu (hc:KeyCall (model prog w) A g vs kf s0)(hb:Kp s0.heap s.heap)(hg:s.gens=s0.gens)(hos:s.os=s0.os)(ha0:s0.heap.get? a=none)
  (ho:s.heap.get? a=some (seqObj "list" vs.toArray n)) (hN:vs.length<=sizeLine)
  (h:∀(s':AE) (us:AC) (e:Nat),Kp s0.heap s'.heap->s'.gens=s0.gens->s'.os=s0.os->s'.heap.get? a=some (seqObj "list" us.toArray e)->us.Perm vs->us.Pairwise (λx y=>ltP (kf y) (kf x)=false)->P (.done (.ret .none)) s'):
  wpAny (model prog w) A (Builtin.«list.sort» ⟨[.ref a],[(Str.ofString "key",.ref g)]⟩) P E s:=by
 have Bl:a<s.heap.objs.size:=YAL ho;have up:=get?_update_seq ho (λ_=>#[]);generalize hep:(if (#[]:Array Value).size == vs.toArray.size then n else n+1)=ep at up;obtain⟨h1,hh1⟩:∃h1,h1=s.heap.update a (Obj.mapSeq λ_=>#[]):=⟨_,rfl⟩;have k1:Kp s0.heap h1:=by
  intro b o q;rw[hh1,(YAm s.heap a _).2 b ?_]
  .exact hb b o q
  .rintro rfl;rw[ha0]at q;cases q
 rw[<-hh1]at up;obtain⟨K,hK⟩:∃K,K=(h1.push (seqObj "tuple" vs.toArray 0)).objs.size:=⟨_,rfl⟩;obtain⟨h3,hh3⟩:∃h3,h3=(h1.push (seqObj "tuple" vs.toArray 0)).push (seqObj "list" #[] 0):=⟨_,rfl⟩;have k3:Kp h1 h3:=λb o q=>by rw[hh3];exact YAB _ (YAB _ q)
 have oK:h3.get? K=some (seqObj "list" #[] 0):=by rw[hh3,hK];exact YAQ _ rfl
 have nK:s0.heap.get? K=none:=by
  cases z:s0.heap.get? K with
  | none=>rfl
  | some o=>
   have:=YAL (k1 _ _ z);rw[hK,size_push']at this;exact absurd this (Nat.not_lt.mpr (YCX _))
 have aK:a≠K:=by rintro rfl;have h8:=YAL up;rw[hK,size_push']at h8;exact absurd h8 (Nat.not_lt.mpr (YCX _))
 subst hK;rw[Zhv];refine YAA (listItems_at ho rfl (YAA (listUpdate_at ho rfl ?_ (hsz:=by rw[YAJ];exact hN))));rw[<-hh1];refine YAA (seqEpoch_at up rfl (YAA (wpAny_newTuple (YAA (wpAny_newList (YAz ?_))))));refine YAA (YCH ?_);rw[List.forIn_toArray];show wpAny _ _ _ _ _ { s with heap:=(h1.push (seqObj "tuple" vs.toArray 0)).push (seqObj "list" #[] 0) };rw[<-hh3];refine YAA (Zja hc nK aK hN ?_ vs [] [] { s with heap:=h3 } 0 rfl (λb o q=>k3 b o (k1 b o q)) hg hos oK ⟨rfl,λi k v e _=>by simp at e⟩ (k3 a _ up));intro s2 ks m j1 j2 j3 j4 j5 j6;dsimp only;refine YAA (listItems_at j4 rfl ?_);have fin:∀v:SortSt,failedOf v=none->((arrOf v).map (·.2)).toList.Perm vs->((arrOf v).map (·.2)).toList.Pairwise (λx y=>ltP (kf y) (kf x)=false) ->
   wpAny (model prog w) A (do
    Builtin.List.listUpdate (.ref (h1.push (seqObj "tuple" vs.toArray 0)).objs.size) λ_=>#[]
    letGo ((arrOf v).map (·.1)).toList (failedOf v).toList
    let tch:=(<-seqEpoch a) != ep
    Builtin.List.listUpdate (.ref a) λ_=>(arrOf v).map (·.2)
    if let some e:=failedOf v then rule "list.sort.comparison-raised";throw e
    if tch then rule "list.sort.modified";raiseError "ValueError" "list modified during sort"
    ret .none) P E s2:=by
  intro v f1 f2 f3;have hl:=j5.1;refine YAA (listUpdate_at j4 rfl (YAA (wpAny_letGo ?_)) (hsz:=by rw[YAJ];omega));have sb:=YAm s2.heap (h1.push (seqObj "tuple" vs.toArray 0)).objs.size (Obj.mapSeq λ_=>#[]);have a1:(s2.heap.update (h1.push (seqObj "tuple" vs.toArray 0)).objs.size (Obj.mapSeq λ_=>#[])).get? a=some (seqObj "list" #[] ep):=(sb.2 a aK).trans j6;refine YAA (seqEpoch_at a1 rfl (YAA (listUpdate_at a1 rfl ?_ (hsz2:=by have:=f2.length_eq;rw[YAR]at this;omega))))
  rw[f1,bne_self_eq_false];obtain⟨out,hout⟩:∃out,out=(arrOf v).map (·.2):=⟨_,rfl⟩;rw[<-hout]at f2 f3 ⊢;have a2:=get?_update_seq a1 (λ_=>out);generalize (if out.size == (#[]:Array Value).size then ep else ep+1)=e5 at a2;have e3:out.toList.toArray=out:=YCf;refine YAF (h _ out.toList e5 ?_ j2 j3 (by rw[e3];exact a2) f2 f3);intro b o q;refine((YAm _ a _).2 b ?_).trans ((sb.2 b ?_).trans (j1 b o q))
  .rintro rfl;rw[ha0]at q;cases q
  .rintro rfl;rw[nK]at q;cases q
 have zs:(ks.toArray.zip vs.toArray)=(ks.zip vs).toArray:=by simp
 have zm:((ks.zip vs).map (·.2))=vs:=List.map_snd_zip (by rw[j5.1];exact YAS _);by_cases h2:vs.toArray.size<2
 .rw[YAM h2,YAM h2];refine YAA (YAF ?_);rw[StateT.run_pure];refine YAA (YAF ?_);refine fin (SortSt.mk' general' (ks.toArray.zip vs.toArray) #[] 7 none) rfl ?_ ?_
  .show ((ks.toArray.zip vs.toArray).map (·.2)).toList.Perm vs;rw[zs,Array.toList_map,zm]
  .show ((ks.toArray.zip vs.toArray).map (·.2)).toList.Pairwise _;rw[zs,Array.toList_map,zm]
   match vs,h2 with
   | [],_=>exact List.Pairwise.nil
   | [x],_=>exact List.pairwise_singleton _ _
   | _::_::_,h2=>simp at h2;omega
 .rw[YAI h2,YAI h2];have hne:ks≠[]:=by intro e;have:=j5.1;rw[e]at this;rw[YAJ,<-this]at h2;simp at h2
  refine YAA (Zgv (λv hv=>?_) hne ?_)
  .obtain⟨i,hi,rfl⟩:=YCN hv;have h2:i<vs.length:=by rw[<-j5.1];exact hi
   exact⟨_,_,j5.2 i ks[i] vs[i] (YAN hi) (YAN h2)⟩
  .refine YAA (YBI (Ziq (a0:=ks.zip vs) (st:=SortSt.mk' (tuples' true) (ks.toArray.zip vs.toArray) #[] 7 none) (Q:=λ_ v=>(arrOf v).toList.Perm (ks.zip vs)/\(arrOf v).toList.Pairwise (Le (ltT s2.heap))/\failedOf v=none)
    (Zmb _) Zkj (λu hu=>(Zgc j5 hu).2) rfl rfl rfl (by show (ks.toArray.zip vs.toArray).toList=_;rw[zs]) λv p1 p2 p3=>⟨p1,p2,p3⟩) ?_ λ_ _ e=>e)
   rintro⟨⟨⟩,v⟩ s3 ⟨rfl,p1,p2,p3⟩;refine fin v p3 ?_ ?_
   .rw[Array.toList_map];have:=p1.map (λp:Keyed=>p.2);rw[zm]at this;exact this
   .rw[Array.toList_map,YBP];refine p2.imp_of_mem λ{x y} hx hy e=>?_;have e1:=(Zgc j5 (p1.mem_iff.mp hx)).1;have e2:=(Zgc j5 (p1.mem_iff.mp hy)).1;have e':ltP (keyT s3.heap y.1) (keyT s3.heap x.1)=false:=e;rw[e1,e2]at e';exact e'
end
section
def ZmK:HO->Prop
 | .tup _=>False
 | .tbl _=>False
 | .own _=>False
 | _=>True
theorem Inv.shift (I:Inv X Bb U H s)(ha:H a=some u)(hu:ZmK u)(hf:∀o v,X.H_0 a≠some (.frz o v))(new:ObjOk X.prog X.w (upd H a u') s.heap a u'):Inv X Bb U (upd H a u') s:=by
 have nn:∀b,H b=none->b≠a:=λb n z=>by rw[z,ha]at n;cases n
 refine⟨I.ok,I.os,I.bare,⟨I.base.keep,I.base.slot,λb o e n hx=>?_,I.base.there,λb xs e=>?_,λb o v e=>?_,λb ps e=>?_⟩,I.loc,I.cell,?_,λx c e=>?_,λp hp=>?_,λb ob e=>?_,I.len⟩
 .have:=I.base.free b o e n hx;rw[Zai (nn b this)];exact this
 .have:=I.base.tups b xs e;have ne:b≠a:=λz=>by rw[z,ha]at this;cases this;exact hu
  rw[Zai ne];exact this
 .have ne:b≠a:=λz=>hf o v (by rw[<-z];exact e);rw[Zai ne];exact I.base.frzs b o v e
 .obtain⟨m,q⟩:=I.base.tbls b ps e;have ne:b≠a:=λz=>by rw[z,ha]at q;cases q;exact hu
  exact⟨m,by rw[Zai ne];exact q⟩
 .rw[Zai (nn _ I.free)];exact I.free
 .rw[Zai (nn _ (I.freeC x c e))];exact I.freeC x c e
 .obtain⟨e,n,r⟩:=I.pin p hp;exact⟨e,by rw[Zai (nn _ n)];exact n,r⟩
 .by_cases hb:b=a
  .subst hb;rw[Zag]at e;cases e;exact new
  .rw[Zai hb]at e;refine(I.hok b ob e).stay (λ_ _ _ q=>q) (λc q=>?_) λc xs q=>?_
   .have ne:c≠a:=λz=>by rw[z,ha]at q;cases q;exact hu
    rw[Zai ne];exact q
   .have ne:c≠a:=λz=>by rw[z,ha]at q;cases q;exact hu
    rw[Zai ne];exact q
theorem Inv.notFrz (I:Inv X Bb U H s)(ha:H a=some u)(hu:∀o v,u≠.frz o v):∀o v,X.H_0 a≠some (.frz o v):=λo v e=>by have:=I.base.frzs a o v e;rw[ha]at this;exact hu o v (Option.some.inj this)
theorem Inv.freezeD (I:Inv X Bb U H s)(ha:H a=some (.dK kvs)):∃o es ep,o.data=.dict es ep/\s.heap.get? a=some o/\Inv X Bb U (upd H a (.frz o (.dK kvs))) s:=by obtain⟨z,y,vs,r,ob,es,ep,e,c⟩:=I.hok a _ ha;refine⟨ob,es,ep,c.2.1,e,I.shift ha trivial (I.notFrz ha λo v q=>by cases q) ⟨e,z,y,vs,r,ob,es,ep,e,c⟩⟩
theorem Inv.thawD (I:Inv X Bb U H s)(ha:H a=some (.frz o (.dK kvs)))(hf:∀o v,X.H_0 a≠some (.frz o v)):Inv X Bb U (upd H a (.dK kvs)) s:=by obtain⟨e,z,y,vs,r,c⟩:=I.hok a _ ha;exact I.shift ha trivial hf ⟨z,y,vs,r,c⟩
end
theorem Zmp (h:(ZaD P w).is k u=true):RelV (kV k) u:=by
 cases k with
 | inl i=>
  have h':(intKind P w).is i u=true:=h;cases u<;>first | (exact absurd h' YAC) | skip
  rename_i j t
  have e:(i == j)=true\/(j == i)=true:=by first | exact .inl h' | exact .inr h'
  rcases e with e | e
  .exact⟨t,by rw[beq_iff_eq.mp e]⟩
  .exact⟨t,by rw[beq_iff_eq.mp e]⟩
 | inr x=>
  have h':(strKind P w).is x u=true:=h;cases u<;>first | (exact absurd h' YAC) | skip
  rename_i j t
  have e:(x == j)=true\/(j == x)=true:=by first | exact .inl h' | exact .inr h'
  rcases e with e | e
  .exact⟨t,by rw[beq_iff_eq.mp e]⟩
  .exact⟨t,by rw[beq_iff_eq.mp e]⟩
def Itd (o:Obj)(kvs:List (Key×V))(a:AD):It:=
 ⟨λi H=>H a=some (.frz o (.dK kvs))/\i<kvs.length,λi H x H'=>H'=H/\∃p,kvs[i]?=some p/\x=kV p.1,λi H=>H a=some (.frz o (.dK kvs))/\kvs.length<=i⟩
theorem KV.getK (r:KV kvs vs):∀ {i:Nat} {p:Key×V},kvs[i]?=some p->∃v,vs[i]?=some (p.1,v):=by
 intro i p h;have hk:=r.keys;have hl:=r.length;have hi:i<vs.length:=by rw[<-hl];exact(YAj.mp h).1
 have e1:(kvs.map (·.1))[i]?=some p.1:=by rw[YAi,h];rfl
 rw[hk,YAi,YAN hi]at e1;refine⟨vs[i].2,?_⟩;rw[YAN hi];have:vs[i].1=p.1:=Option.some.inj e1;rw[<-this]
theorem Zib {P:AG}{w:AI}{K:Q4}{tg:Expr}{o:Obj}{es:Array DictEntry}{ep:Nat}{kvs:List (Key×V)}(a it:AD)(hd:o.data=.dict es ep):Turn P w K tg (Itd o kvs a) [it] it (λi h=>h.IsKeyIter it a i kvs.length ep) where
 mem:=by simp
 obj:=λi h st b hb=>by
  have e:b=it:=by simpa using hb
  subst e;obtain⟨o,e,c,d⟩:=st;exact⟨o,e,λv z=>by rw[d]at z;cases z⟩
 keep:=λi h h' st k=>let ⟨o,ho,r⟩:=st;⟨o,k it (by simp) o ho,r⟩
 item:=by intro X hP hw hK hc i Bb s U H E I hf st hg;subst hP hw hK;obtain⟨ha,hi⟩:=hg;obtain⟨e,z,y,vs,r,o',es',ep',e',c1,c2,c3⟩:=I.hok a _ ha;rw[e]at e';cases e';rw[hd]at c2;cases c2;obtain⟨v,hv⟩:=r.getK (YAN hi);obtain⟨f0,f1,f2,f3,f4,f5⟩:=hf it (by simp);rw[r.length]at st;refine wpAny_pyNext_dict_item st ⟨o,es,e,c1,hd,c3⟩ hv λkey h' hk st' sb=>?_;have I1:Inv X Bb U H { s with heap:=h' }:=I.turned (t':=s.toks) (λb o hb e=>(sb.2 b hb).trans e) f0 f1 f3 f4 f5;obtain⟨oi,ei,ci,di⟩:=id st';rw[<-r.length]at st';exact⟨key,rfl,Zkr (s:={ s with heap:=h' }) ei ci di (by decide) ⟨kV kvs[i].1,H,I1,Zmp hk,⟨rfl,_,YAN hi,rfl⟩,st',λb hb=>(hf b hb).1⟩⟩
 done:=by intro X hP hw hK hc i Bb s U H E I hf st hg;subst hP hw hK;obtain⟨ha,hi⟩:=hg;obtain⟨e,z,y,vs,r,o',es',ep',e',c1,c2,c3⟩:=I.hok a _ ha;rw[e]at e';cases e';rw[hd]at c2;cases c2;obtain⟨f0,f1,f2,f3,f4,f5⟩:=hf it (by simp);rw[r.length]at st hi;exact wpAny_pyNext_dict_end (I.ok.hd hc) st ⟨o,es,e,c1,hd,c3⟩ (YBe hi) λh' eb=>⟨rfl,I.turned (t':=s.toks) (λb o hb e=>eb b o hb e) f0 f1 f3 f4 f5⟩
 self:=λ_ _ _ _ _ st h=>wpAny_pyIter_keyiter st h
section
def Zop (td:TE):TI:=λU H R=>td U H λx H1=>∃a kvs,x=.ref a/\H1 a=some (.dK kvs)/\∀o,R (Itd o kvs a) (upd H1 a (.frz o (.dK kvs)))
theorem ZlU (hl:PE X l tl):PI X tg l (Zop tl):=by
 intro Bb s U H R I h;refine thn (hl Bb s U H _ I h) λv s1 zz=>?_;obtain⟨x,H1,I1,r1,q1⟩:=zz;obtain⟨a,kvs,e,hq,q⟩:=q1;subst e;cases r1;obtain⟨z,y,vs,r,_⟩:=id (I1.hok a _ hq);obtain⟨o,es,ep,hd,ho,I2⟩:=I1.freezeD hq;obtain⟨_,z2,y2,vs2,r2,o',es',ep',e',c1,c2,c3⟩:=I2.hok a _ Zag;rw[ho]at e';cases e';rw[hd]at c2;cases c2;refine wpAny_pyIter_dict y2 ⟨o,es,ho,c1,hd,c3⟩ ?_;refine⟨s1.heap.objs.size,[s1.heap.objs.size],_,_,_,rfl,I2.kept (t':=s1.toks) λb o e=>YAB _ e,Zib (kvs:=kvs) a _ hd,⟨_,YAQ _ rfl,rfl,by rw[r2.length];rfl⟩,λb hb=>?_,q o⟩;have e:b=s1.heap.objs.size:=by simpa using hb
 subst e;exact I2.fpOk (YAS _) (I2.hok.fresh (YAS _))
def Thw (a:AD)(P:Hp->Prop)(H':Hp):Prop:=∃o kvs,H' a=some (.frz o (.dK kvs))/\P (upd H' a (.dK kvs))
def thD (a:AD)(D:Ends):Ends:={ nx:=λU H=>Thw a (D.nx U) H,rt:=λv H=>Thw a (D.rt v) H,bk:=λU H=>Thw a (D.bk U) H,ct:=λU H=>Thw a (D.ct U) H }
def Zm9 (ts:TS):TS:=λD U H=>∃a kvs,H a=some (.dK kvs)/\ts (thD a D) U H
theorem ZlR {st:Stmt}{ts:TS}(h:PS X st ts):PS X st (Zm9 ts):=by
 intro Bb s U H D I ⟨a,kvs,ha,hh⟩;have nf:=I.notFrz ha λo v q=>by cases q
 refine YBI (h Bb s U H _ I hh) (λf s1 q=>?_) λ_ _ z=>z;cases f with
 | next=>obtain⟨U1,H1,I1,o,k1,e1,q1⟩:=q;exact⟨U1,_,I1.thawD e1 nf,q1⟩
 | brk=>obtain⟨U1,H1,I1,o,k1,e1,q1⟩:=q;exact⟨U1,_,I1.thawD e1 nf,q1⟩
 | cont=>obtain⟨U1,H1,I1,o,k1,e1,q1⟩:=q;exact⟨U1,_,I1.thawD e1 nf,q1⟩
 | ret u=>obtain⟨v,U1,H1,I1,r,o,k1,e1,q1⟩:=q;exact⟨v,U1,_,I1.thawD e1 nf,r,q1⟩
end
section
theorem ForRun.dict (Pv:Nat->St->Hp->Prop)(h0:Pv 0 U H)(hl:∀i U H,Pv i U H->H a=some (.frz o (.dK kvs)))
  (hs:∀i p U H,kvs[i]?=some p->Pv i U H->g (kV p.1) U H λU2 H2=>tb { D with nx:=Pv (i+1),ct:=Pv (i+1),bk:=D.nx } U2 H2) (hd:∀U H,Pv kvs.length U H->D.nx U H):ForRun (Itd o kvs a) g tb D U H:=by
 refine⟨λi m U H=>m=kvs.length-i/\i<=kvs.length/\Pv i U H,⟨kvs.length,by simp,YAx _,h0⟩,?_⟩;rintro i m U H ⟨rfl,hi,p⟩;have q:=hl i U H p;by_cases Bl:i<kvs.length
 .refine .inr ⟨⟨q,Bl⟩,Pv (i+1),λU' H' p'=>⟨kvs.length-(i+1),by omega,rfl,Bl,p'⟩,λx H' y=>?_⟩;obtain⟨e,p2,e2,e3⟩:=y;subst e e3;exact hs i p2 U _ e2 p
 .have e:i=kvs.length:=by omega
  subst e;exact .inl ⟨⟨q,YAS _⟩,hd U H p⟩
end
theorem Same.thaw (ha:H a=some (.dK kvs))(s:Same (upd H a (.frz o (.dK kvs))) H2):Same H (upd H2 a (.dK kvs)):=λb u hb=>by
 by_cases e:b=a
 .rw[e]at hb ⊢;rw[Zag,<-hb,ha]
 .rw[Zai e];exact s b u (by rw[Zai e];exact hb)
theorem Ze1:typeLookup (.type "dict") "__len__"=pure (some (.builtin "dict.__len__")):=by rw[typeLookup_type,builtinLookup_eq_fast];kernel_rfl
theorem Zct:∀ {vs:List V} {us:AC},vs.length=us.length->(∀(i:Nat) (x:V) (u:Value),vs[i]?=some x->us[i]?=some u->RelV x u)->Vals vs us
 | [],[],_,_=>.nil
 | [],_::_,h,_=>by simp at h
 | _::_,[],h,_=>by simp at h
 | x::vs,u::us,h,r=>.cons (r 0 x u rfl rfl) (Zct (by simpa using h) λi y v h1 h2=>r (i+1) y v h1 h2)
section
theorem Zf3 (hh:A.handled=none)(hd:(S == sysModules)=false)(hS:s.heap.DictAt (ZaD prog w) S ls ep)(hn:ls.length<=sizeLine)
  (hQ:∀(s':AE) (vs:AC),(∀b o,s.heap.get? b=some o->s'.heap.get? b=some o)->s'.gens=s.gens->s'.os=s.os->Vals (ls.map λp=>kV p.1) vs->Q vs s'):wpAny (model prog w) A (collect (.ref S)) Q E s:=by
 unfold collect;refine YAA (wpAny_runValue (codeAny_builtin F.entry_proto_collect ?_));rw[YBs F.plain_proto_collect _];show wpAny _ A.in1 (newList [] >>= λl=>again (.builtin "list.__iadd__" ⟨[l,.ref S],[]⟩)) _ _ s;refine YAA (YBk (YAF ⟨plainId_quiet F.plain_list_iadd _,codeAny_builtin F.entry_list_iadd ?_⟩));rw[YBs F.plain_list_iadd _];generalize hH:s.heap.push { cls:=.type "list",data:=.seq ([]:AC).toArray }=H;have hHs:H.objs.size=s.heap.objs.size+1:=by rw[<-hH,YBW]
 have hL:H.get? s.heap.objs.size=some { cls:=.type "list",data:=.seq ([]:AC).toArray }:=hH▸YAQ _ rfl;have k1:∀b o,s.heap.get? b=some o->H.get? b=some o:=λb o e=>hH▸YAB _ e;have hS1:H.DictAt (ZaD prog w) S ls ep:=hS.keep k1;have hT:Shared.TypeIs { s with heap:=H } (.ref S) "dict":=hS1.dictOf.typeIs;have nS:S≠s.heap.objs.size:=YAf hS.lt_size;show wpAny _ A.in1 (Builtin.List.listExtendWith (.ref s.heap.objs.size) (.ref S) (.ref s.heap.objs.size)) _ _ { s with heap:=H };unfold Builtin.List.listExtendWith;refine YAA (wpAny_typeOf hT ?_);have h1:Builtin.List.listSameRef (.ref s.heap.objs.size) (.ref S)=false:=by simp[Builtin.List.listSameRef,YAh nS]
 have h2:(Value.type "dict" == Value.type "list")=false:=by decide
 have h3:(Value.type "dict" == Value.type "tuple")=false:=by decide
 simp only[h1,h2,h3,Bool.or_false,YBp,if_false];refine YAA (wpAny_pyIter_dict (s:={ s with heap:=H }) hd hS1 ?_);obtain⟨I,hI0⟩:∃I,I=H.objs.size:=⟨_,rfl⟩;obtain⟨h2',hh2⟩:∃h2',h2'=H.push { cls:=.type "dict_keyiterator",data:=.fields #[.ref S,.int 0 0,.int ls.length 0,.int ep 0] }:=⟨_,rfl⟩;rw[<-hh2];show wpAny _ A.in1 (holding [.ref H.objs.size] (Builtin.List.listLengthHint (.ref S)) >>= _) _ _ _;rw[<-hI0];have k2:∀b o,H.get? b=some o->h2'.get? b=some o:=λb o e=>by rw[hh2];exact YAB _ e
 have hI:H.objs.size<=I:=YCC hI0.symm;have nI:S≠I:=by rw[hI0];exact YAf hS1.lt_size
 have st0:h2'.IsKeyIter I S 0 ls.length ep:=⟨_,by rw[hh2,hI0];exact YAQ _ rfl,rfl,rfl⟩;have hS2:h2'.DictAt (ZaD prog w) S ls ep:=hS1.keep k2;have W:∀A':AH,A'.handled=none->_:=λA' hA=>Walks.dictKeys (prog:=prog) (w:=w) (knd:=ZaD prog w) (A:=A') hA I S nI ls ep;have st:=And.intro st0 hS2;have hfp:∀b∈[I,S],b=S\/H.objs.size<=b:=λb hb=>by
  rcases YAE.mp hb with z | z
  .exact .inr (by rw[z];exact hI)
  .exact .inl (by simpa using z)
 have hT2:Shared.TypeIs { s with heap:=h2' } (.ref S) "dict":=hS2.dictOf.typeIs;refine YAA (YAz ?_);unfold Builtin.List.listLengthHint;refine YAA (wpAny_specialOf hT2 Ze1 ?_)
 wp_delta
 refine YAA (wpAny_isInstance (T:="dict") (v:=.ref S) (b:=true) hT2 (by rw[isSubtype_type];kernel_rfl) ?_);show wpAny _ A.in1 (typeOf (Value.ref S) >>= λr=>_) _ _ _;refine YAA (wpAny_typeOf hT2 ?_);refine YAF ?_;rw[YAM (by decide)];refine YAA (YCH ?_);have hL2:h2'.get? s.heap.objs.size=some { cls:=.type "list",data:=.seq ([]:AC).toArray }:=k2 _ _ hL;refine YAA ?_;show wpAny _ A.in1 (updateSeq s.heap.objs.size (·.push .none) >>= λ_=>updateSeq s.heap.objs.size (·.pop)) _ _ _;refine YAA (wpAny_updateSeq hL2 rfl ?_);have hL3:=YBO (Obj.mapSeq (·.push Value.none)) hL2 rfl;refine wpAny_updateSeq hL3 rfl ?_;have hL4:=YBO (Obj.mapSeq (·.pop)) hL3 rfl;have oth:∀b o,b≠s.heap.objs.size->h2'.get? b=some o->((h2'.update s.heap.objs.size (Obj.mapSeq (·.push Value.none))).update s.heap.objs.size (Obj.mapSeq (·.pop))).get? b=some o:=
  λb o hb e=>(YAw _ _ (YAh hb)).trans ((YAw _ _ (YAh hb)).trans e)
 have hle:s.heap.objs.size+1<=I:=by rw[<-hHs];exact hI
 have hSf:s.heap.objs.size∉[I,S]:=λz=>by
  rcases hfp _ z with q | q
  .exact nS q.symm
  .have q':H.objs.size<=s.heap.objs.size:=q;rw[hHs]at q';exact absurd q' (Nat.not_succ_le_self _)
 refine YAF ⟨plainId_quiet F.plain_extend_loop _,codeAny_extend_loopS (W A.in1 hh).toS hn _ hSf _ ls.length 0 _ _ _ rfl (YAx _) ((W A.in1 hh).frame 0 h2' _ st λb hb o e=>oth b o (λz=>hSf (z▸hb)) e) hL4 (ItemsOf.nil _) λs' acc' c' hm hS' Be=>?_⟩;show wpAny _ A (load s.heap.objs.size >>= λr=>_) _ _ s';refine YAA (wpAny_load hS' ?_);have hvs:Vals (ls.map λp=>kV p.1) acc'.toList:=by refine Zct (by rw[YAD];exact(Array.length_toList.trans Be.1).symm) λi x u h1 h2=>?_;rw[YAo]at h2;obtain⟨k,v,e,hk⟩:=Be.2 i u h2;rw[YAi,e]at h1;cases h1;exact Zmp hk
 have done:=hQ s' acc'.toList (λb o e=>by
  have Bl:=YAL e;refine hm.heap b o (λz=>?_) (oth b o (YAf Bl) (k2 b o (k1 b o e)));rcases YAE.mp z with q | q
  .rw[q]at Bl;exact YAv _ Bl
  .have q:b=I:=by simpa using q
   rw[q]at Bl;exact absurd Bl (Nat.not_lt.mpr (Nat.le_of_succ_le hle))) hm.gens hm.os hvs
 exact YAF done
end
def kTx (l:Q11):Key:=.inr ⟨l.toArray⟩
theorem ZpW (l:Q11):kV (kTx l)=tx l:=rfl
section
end
section
end
section
end
section
end
section
end
def kfT:Value->Int×Q11
 | .str x _=>((x.length:Nat),x.cps.toList)
 | _=>(0,[])
abbrev ZdN (x:Str)(p1 p2 p3 p4 p5:Pos)(k:Nat):Expr:=.Tuple [.Call (.Name "len" p1) [.Name x p2] [] p3,.Name x p4] k p5
structure LamSc (scope:Scope)(x:Str):Prop where
 kind:scope.kind=.function
 co:scope.isCoroutine=false
 gen:scope.isGenerator=false
 loc:scope.names.lookup x=some .local
 glb:scope.names.lookup ("len":Str)=some .globalImplicit
 nodbg:(x == ("__debug__":Str))=false
section
theorem ZjF (f:Str->Option NameKind){x:Str}{v:Value}(h:f x=some .local):bindL f [(x,v)] (λ_=>none) x=some v:=by unfold bindL bindL;rw[YAM h,YAM rfl]
theorem Zmf 
  (ho:s.heap.get? g=some o) (hod:o.data=.func (PySem.W.kla_fn name qual params (ZdN x p1 p2 p3 p4 p5 k) scope [] pm cv ctv)) (hcd:s.heap.CodeRec cv qual) (S:LamSc scope x)
  (hb:∀(s:AE) (u:Value),BindsTo s (PySem.W.kla_fn name qual params (ZdN x p1 p2 p3 p4 p5 k) scope [] pm cv ctv) ⟨[u],[]⟩ [(x,u)]) (hroom:A.depth<recursionLimit) (hlim:s.heap.NoLimit)
  (hg:s.heap.Ns mainGlobals mg) (hgl:mg "len"=none) (hbn:s.heap.Ns builtinsNs mb) (hbb:mb "len"=bootBuiltins "len") (hv:∀v∈vs,∃y t,v=.str y t/\y.length<=sizeLine):KeyCall (model prog w) A g vs kfT s:=by
 intro E s' v Q hvm hk hgen hos q;obtain⟨y,t,rfl,hy⟩:=hv v hvm;have hs:sizeLine=16777216:=sizeLine_eq;refine YCI (PySem.W.kla_callFunE hroom (hk _ _ ho) hod S.co S.gen rfl (let ⟨c,oc,ws,tq,e1,e2,r⟩:=hcd;⟨c,oc,ws,tq,e1,hk _ _ e2,r⟩) (hb _ _ _ _ _ _ ?_));refine wpAny_newFunctionEnv_cells S.kind (λz hz=>.inl (by rw[YAG.mp hz];exact S.loc)) λenv he s1 X=>?_;refine⟨(hlim.keeps hk).keeps X.toInCall.keep,PySem.W.kla_codeExpr ?_⟩;subst he;obtain⟨h1,tk1,e1⟩:=X.toInCall.same;have kp1:Kp s'.heap s1.heap:=X.toInCall.keep;have lnm:∀(pp:Pos) (B:AH) (E2:Q33) (s2:AE) (Q2:Q33),Kp s1.heap s2.heap->Q2 (.str y t) s2->wpAny (model prog w) B (eval (.Name x pp) (newEnv scope s'.heap.objs.size mainGlobals (cellsFrom (s'.heap.objs.size+1) scope.names []) (qual++".<locals>.") (some g) cv none builtinsNs)) Q2 E2 s2:=λpp B E2 s2 Q2 k2 q2=>
  wpAny_Name (wpAny_loadName_local S.kind S.loc (X.toInCall.ns.keeps k2) (by exact ZjF _ S.loc) q2) S.nodbg
 refine wpAny_Tuple_spliced ?_;show wpAny _ _ (spliced ((false,eval (.Call (.Name "len" p1) [.Name x p2] [] p3) _)::backTo p5 (starEach [.Name x p4] _))) _ _ s1;refine YCu ?_;refine YBg (Calls.Name_function_global S.kind S.glb (Calls.loadGlobal_builtin (v:=.builtin "len") (show s1.heap.Ns mainGlobals mg from(hg.keeps hk).keeps kp1) hgl (show s1.heap.Ns builtinsNs mb from(hbn.keeps hk).keeps kp1) (hbb.trans rfl) ?_) (by decide));refine YDA ?_ rfl rfl;show wpAny _ _ (spliced ((false,eval (.Name x p2) _)::backTo p3 (starEach [] _))) _ _ s1;refine YCu (lnm p2 _ _ _ _ (λ_ _ e=>e) (Calls.spliced_nil ?_));refine len_str (by omega) ?_;show wpAny _ _ (spliced ((false,eval (.Name x p4) _)::backTo p5 (starEach [] _))) _ _ _;refine YCu (lnm p4 _ _ _ _ (λ_ _ e=>e) (Calls.spliced_nil ?_));refine⟨by rw[hs];show 2<=16777216;decide,?_⟩;rw[e1];refine q _ _ (λb o e=>YAB _ (by have:=kp1 b o e;rw[e1]at this;exact this)) rfl rfl ⟨_,_,_,_,_,rfl,YAQ _ rfl,rfl⟩
end
theorem Zd9 (a v:Value):argsOk "sorted" ⟨[a],[(Str.ofString "key",v)]⟩:=by unfold argsOk;kernel_rfl
theorem ZcV (a v:Value):argsOk "list.sort" ⟨[a],[(Str.ofString "key",v)]⟩:=by unfold argsOk;kernel_rfl
section
theorem Zgk (eo:s.heap.get? a=some (seqObj "list" its.toArray n)) (hc:KeyCall (model prog w) A.in1.in1 g its kf s) (hN:its.length<=sizeLine)
  (h:∀(s':AE) (r:AD) (us:AC) (e:Nat),s.heap.get? r=none->Kp s.heap s'.heap->s'.gens=s.gens->s'.os=s.os->s'.heap.get? r=some (seqObj "list" us.toArray e)->us.Perm its->us.Pairwise (λx y=>ltP (kf y) (kf x)=false)->Q (.ref r) s'):
  wpAny (model prog w) A (call (.builtin "sorted") [.ref a] [(Str.ofString "key",.ref g)]) Q E s:=by
 refine call_function_entry_kw kind_sorted plain_sorted entry_sorted (Zd9 _ _) ?_;unfold Builtin.«sorted»;refine YAA (m:=checkCount "sorted" 1 1 _) (YAF ?_);refine YAA (collect_list (PySem.IsL.isList eo) ?_ hN);have sb:=YAm (s.heap.push (seqObj "list" #[] 0)) s.heap.objs.size (Obj.mapSeq (·++its.toArray));have k1:Kp s.heap ((s.heap.push (seqObj "list" #[] 0)).update s.heap.objs.size (Obj.mapSeq (·++its.toArray))):=λb o e=>(sb.2 b (YAf (YAL e))).trans (YAB _ e);generalize ((s.heap.push (seqObj "list" #[] 0)).update s.heap.objs.size (Obj.mapSeq (·++its.toArray)))=g1 at k1 ⊢;have nw:s.heap.get? g1.objs.size=none:=by
  cases z:s.heap.get? g1.objs.size with
  | none=>rfl
  | some o=>exact absurd (YAL (k1 _ _ z)) (YAv _)
 refine YAA (wpAny_newList ?_ hN);have hoL:(g1.push (seqObj "list" its.toArray 0)).get? g1.objs.size=some (seqObj "list" its.toArray 0):=YAQ _ rfl;refine YAA (YAz (wpAny_call_entry_kw slot_list_sort ⟨_,hoL,rfl⟩ entry_list_sort (Zhu (s0:=s) hc (λb o e=>YAB _ (k1 b o e)) rfl rfl nw hoL hN λs' us e k2 e1 e2 e3 e4 e5=>⟨_,rfl,?_⟩) (ZcV _ _)));exact YAF ⟨_,rfl,h s' _ us e nw k2 e1 e2 e3 e4 e5⟩
end
def BefW (a b:Q11):Prop:=a.length<b.length\/(a.length=b.length/\a<b)
theorem ZfH:∀ {a b:Q11} {x y:Q11},a.length=b.length->a<b->a++x<b++y
 | [],[],_,_,_,h=>by cases h
 | [],_::_,_,_,e,_=>by simp at e
 | _::_,[],_,_,e,_=>by simp at e
 | c::a,d::b,x,y,e,h=>by
  rw[YCk,YCk];cases h with
  | rel h=>exact List.Lex.rel h
  | cons h=>exact List.Lex.cons (ZfH (by simpa using e) h)
theorem ZiV:∀(a:Q11) {c d:Nat},c<d->a++[c]<a++[d]
 | [],_,_,h=>List.Lex.rel h
 | _::a,_,_,h=>List.Lex.cons (ZiV a h)
theorem ZiU:∀(a b:Q11),a<b\/a=b\/b<a
 | [],[]=>.inr (.inl rfl)
 | [],_::_=>.inl .nil
 | _::_,[]=>.inr (.inr .nil)
 | c::a,d::b=>by
  rcases Nat.lt_trichotomy c d with h | h | h
  .exact .inl (List.Lex.rel h)
  .subst h;rcases ZiU a b with h | h | h
   .exact .inl (List.Lex.cons h)
   .exact .inr (.inl (by rw[h]))
   .exact .inr (.inr (List.Lex.cons h))
  .exact .inr (.inr (List.Lex.rel h))
theorem Zfg (l:Q11)(n:Nat):(wordsOf l n).Pairwise (· < ·):=by
 have h1:(wordsOf l n).Pairwise (λa b=>leT a b=true):=Zbo _;have h2:(wordsOf l n).Nodup:=(ZaI _).nodup_iff.mpr (by rw[<-Ze5];exact ZcR _);refine(h1.and h2).imp ?_;rintro a b ⟨x,y⟩;have x':¬b<a:=by simpa [leT] using x
 rcases ZiU a b with z | z | z
 .exact z
 .exact absurd z y
 .exact absurd z x'
theorem ZaZ (hm:m.Pairwise (· < ·)):(ZaK l m).Pairwise BefW:=by
 unfold ZaK ZfL;have len:∀k w,k<=l.length->w∈ZfN (wordsOf l k) (wordsOf l (k+1)) m->w.length=k+1:=λk w hk hw=>by obtain⟨h,c,h1,_,rfl,_⟩:=ZdL.mp hw;rw[Zbb (by omega)]at h1;rw[YAH,h1.1];rfl
 rw[List.pairwise_flatMap];refine⟨λk hk=>?_,?_⟩
 .have hk:=YBA.mp hk;unfold ZfN;rw[List.pairwise_flatMap];refine⟨λh hh=>?_,?_⟩
  .unfold ZhN;rw[YBP];exact(hm.filter _).imp λ{c d} hcd=>.inr ⟨by simp,ZiV h hcd⟩
  .refine List.Pairwise.imp_of_mem ?_ (Zfg l k);intro a b ha hb hab x hx y hy;have la:=((Zbb (l:=l) (by omega)).mp ha).1;have lb:=((Zbb (l:=l) (by omega)).mp hb).1;unfold ZhN at hx hy;obtain⟨c,_,rfl⟩:=YAt.mp hx;obtain⟨d,_,rfl⟩:=YAt.mp hy;exact .inr ⟨by simp[la,lb],ZfH (by rw[la,lb]) hab⟩
 .refine List.Pairwise.imp_of_mem ?_ List.pairwise_lt_range;intro i j hi hj hij x hx y hy;have hi:=YBA.mp hi;have hj:=YBA.mp hj;exact .inl (by rw[len i x (by omega) hx,len j y (by omega) hy];omega)
theorem Zdt:¬BefW a a:=λh=>h.elim (λh=>YAv _ h) λh=>List.lt_irrefl _ h.2
theorem ZdJ {α:Type}[DecidableEq α]:∀(l m:List α),l.Nodup->(∀x∈l,x∈m)->l.length<=m.length
 | [],m,_,_=>YAx _
 | x::l,m,nd,h=>by have hx:=h x YAg;have nd':=YBw.mp nd;have:=ZdJ l (m.erase x) nd'.2 λy hy=>(List.mem_erase_of_ne (λe=>by rw[e]at hy;exact nd'.1 hy)).mpr (h y (YAX _ hy));rw[List.length_erase_of_mem hx]at this;have pos:0<m.length:=List.length_pos_of_mem hx;rw[YAl];omega
end L2
namespace L2
open PySem PySem.Spec PyProof.Rows PySem.W
def ZdS:HO->Bool
 | .tbl _=>true
 | _=>false
def SameL (H H':Hp):Prop:=∀b o,H b=some o->ZdS o=false->H' b=some o
theorem SameL.refl (H:Hp):SameL H H:=λ_ _ e _=>e
theorem SameL.trans (a:SameL H H1)(b:SameL H1 H2):SameL H H2:=λc o e n=>b c o (a c o e n) n
theorem Same.l (s:Same H H'):SameL H H':=λb o e _=>s b o e
def Zfe (c:AD)(q:Str):HO:=.ext λh=>h.CodeRec (.ref c) q
theorem ZkF (x:h.CodeRec (.ref c) q):ObjOk P w H h c (Zfe c q):=by obtain⟨c',o,vs,t,e,e1,r⟩:=id x;cases e;refine⟨x,⟨o,e1⟩,λh1 h2 x1 k=>?_⟩;obtain⟨c',o,vs,t,e,e1,r⟩:=x1;cases e;exact⟨c,o,vs,t,rfl,k _ e1,r⟩
def TblOk (H:Hp)(P:AD)(pos:Pos)(q:Str):Prop:=∃ps,H P=some (.tbl ps)/\TriplesOk ps.toList/\(codeAmong pos ps.toList=none\/∃c,codeAmong pos ps.toList=some (.ref c)/\H c=some (Zfe c q))
theorem TblOk.same (t:TblOk H P pos q)(s:Same H H'):TblOk H' P pos q:=by obtain⟨ps,e,tr,h⟩:=t;exact⟨ps,s _ _ e,tr,h.imp id λ⟨c,e1,e2⟩=>⟨c,e1,s _ _ e2⟩⟩
theorem tbl_new (h:H P=some (.tbl #[])):TblOk H P pos q:=⟨#[],h,trivial,.inl rfl⟩
theorem Zd5 {pos pos':Pos}{c:Value}(hne:pos'.line≠pos.line\/pos'.col≠pos.col)(l:AC)(h:TriplesOk l):codeAmong pos' (l++[rawInt pos.line,rawInt pos.col,c])=codeAmong pos' l:=by
 fun_induction TriplesOk l with
 | case1=>
  simp only[List.nil_append,codeAmong,rawInt];rw[YAI];intro z;simp only[YAP,beq_iff_eq]at z;rcases hne with n | n
  .exact n (by have:=z.1;omega)
  .exact n (by have:=z.2;omega)
 | case2 a t b u x rest ih=>
  simp only[YCk,codeAmong];rw[ih h]
 | case3 l h1 h2=>exact h.elim
def SameT (pos:Pos)(H H':Hp):Prop:=SameL H H'/\∀(P':AD) (pos':Pos) (q':Str),(pos'.line≠pos.line\/pos'.col≠pos.col)->TblOk H P' pos' q'->TblOk H' P' pos' q'
theorem SameT.then (s:SameT pos H H1)(t:Same H1 H2):SameT pos H H2:=⟨s.1.trans t.l,λP' p' q' n T=>(s.2 P' p' q' n T).same t⟩
structure LamEnv (base:Heap)(mg:AB)(c P:AD):Prop where
 hd:CodeHd base c P
 bm:base.BuiltinsAt mg P
section
theorem Inv.table (I:Inv X Bb U H s)(hP:H P=some (.tbl ps))(hx:Heap.ExtBut P s.heap h')(hc:s.heap.objs.size<=c')(hr:h'.CodeRec (.ref c') q)(ht:h'.get? P=some (tabObj (ps++more))):
  Inv X Bb U (upd (upd H P (.tbl (ps++more))) c' (Zfe c' q)) { s with heap:=h',toks:=t' }:=by
 have fc:H c'=none:=I.hok.fresh hc;have nPc:P≠c':=Zad hP fc;have nt:∀ {b u},H b=some u->(∀ps,u≠.tbl ps)->b≠P:=λe n z=>by rw[z,hP]at e;exact n _ (Option.some.inj e).symm
 have nc:∀ {b u},H b=some u->b≠c':=λe=>Zad e fc;have hz:∀ {b o},s.heap.get? b=some o->b≠c':=λe z=>absurd (YAL e) (by rw[z];exact Nat.not_lt.mpr hc);have nn:∀ {b},H b=none->b≠P:=λe z=>by rw[z,hP]at e;cases e
 refine I.call' (s':={ s with heap:=h',toks:=t' }) (ch:=[]) rfl ⟨λb o e n _ _=>hx b o (nn n) e,λb o e n _ _=>⟨o.slots,hx b o (nn n) e⟩,λb o e n _=>?_,λb o e _=>?_,λb xs e=>?_,λb o u e=>?_,λb qs e=>?_⟩ (λb u e=>?_) I.bare (λb z=>by cases z)
 .rw[Zai (hz e),Zai (nn n)];exact n
 .by_cases z:b=P
  .exact⟨_,by rw[z];exact ht⟩
  .exact⟨o,hx b o z e⟩
 .rw[Zai (nc e),Zai (nt e λ_ z=>by cases z)];exact e
 .rw[Zai (nc e),Zai (nt e λ_ z=>by cases z)];exact e
 .by_cases z:b=P
  .subst z;rw[hP]at e;cases e;exact⟨more,by rw[Zai nPc,Zag]⟩
  .exact⟨#[],by rw[Zai (nc e),Zai z,e];simp⟩
 .by_cases z1:b=c'
  .subst z1;rw[Zag]at e;cases e;exact ZkF hr
  .rw[Zai z1]at e;by_cases z2:b=P
   .subst z2;rw[Zag]at e;cases e;exact ht
   .rw[Zai z2]at e;refine(I.hok b u e).stay (λd v hd k=>?_) (λd k=>?_) λd xs k=>?_
    .refine hx d v ?_ k;rcases hd with rfl | hd
     .exact z2
     .exact nt hd λ_ z=>by cases z
    .rw[Zai (nc k),Zai (nt k λ_ z=>by cases z)];exact k
    .rw[Zai (nc k),Zai (nt k λ_ z=>by cases z)];exact k
theorem Zi1 (I:Inv X Bb U H s)(L:LamEnv X.base X.mg c P)(hcode:X.env.code=.ref c)(hcl:closureFor scope X.env=pure clos)(hdef:defaultsOf params X.env=([],[]))
  (hq:X.env.qual++"<lambda>"=q) (T:TblOk H P pos q)
  (h:∀(H1:Hp) (h':Heap) (tk:Nat) (c':AD) (ctv:Value),SameT pos H H1->TblOk H1 P pos q->(∀b,H1 b=none->H b=none)->Inv X Bb U H1 { s with heap:=h',toks:=tk }->h'.CodeRec (.ref c') q->H1 c'=some (Zfe c' q)->Q (.ref h'.objs.size) { s with heap:=h'.push (kla_obj "<lambda>" q params body scope clos ((X.mg "__name__").getD .none) c' ctv),toks:=tk }):
  wpAny (model X.prog X.w) X.A (eval (.Lambda params body scope pos) X.env) Q E s:=by
 obtain⟨ps,hP,tr,hc⟩:=T;have gP:s.heap.get? P=some (tabObj ps):=I.hok P _ hP;have C:CodeHd s.heap c P:=L.hd.keeps I.bk;have hg:s.heap.Ns mainGlobals X.mg:=I.mod.glob.keeps I.bk;have hgP:mainGlobals≠P:=λz=>by obtain⟨o,es,ep,e,hd,_⟩:=hg;rw[z,gP]at e;cases e;cases hd
 have hbm:s.heap.BuiltinsAt X.mg P:=let ⟨bm,o,a1,a2,a3,a4,a5,r⟩:=L.bm;⟨bm,o,a1,a2,a3,a4,I.bk _ _ a5,r⟩;refine kla_eval hdef ?_;rw[hq];rcases hc with hn | ⟨c',hf,hc'⟩
 .refine kla_makeFunction hcl I.ok.glob hg hcode C gP tr hn hgP hbm λc' ctv h' tk hx hge Bl hrec htab=>?_;have fc:H c'=none:=I.hok.fresh hge;have J:=I.table (t':=tk) hP hx hge hrec htab;have nPc:P≠c':=Zad hP fc;have el:(ps++#[rawInt pos.line,rawInt pos.col,Value.ref c']).toList=ps.toList++[rawInt pos.line,rawInt pos.col,.ref c']:=by simp
  refine h _ _ _ c' ctv ⟨λb o e n=>?_,λP' pos' q' hne T'=>?_⟩ ⟨_,by rw[Zai nPc,Zag],by rw[el];exact TriplesOk_snoc _ _ _ _ tr,.inr ⟨c',by rw[el];exact codeAmong_snoc _ tr hn,Zag⟩⟩ (λb e=>?_) J hrec Zag
  .rw[Zai (Zad e fc),Zai (λz=>by rw[z,hP]at e;cases e;cases n)];exact e
  .obtain⟨ps',e1,t1,h1⟩:=T';have keep:∀d,H d=some (Zfe d q')->upd (upd H P (.tbl (ps++#[rawInt pos.line,rawInt pos.col,Value.ref c']))) c' (Zfe c' q) d=some (Zfe d q'):=λd e=>by rw[Zai (Zad e fc),Zai (λz=>by rw[z,hP]at e;cases e)];exact e
   by_cases z:P'=P
   .subst z;rw[hP]at e1;cases e1;refine⟨_,by rw[Zai nPc,Zag],by rw[el];exact TriplesOk_snoc _ _ _ _ tr,?_⟩;rw[el,Zd5 hne _ tr];exact h1.imp id λ⟨d,f1,f2⟩=>⟨d,f1,keep d f2⟩
   .exact⟨ps',by rw[Zai (Zad e1 fc),Zai z];exact e1,t1,h1.imp id λ⟨d,f1,f2⟩=>⟨d,f1,keep d f2⟩⟩
  .by_cases z1:b=c'
   .rw[z1];exact fc
   .rw[Zai z1]at e;by_cases z2:b=P
    .rw[z2,Zag]at e;cases e
    .rw[Zai z2]at e;exact e
 .refine kla_makeFunctionHit hcl I.ok.glob hg hcode C gP tr hf hbm λctv h' tk hk hsz=>?_;have hrec:s.heap.CodeRec (.ref c') q:=(I.hok c' _ hc').1;exact h H _ _ c' ctv ⟨SameL.refl _,λ_ _ _ _ T=>T⟩ ⟨ps,hP,tr,.inr ⟨c',hf,hc'⟩⟩ (λb e=>e) (I.kept (t':=tk) hk) (hrec.keeps hk) hc'
theorem Zi2 (I:Inv X Bb U H s)(L:LamEnv X.base X.mg c P)(hcode:X.env.code=.ref c)(hcl:closureFor scope X.env=pure [])(hdef:defaultsOf params X.env=([],[]))
  (hq:X.env.qual++"<lambda>"=q) (T:TblOk H P pos q)
  (h:∀(g:AD) (H1:Hp) (s1:AE) (cv ctv pm:Value),SameT pos H H1->TblOk H1 P pos q->(∀b,H1 b=none->H b=none)->Inv X Bb U H1 s1->s1.heap.get? g=some { cls:=.type "function",data:=.func (kla_fn "<lambda>" q params body scope [] pm cv ctv) }->s1.heap.CodeRec cv q->Q (.ref g) s1):
  wpAny (model X.prog X.w) X.A (eval (.Lambda params body scope pos) X.env) Q E s:=
 Zi1 I L hcode hcl hdef hq T λH1 h' tk c' ctv st t1 fr J hrec _=>h _ H1 _ (.ref c') ctv _ st t1 fr (J.kept (t':=tk) λb o e=>YAB _ e) (YAQ _ rfl) (hrec.push _)
end
theorem ZhZ:bootBuiltins "sorted"=some (.builtin "sorted"):=rfl
def txV:Value->Q11
 | .str x _=>x.cps.toList
 | _=>[]
theorem Zh6:∀ {ws:Q22} {us:AC},Vals (ws.map tx) us->ws=us.map txV/\(∀v∈us,∃y t,v=.str y t/\y.length=(txV v).length)
 | [],_,.nil=>⟨rfl,λv hv=>by cases hv⟩
 | w::ws,_,.cons ⟨t,e⟩ r=>by
  obtain⟨h1,h2⟩:=Zh6 (ws:=ws) r;subst e;refine⟨by rw[YAc,<-h1];simp[txV],λv hv=>?_⟩;rcases YAE.mp hv with rfl | hv
  .exact⟨_,t,rfl,by simp[txV,Str.length]⟩
  .exact h2 v hv
theorem Zef:∀(us:AC),(∀v∈us,∃y t,v=.str y t)->Vals ((us.map txV).map tx) us
 | [],_=>.nil
 | v::us,h=>by obtain⟨y,t,rfl⟩:=h v YAg;exact .cons ⟨t,by simp[txV]⟩ (Zef us λu hu=>h u (YAX _ hu))
def ZkO (P:AD)(lpos:Pos)(q:Str)(ta:TA):TE:=λU H Q=>ta U H λvs H1=>∃(a:AD) (ws:Q22),vs=[.ref a]/\H1 a=some (.lst (ws.map tx))/\(∀w∈ws,w.length<=sizeLine)/\TblOk H1 P lpos q /\
 ∀(ws':Q22) (r:AD) (H2:Hp),ws'.Perm ws->ws'.Pairwise (λa b=>¬BefW b a)->SameT lpos H1 H2->TblOk H2 P lpos q->H1 r=none->H2 r=some (.lst (ws'.map tx))->Q (.ref r) H2
theorem Zmc:ltP ((b.length:Nat),b) ((a.length:Nat),a)=false↔¬BefW b a:=by
 rw[YBu,Ne,Zgs];unfold BefW;dsimp only;have e1:((b.length:Int)<(a.length:Int))↔b.length<a.length:=by omega
 have e2:((b.length:Int)=(a.length:Int))↔b.length=a.length:=by omega
 rw[e1,e2]
section
theorem Zj8 (hr:Room k X.A) (L:LamEnv X.base X.mg c P) (hcode:X.env.code=.ref c) (hg:Gl X "sorted") (hm:X.mg "sorted"=none) (Bd:X.mg "len"=none) (ha:PA X [e] ta) (hcl:closureFor scope X.env=pure []) (hdef:defaultsOf params X.env=([],[])) (hq:X.env.qual++"<lambda>"=q)
  (S:LamSc scope x) (hb:∀(s:AE) (u pm cv ctv:Value),BindsTo s (kla_fn "<lambda>" q params (ZdN x p1 p2 p3 p4 p5 kk) scope [] pm cv ctv) ⟨[u],[]⟩ [(x,u)])
  (he:backTo pos (starEach [e] X.env)=(false,eval e X.env)::backTo pos (starEach [] X.env):=by rfl) (hpl:(backTo pos (starEach [e] X.env)).any (·.1)=false:=by rfl):
  PE X (.Call (.Name "sorted" p) [e] [⟨some "key",.Lambda params (ZdN x p1 p2 p3 p4 p5 kk) scope lpos,kpos⟩] pos) (ZkO P lpos q ta):=by
 intro Bb s U H Q I h;refine YBg (Zem I hg hm ZhZ ?_);refine PyProof.Rows.callWith_kw (thn (ha pos Bb s U H _ I h) λus s1 zz=>?_) he hpl;obtain⟨vs,H1,I1,r1,q1⟩:=zz;obtain⟨a,ws,rfl,hH,hw,T,q⟩:=q1;show wpAny _ _ (evalAll ((do let v <-eval (.Lambda params (ZdN x p1 p2 p3 p4 p5 kk) scope lpos) X.env;standAt pos;pure v)::[])) _ _ s1;refine wpAny_evalAll_cons (YAA (Zi2 I1 L hcode hcl hdef hq T λg H2 s2 cv ctv pm sl T2 fr I2 ho hcd=>YAA (YDF (YAF (wpAny_evalAll_nil ?_)))));obtain⟨u,rfl,ru⟩:=r1.one;cases ru;have hH2:=sl.1 _ _ hH rfl;obtain⟨hz,its,n,r,hlen',eo⟩:=I2.lstM hH2;obtain⟨ew,hs⟩:=Zh6 r;have hN:its.length<=sizeLine:=by rw[<-r.length];exact hz
 obtain⟨mb,b1,b2⟩:=I2.mod.blt;have key:=Zmf (prog:=X.prog) (w:=X.w) (A:=X.A.in1.in1) (vs:=its) ho rfl hcd S (λs u=>hb s u pm cv ctv) (show X.A.depth<recursionLimit by have:=hr.dp;omega) (I2.mod.nolimit.keeps I2.bk) (I2.mod.glob.keeps I2.bk) Bd (b1.keeps I2.bk) (b2 _ (by decide)) (λv hv=>by obtain⟨y,t,e1,e2⟩:=hs v hv;exact⟨y,t,e1,by rw[e2];exact hw _ (by rw[ew];exact YBE hv)⟩)
 refine Zgk eo key hN λs' r' us e nr kp g1 o1 er pm2 pw=>?_;have hs2:∀v∈us,∃y t,v=.str y t/\y.length=(txV v).length:=λv hv=>hs v (pm2.mem_iff.mp hv);have rv:Vals ((us.map txV).map tx) us:=Zef us λv hv=>let ⟨y,t,e,_⟩:=hs2 v hv;⟨y,t,e⟩;have hl2:us.length=its.length:=pm2.length_eq;have fr':H1 r'=none:=fr _ (I2.hok.none_of nr);have J:=I2.laid2 (s':=s') (a:=r') (o:=.lst ((us.map txV).map tx)) o1 g1 kp nr ⟨by rw[YAD,YAD];omega,us,e,rv,er⟩;have hr2:=I2.hok.none_of nr;refine⟨.ref r',_,J,rfl,q (us.map txV) r' _ (by rw[ew];exact pm2.map _) ?_ (sl.then (ZaE hr2)) (T2.same (ZaE hr2)) fr' Zag⟩;rw[YBP];refine pw.imp_of_mem λ{y z} hy hz e=>?_;rw[<-Zmc];obtain⟨y1,t1,e1,e2⟩:=hs2 y hy;obtain⟨z1,t2,e3,e4⟩:=hs2 z hz;subst e1 e3;have f1:kfT (.str y1 t1)=((((txV (.str y1 t1)).length:Nat):Int),txV (.str y1 t1)):=by rw[<-e2];rfl
 have f2:kfT (.str z1 t2)=((((txV (.str z1 t2)).length:Nat):Int),txV (.str z1 t2)):=by rw[<-e4];rfl
 rw[f1,f2]at e;exact e
end
def Zoi (o:Obj):Bool:=match o.cls,o.data with
 | .none,.fields _=>true
 | _,_=>false
def Zkf (K:Frag):Bool:=K.all λp=>!Zoi p.2
theorem ZfE {K:Frag}(h:Zkf K=true){b:AD}{o:Obj}(e:K.lookup b=some o):Zoi o=false:=by
 unfold Zkf at h;rw[YBD]at h;have:∀(l:AA),l.lookup b=some o->(b,o)∈l:=λl=>by
  induction l with
  | nil=>intro e;cases e
  | cons q r ih=>
   intro e;obtain⟨b',o'⟩:=q;rw[YBb]at e;by_cases z:b=b'
   .subst z;simp at e;subst e;exact YAg
   .have z':(b == b')=false:=by simpa using z
    rw[z']at e;exact YAX _ (ih e)
 have:=h _ (this K e);simpa using this
structure TabOf (mg:AB)(h:Heap)(n:Str)(c P:AD):Prop where
 fn:∃a o fd,mg n=some (.ref a)/\h.get? a=some o/\o.data=.func fd/\fd.code=.ref c
 code:h.IsCode c P #[]
 tab:h.TableAt c P #[]
theorem TabOf.codeEq (t:TabOf mg h n c P)(e1:mg n=some (.ref a))(e2:h.get? a=some o)(e3:o.data=.func fd):fd.code=.ref c:=by obtain⟨a',o',fd',f1,f2,f3,f4⟩:=t.fn;rw[e1]at f1;cases f1;rw[e2]at f2;cases f2;rw[e3]at f3;cases f3;exact f4
theorem Zi0 {P:AG}{w:AI}{K:Q4}{mg mb:AB}{CX:CXT}{k:Nat}{fa a:AD}{fd:AF}{x:Str}{sp:Sp}{s_1:AE}{vs:AC}{ns:List Int}{nms:AJ}{tb:Str->AD×AD}
  (KX:K.In s_1.heap) (hns:s_1.heap.Ns mainGlobals mg) (hb:s_1.heap.Ns builtinsNs mb) (hbb:∀x:Str,x≠"__name__"->mb x=bootBuiltins x) (hlim:s_1.heap.NoLimit) (hg:s_1.gens=#[])
  (ha:s_1.heap.get? a=some { cls:=.type "list",data:=.seq vs.toArray }) (hi:IntsAre vs ns) (hl:ns.length<=sizeLine) (hr:Room k callerA)
  (hT:∀n∈nms,TabOf mg s_1.heap n (tb n).1 (tb n).2) (hKt:Zkf K=true) (hbm:∃bm ob,mg "__builtins__"=some (.ref bm)/\bm≠builtinsNs/\s_1.heap.get? bm=some ob/\ob.cls=.type "module"/\ob.dict=some builtinsNs/\ob.data=.plain)
  (F:∀base:Heap,K.In base->base.Ns mainGlobals mg->(∀n∈nms,LamEnv base mg (tb n).1 (tb n).2)->FnOk P w K mg base CX k fa fd [x] sp) (hbind:∀(s:AE) (u:Value),BindsTo s fd ⟨[u],[]⟩ [(x,u)])
  (hsp:∀H:Hp,(∀n∈nms,H (tb n).2=some (.tbl #[]))->SqL K H a (ns.map V.int)->sp [.ref a] H (λv _=>v=.bl true) λ_ _ _=>False)
  (hCX:∀H e s',CX [] H s_1 (λ_ _ _=>False) e s'->False):
  codeAny (model P w) callerA (.call (.ref fa) ⟨[.ref a],[]⟩) (λr s'=>r=.ok (.ret (.bool true))/\OldK s_1.heap s'.heap/\s'.os=s_1.os/\AllBare s'.gens) s_1:=by
 have rv:=Zdw hi;have lenV:=hi.length;have hta:∀n∈nms,s_1.heap.get? (tb n).2=some (tabObj #[]):=λn hn=>(hT n hn).tab.2;have aP:∀n∈nms,(tb n).2≠a:=λn hn z=>by have e:=hta n hn;rw[z,ha]at e;have:=congrArg Obj.cls (Option.some.inj e);exact absurd (show Value.type "list"=Value.none from this) (by simp)
 let isP:AD->Prop:=λb=>∃n∈nms,(tb n).2=b
 have core:∀H:Hp,SqL K H a (ns.map V.int)->HOk P w H s_1.heap->(∀b,H b≠none->(b=a/\∃o xs,H b=some (.frz o (.lst xs)))\/(isP b/\H b=some (.tbl #[])))->(∀b,isP b->H b=some (.tbl #[]))->(H a≠none->K.lookup a=none) ->
   codeAny (model P w) callerA (.call (.ref fa) ⟨[.ref a],[]⟩) (λr s'=>r=.ok (.ret (.bool true))/\OldK s_1.heap s'.heap/\s'.os=s_1.os/\AllBare s'.gens) s_1:=by
  intro H hS hok hA hPt hK;have base_of:∀ {b:AD} {o:Obj},s_1.heap.get? b=some o->H b=none->(hidT s_1.heap H).get? b=some o:=λe n=>Zhc e n;have noT:∀ {b:AD} {o:Obj},s_1.heap.get? b=some o->o≠tabObj #[]->o.cls≠.type "list"->H b=none:=λ{b o} e n1 n2=>by
   cases q:H b with
   | none=>rfl
   | some u=>
    rcases hA b (by rw[q];simp) with⟨e',_⟩|⟨⟨n,hn,e'⟩,_⟩
    .subst e';rw[ha]at e;cases e;exact absurd rfl n2
    .subst e';rw[hta n hn]at e;cases e;exact absurd rfl n1
  have noA:∀ {b:AD} {o:Obj} {es:Array DictEntry} {ep:Nat},s_1.heap.get? b=some o->o.data=.dict es ep->H b=none:=λ{b o es ep} e d=>by
   cases q:H b with
   | none=>rfl
   | some u=>
    rcases hA b (by rw[q];simp) with⟨e',_⟩|⟨⟨n,hn,e'⟩,_⟩
    .subst e';rw[ha]at e;cases e;have d':Data.seq vs.toArray _=Data.dict es ep:=d;cases d'
    .subst e';rw[hta n hn]at e;cases e;cases d
  have nsK:∀ {b:AD} {m:AB},s_1.heap.Ns b m->(hidT s_1.heap H).Ns b m:=λ{b m} ⟨o,es,ep,e,d,r⟩=>⟨o,es,ep,base_of e (noA e d),d,r⟩;have hKb:K.In (hidT s_1.heap H):=λb o e=>base_of (KX b o e) (by
   cases q:H b with
   | none=>rfl
   | some u=>
    rcases hA b (by rw[q];simp) with⟨e',_⟩|⟨⟨n,hn,e'⟩,_⟩
    .subst e';rw[hK (by rw[q];simp)]at e;cases e
    .subst e';have e1:=KX _ _ e;rw[hta n hn]at e1;have e2:=ZfE hKt e;rw[<-Option.some.inj e1]at e2;cases e2)
  have hM:Mod K mg (hidT s_1.heap H):=⟨hKb,nsK hns,⟨mb,nsK hb,hbb⟩,let ⟨mc,h1,h2⟩:=hlim;⟨mc,nsK h1,h2⟩⟩;have e0:Env0 P w K mg (hidT s_1.heap H) callerA [] s_1 H:=⟨rfl,hM,λb o e=>ZiO e,YCC (ZfT _ _),trivial,λb hb=>absurd (show b∈([]:List AD) from hb) (by simp),hok,.of_eq hg⟩;have hL:∀n∈nms,LamEnv (hidT s_1.heap H) mg (tb n).1 (tb n).2:=λn hn=>by
   obtain⟨bm,ob,b1,b2,b3,b4,b5,b6⟩:=hbm;obtain⟨oc,vc,file,tf,flags,tg,inF,text,tt,c1,c2,c3,r⟩:=CodeHd.of (hT n hn).code (hT n hn).tab;refine⟨⟨oc,vc,file,tf,flags,tg,inF,text,tt,base_of c1 (noT c1 (λz=>by rw[z]at c2;cases c2) (λz=>by rw[c2]at z;exact absurd z (by decide))),c2,c3,r⟩,bm,ob,b1,b2,λz=>?_,λz=>?_,base_of b3 (noT b3 (λz=>by rw[z]at b4;cases b4) (λz=>by rw[b4]at z;exact absurd z (by decide))),b4,b5,b6⟩
   .obtain⟨o,es,ep,e,d,_⟩:=hns;rw[<-z,b3]at e;cases e;rw[b6]at d;cases d
   .rw[z,hta n hn]at b3;cases b3;cases b4
  refine codeAny_mono ((F _ hKb (nsK hns) hL).run callerA [] s_1 H ⟨[.ref a],[]⟩ [.ref a] [.ref a] _ _ hr e0 (hbind s_1 (.ref a)) (.cons rfl .nil) (hsp H (λn hn=>hPt _ ⟨n,hn,rfl⟩) hS)) λr s' h=>?_;cases r with
  | error e=>exact(hCX H e s' h).elim
  | ok fl=>
   cases fl with
   | next=>exact False.elim h
   | brk=>exact False.elim h
   | cont=>exact False.elim h
   | ret u=>
    obtain⟨v,H',os,bare,un,hok',r',q⟩:=h;have q':v=.bl true:=q;subst q';obtain rfl:u=Value.bool true:=r';refine⟨rfl,⟨λb o e=>?_,λb o e=>un.there b o e (by simp)⟩,os,bare⟩;cases q:H b with
    | none=>exact .inl (un.keep b o e q (by intro z;exact absurd (show b∈([]:List AD) from z) (by simp)) (by simp))
    | some u=>
     rcases hA b (by rw[q];simp) with⟨_,ob,xs,z⟩|⟨⟨n,hn,e'⟩,z⟩
     .have z2:=un.frzs b ob _ z;obtain⟨e1,_⟩:=hok b _ z;obtain⟨e2,_⟩:=hok' b _ z2;rw[e]at e1;cases e1;exact .inl e2
     .obtain⟨more,z2⟩:=un.tbls b _ z;have e1:s_1.heap.get? b=some (tabObj #[]):=hok b _ z;have e2:s'.heap.get? b=some (tabObj (#[]++more)):=hok' b _ z2;rw[e]at e1;cases e1;exact .inr (.inl ⟨by rw[<-e'];exact(hT n hn).tab.isCodeTable,rfl,#[],more,rfl,e2⟩)
 cases hk:K.lookup a with
 | some o=>
  have e:=KX a o hk;rw[ha]at e;cases e
  haveI:DecidablePred isP:=λ_=>Classical.propDecidable _
  refine core (λb=>if isP b then some (.tbl #[]) else none) (.inr ⟨_,vs.toArray,_,hk,rfl,rfl,rfl,by rw[YAJ,lenV];exact hl,by simpa using rv⟩) (λb u z=>?_) (λb z=>?_) (λb hb=>YAM hb) λz=>?_
  .by_cases hb:isP b
   .have z':=(YAM hb).symm.trans z;cases z';obtain⟨n,hn,rfl⟩:=hb;exact hta n hn
   .have z':=(YAI hb).symm.trans z;cases z'
  .by_cases hb:isP b
   .exact .inr ⟨hb,YAM hb⟩
   .exact absurd (YAI hb) z
  .have:¬isP a:=λ⟨n,hn,e⟩=>aP n hn e;exact absurd (YAI this) z
 | none=>
  haveI:DecidablePred isP:=λ_=>Classical.propDecidable _
  refine core (λb=>if b=a then some (.frz { cls:=.type "list",data:=.seq vs.toArray } (.lst (ns.map V.int))) else if isP b then some (.tbl #[]) else none) (.inl (.inr ⟨{ cls:=.type "list",data:=.seq vs.toArray },YAM rfl⟩)) (λb u z=>?_) (λb z=>?_) (λb hb=>?_) λ_=>hk
  .by_cases hb:b=a
   .have z':=(YAM hb).symm.trans z;cases z';subst hb;exact⟨ha,by rw[YAD];exact hl,vs,_,rv,ha⟩
   .have z':=(YAI hb).symm.trans z;by_cases hp:isP b
    .have z2:=(YAM hp).symm.trans z';cases z2;obtain⟨n,hn,rfl⟩:=hp;exact hta n hn
    .have z2:=(YAI hp).symm.trans z';cases z2
  .by_cases hb:b=a
   .exact .inl ⟨hb,_,_,YAM hb⟩
   .by_cases hp:isP b
    .exact .inr ⟨hp,by rw[YAI hb,YAM hp]⟩
    .exact absurd (by rw[YAI hb,YAI hp]) z
  .have nb:b≠a:=by obtain⟨n,hn,rfl⟩:=hb;exact aP n hn
   rw[YAI nb,YAM hb]
theorem walk_ofT {l:PySem.W.OpenLaw}{n k:Nat}{q:AG}{loose:AJ}{XP:(AB)->Heap->Prop}{YP:AI->Heap->Prop}{d:DefRec}{K:Params->Q4}{CX:CXT}{sp:Q4->(Str->AD×AD)->Sp}{x:Str}(nms:AJ)
  (hn:l.most=some n) (hn2:n<=sizeLine) (hdf:d.params.defaults=[]) (hr:Room k callerA)
  (hY:∀(w:AI) (h:Heap),YP w h->(K w.params).In h) (hKt:∀P:Params,Zkf (K P)=true) (hnm:(nms.all λn=>(recsOf q).any λe=>e.name == n)=true)
  (F:∀(w:AI) (mg:AB) (fa:AD) (h:Heap) (tb:Str->AD×AD),(K w.params).In h->h.Ns mainGlobals mg->mg d.name=some (.ref fa)->(∀n∈nms,TabOf mg h n (tb n).1 (tb n).2) ->
   ∃fd:AF,(∀(s:AE) (u:Value),BindsTo s fd ⟨[u],[]⟩ [(x,u)]) /\
    ∀base:Heap,(K w.params).In base->base.Ns mainGlobals mg->(∀n∈nms,LamEnv base mg (tb n).1 (tb n).2)->FnOk l.prog w (K w.params) mg base CX k fa fd [x] (sp (K w.params) tb))
  (hsp:∀(K:Q4) (tb:Str->AD×AD) (H:Hp) (a:AD) (ns:List Int),ns.length<=n->(∀n∈nms,H (tb n).2=some (.tbl #[]))->SqL K H a (ns.map V.int)->sp K tb [.ref a] H (λv _=>v=.bl true) λ_ _ _=>False)
  (hCX:∀(H:Hp) (s:AE) (e:Value) (s':AE),CX [] H s (λ_ _ _=>False) e s'->False):
  PySem.W.WalkO q loose XP YP l.row.toRowW d [] (λf vs=>PySem.call f vs):=by
 refine Att.attach_call hn hdf λw s_0 s_1 mg mb fa o pm cd doc a vs ns G Y ho hd hcd hmg hobj hints Bd hg=>?_;have KX:=hY w _ Y;have ex:∀n:Str,∃cp:AD×AD,n∈nms->TabOf mg s_1.heap n cp.1 cp.2:=λn=>by
  by_cases h:n∈nms
  .rw[YBD]at hnm;have:=hnm n h;rw[List.any_eq_true]at this;obtain⟨e,he,en⟩:=this;have en:e.name=n:=by simpa using en
   obtain⟨a',o',fd',c,P,h1,h2,h3,h4,h5,h6⟩:=G.T.tab e he;exact⟨(c,P),λ_=>⟨⟨a',o',fd',by rw[<-en];exact h1,h2,h3,h4⟩,h5,h6⟩⟩
  .exact⟨(0,0),λz=>absurd z h⟩
 obtain⟨tb,htb⟩:=Classical.skolem.mp ex;obtain⟨fd,hb,hF⟩:=F w mg fa _ tb KX G.T.g hmg htb;exact Zi0 KX G.T.g G.T.b G.T.builtins G.T.nolimit hg hobj hints (YAK Bd hn2) hr htb (hKt _) G.T.bmain hF hb (λH hP hS=>hsp (K w.params) tb H a ns Bd hP hS) λH e s'=>hCX H s_1 e s'
section
variable {P:AG}{w:AI}{K:Q4}{mg:AB}{base:Heap}
theorem Fun.okC {x qual:Str}{st:Stmt}{f:AD}{fd:AF}{N ps:AJ}{k:Nat}{sp:Sp}{c:Value}(F:Fun K x qual st f fd)(hc:fd.code=c)(S:FnScope N ps (Zaj st))(len:∀vs H Q E,sp vs H Q E->vs.length=ps.length)
  (body:∀(A:AH) (outer:List Env) (s:AE) (H:Hp) (vs:List V) (Q:VK) (E:XK),Room k (A.deeper (envOfC qual (Zaj st) s.heap.objs.size f c))->sp vs H Q E ->
   ∃t,PSs (cxOf CX0 P w K mg base N qual (Zaj st) f c A outer s H E).nox (Zbc st) t/\t { nx:=λ_ H'=>Q .non H',rt:=Q } (start N vs) H):FnOk P w K mg base CX0 (k+1) f fd ps sp:=by
 obtain⟨⟨oc,od,kV,doc,pm,an,Bc,ct,osl,rfl,l,cc⟩,_⟩:=F;obtain rfl:Bc=c:=hc;refine Zmx l cc S len λA outer s H vs Q E hr hsp=>?_;obtain⟨t,h,q⟩:=body A outer s H vs Q E hr hsp;exact⟨t,h.nox,q⟩
theorem Fun.at {x qual:Str}{st:Stmt}{f:AD}{fd:AF}{h:Heap}(F:Fun K x qual st f fd)(KX:K.In h):∃o,h.get? f=some o/\o.data=.func fd:=by obtain⟨⟨oc,od,kV,doc,pm,an,Bc,ct,osl,rfl,l,cc⟩,_⟩:=F;exact⟨_,KX _ _ l,rfl⟩
end
section
end
end L2
namespace L2
open PySem PySem.Spec PyProof.Rows
section
end
end L2
namespace L2
open PySem PySem.Spec PyProof.Rows PySem.W
section
end
section
end
section
end
section
end
section
end
section
end
end L2
namespace L2
open PySem PySem.Spec PyProof.Rows
structure Lin {α:Type}(lt:α->α->Bool):Prop where
 asym:∀a b,lt a b=true->lt b a=false
 trans:∀a b c,lt a b=true->lt b c=true->lt a c=true
 tri:∀a b,lt a b=false->lt b a=false->a=b
section
end
section
end
section
end
def fpl (l w:Q11):Nat:=((List.range (l.length+1)).find? λi=>decide (i+w.length<=l.length)&&decide ((l.drop i).take w.length=w)).getD 0
theorem Zlf (h:AtW l w i)(hm:∀j,j<i->¬AtW l w j):fpl l w=i:=by
 unfold fpl;have:((List.range (l.length+1)).find? λi=>decide (i+w.length<=l.length)&&decide ((l.drop i).take w.length=w))=some i:=by
  rw[List.find?_range_eq_some];refine⟨by rw[decide_eq_true h.1,decide_eq_true h.2];rfl,YBA.mpr (by have:=h.1;omega),λj hj=>?_⟩;rw[Bool.not_eq_true',Bool.and_eq_false_iff,decide_eq_false_iff_not,decide_eq_false_iff_not];by_cases c:j+w.length<=l.length
  .exact .inr λz=>hm j hj ⟨c,z⟩
  .exact .inl c
 rw[this];rfl
theorem Zga (h1:BefW a b)(h2:BefW b a):False:=by
 rcases h1 with h1 | ⟨h1,k1⟩<;>rcases h2 with h2 | ⟨h2,k2⟩
 .omega
 .omega
 .omega
 .exact List.lt_asymm k1 k2
theorem ZbI:∀ {a b:Q22},a.Pairwise BefW->b.Pairwise BefW->(∀x,x∈a↔x∈b)->a=b
 | [],[],_,_,_=>rfl
 | [],y::b,_,_,h=>by have:=(h y).mpr YAg;cases this
 | x::a,[],_,_,h=>by have:=(h x).mp YAg;cases this
 | x::a,y::b,ha,hb,h=>by
  have pa:=YBC.mp ha;have pb:=YBC.mp hb;have e:x=y:=by
   rcases YAE.mp ((h x).mp YAg) with z | z
   .exact z
   .rcases YAE.mp ((h y).mpr YAg) with z2 | z2
    .exact z2.symm
    .exact(Zga (pb.1 x z) (pa.1 y z2)).elim
  subst e;congr 1;refine ZbI pa.2 pb.2 λz=>?_;constructor
  .intro hz;rcases YAE.mp ((h z).mp (YAX _ hz)) with e | e
   .rw[e]at hz;exact(Zdt (pa.1 x hz)).elim
   .exact e
  .intro hz;rcases YAE.mp ((h z).mpr (YAX _ hz)) with e | e
   .rw[e]at hz;exact(Zdt (pb.1 x hz)).elim
   .exact e
theorem Zcd (e:kTx x=kTx y):x=y:=by unfold kTx at e;injection e with e;injection e with e;injection e
theorem Ziu:∀ {Ds:List AD} {us:AC},Vals (Ds.map V.ref) us->us=Ds.map Value.ref
 | [],_,.nil=>rfl
 | _::_,_,.cons a b=>by cases (show _=Value.ref _ from a);rw[Ziu b,YAc]
theorem ZcT {X:Cx}{K:Q4}(hK:X.K=K):Zb0 X (.builtin "isinstance") (λxs H Q=>∃(e:AD) (C:AD) (fs:List (Str×V)) (p:AD) (Ds:List AD) (b:Bool),xs=[.ref e,.ref p]/\H p=some (.tup (Ds.map V.ref))/\XAny H e C fs/\Xi K C/\PySem.W.kitAny K (.ref C) (Ds.map Value.ref)=some b/\Q (.bl b) H):=by subst hK;rintro Bb s U H xs us Q I r ⟨e,C,fs,p,Ds,b,rfl,hp,xa,i,ek,q⟩;obtain⟨u,v,rfl,ru,rv⟩:=r.two;cases rv;cases ru;obtain⟨_,its,r2,o,ho,hc,n,hd⟩:=I.hok p _ hp;have ei:=Ziu r2;subst ei;obtain⟨ox,od,J,_⟩:=xa.inst I;obtain⟨oc,odd,odt,osl⟩:=o;cases hc;cases hd;exact PySem.W.kia_tup (ZeV i) I.kIn J ho ek (λz=>nomatch z) λtk=>⟨.bl b,H,I.tok _,rfl,q⟩
section
theorem Zew {it t:AD}{items:Array Value}(hne:t≠it):∀(n i:Nat) (s:AE) (Q:AC->AE->Prop),s.heap.IsListIter it t i->s.heap.IsList t items->i+n<=items.size ->
  (∀h',h'.IsListIter it t (i+n)->Heap.SameBut it s.heap h'->Q ((items.toList.drop i).take n) { s with heap:=h' })->wpAny (model prog w) A (draw (.ref it) n) Q E s
 | 0,i,s,Q,hit,_,_,hQ=>by
  show wpAny _ _ (pure []) Q E s;exact YAF (by simpa using hQ s.heap hit (Heap.SameBut.refl ..))
 | n+1,i,s,Q,hit,ht,hle,hQ=>by
  have Bl:i<items.size:=by omega
  show wpAny _ _ (pyNext (.ref it) >>= _) Q E s;refine YAA (wpAny_pyNext_list_item hit ht (x:=items[i]) (by simp[Bl]) λh9 hit1 hs9=>?_);refine YAA (YAz (Zew hne n (i+1) _ _ hit1 (ht.extBut hs9.extBut hne) (by omega) λh_2 hit2 hs8=>YAF ?_));have hd:items.toList.drop i=items[i]::items.toList.drop (i+1):=by simp[YCD,Bl]
  have:=hQ h_2 (by rw[show i+(n+1)=i+1+n by omega];exact hit2) (hs9.trans hs8);rw[hd,List.take_succ_cons]at this;exact this
theorem ZcW (hh:A.handled=none)(ht:s.heap.IsList t items)
  (hQ:∀h',Heap.ExtBut s.heap.objs.size s.heap h'->Q items.toList { s with heap:=h' }):wpAny (model prog w) A (unpackItems (.ref t) items.size none) Q E s:=by
 have Bl:t≠s.heap.objs.size:=by obtain⟨o,ho,_⟩:=ht;exact YAf (YAL ho)
 unfold unpackItems;refine YAA ?_;unfold notIterableAtAll;refine YAA (wpAny_specialOf ht.typeIs PySem.slot_list_iter.lookup ?_);refine YAF ?_;simp only[YBp,if_false];refine YAA (YAz (YDT ht ?_));refine YAA (YAz (Zew Bl items.size 0 _ _ ⟨_,YAQ _ rfl,rfl,rfl⟩ (ht.push _) (by omega) λh9 hit1 hs9=>?_));have hall:List.take items.size (List.drop 0 items.toList)=items.toList:=by rw[YBV];exact YAp (by simp)
 rw[hall];rw[YAI (by simp)];have ht1:h9.IsList t items:=(ht.push _).extBut hs9.extBut Bl;refine YAA (YAz (wpAny_pyNext_list_end hh hit1 ht1 (by simp) λh_2 he2=>?_));simp only[Option.isSome_none,YBp,if_false];refine YAF (hQ h_2 λb o hb e=>he2 b o hb (hs9.extBut b o hb (YAB _ e)))
end
section
def gLst (K:Q4)(n:Nat)(t:TGs):TG:=λv U H Q=>∃a xs,v=.ref a/\SqL K H a xs/\xs.length=n/\t xs U H Q
theorem Znl (hc:X.calm=true)(h:PGs X es t)
  (hn:(assignEach es X.env).length=n:=by rfl) (hst:(assignEach es X.env).findIdx? (·.1)=none:=by rfl):PG X (.Tuple es k pos) (gLst X.K n t):=by
 intro Bb s U H v u Q I r hw;obtain⟨a,xs,e1,hq,hl,hw⟩:=hw;subst e1;cases r;obtain⟨its,rv,ht,hz⟩:=I.list hq;rw[assign_Tuple];refine YAA (YDF ?_);unfold unpack;rw[show (assignEach es X.env).length=its.toArray.size by simp[hn,<-hl,rv.length],hst];refine YAA (YAz (ZcW (I.ok.hd hc) ht.isList λh' hx=>?_));have I1:Inv X Bb U H { s with heap:=h' }:=I.kept (t':=s.toks) λb o e=>hx b o (YAf (YAL e)) e;exact h Bb _ U H xs _ Q I1 (by simpa using rv) hw
end
open PySem.W (Frag)
section
theorem CompRun.inv (v:Nat->V)(hz:n<=100000)(Pv:AD->Nat->List V->Hp->Prop)(h0:∀acc,H acc=none->Pv acc 0 [] (upd H acc (.lst [])))
  (hgo:∀acc i ys H',i<n->Pv acc i ys H'->J.go i H') (hst:∀acc ys H',Pv acc n ys H'->J.stop n H') (hy:∀acc i ys H' x H3,i<n->Pv acc i ys H'->J.yld i H' x H3->H3=H'/\x=v i)
  (he:∀acc i ys H' (Q':VK),H acc=none->i<n->ys.length=i->Pv acc i ys H'->(∀y H6,H6 acc=some (.lst ys)->Pv acc (i+1) (ys++[y]) (upd H6 acc (.lst (ys++[y])))->Q' y H6)->te (τ0.set 0 (some (v i))) H' Q')
  (hQ:∀acc ys H',H acc=none->ys.length=n->Pv acc n ys H'->Q (.ref acc) H'):CompRun J τ0 (Zdj 0) tAll te H Q:=by
 intro acc ha;refine⟨λi m τ H2=>i<=n/\m=n-i/\(∀w:Option V,τ.set 0 w=τ0.set 0 w)/\∃ys,ys.length=i/\Pv acc i ys H2,⟨n,YAx _,rfl,λ_=>rfl,[],rfl,h0 acc ha⟩,?_⟩;rintro i m τ H2 ⟨hi,rfl,hτ,ys,hl,hp⟩;by_cases Bl:i<n
 .refine .inr ⟨hgo acc i ys H2 Bl hp,λτ' H'=>(∀w:Option V,τ'.set 0 w=τ0.set 0 w)/\∃ys,ys.length=i+1/\Pv acc (i+1) ys H',λτ' H' q=>⟨n-(i+1),by omega,Bl,rfl,q⟩,λx H3 y=>?_⟩;obtain⟨rfl,rfl⟩:=hy acc i ys H2 x H3 Bl hp y;show te (τ.set 0 (some (v i))) _ _;rw[hτ];have hτ':∀w:Option V,(τ0.set 0 (some (v i))).set 0 w=τ0.set 0 w:=λw=>by rw[List.set_set]
  exact he acc i ys _ _ ha Bl hl hp λy H6 h1 h3=>⟨ys,h1,by rw[hl,sizeLine_eq];omega,hτ',_,by rw[YAH,hl];rfl,h3⟩
 .have e:i=n:=by omega
  subst e;exact .inl ⟨hst acc ys H2 hp,hQ acc ys H2 ha hl hp⟩
theorem CompRun.invR {lo:Int}{n:Nat}(hz:n<=100000)(Pv:AD->Nat->List V->Hp->Prop)(h0:∀acc,H acc=none->Pv acc 0 [] (upd H acc (.lst [])))
  (he:∀acc (i:Nat) ys H' (Q':VK),H acc=none->i<n->ys.length=i->Pv acc i ys H'->(∀y H6,H6 acc=some (.lst ys)->Pv acc (i+1) (ys++[y]) (upd H6 acc (.lst (ys++[y])))->Q' y H6)->te (τ0.set 0 (some (.int (lo+i)))) H' Q')
  (hQ:∀acc ys H',H acc=none->ys.length=n->Pv acc n ys H'->Q (.ref acc) H'):CompRun (Itr lo n) τ0 (Zdj 0) tAll te H Q:=
 .inv (λi=>.int (lo+i)) hz Pv h0 (λ_ i _ _ h _=>h) (λ_ _ _ _=>YAS _) (λ_ i _ H' x H3 _ _ y=>y) he hQ
end
section
end
section
end
section
end
section
end
section
end
section
theorem Zf4 (hc:X.calm=true):Zb0 X (.builtin "sorted") (λxs H Q=>∃l,xs=[tx l]/\l.length<64/\NewL ((ZaV (signs l)).map tx) H Q):=by
 rintro Bb s U H xs us Q I r ⟨l,rfl,h64,q⟩;obtain⟨u,rfl,t,rfl⟩:=r.one;have sl:(signs l).length=l.length:=by unfold signs;rw[YAD]
 have hl:(ZaV (signs l)).length<=sizeLine:=by rw[(ZaI _).length_eq,sl];exact YAK (YCM h64) (by rw[sizeLine_eq];decide)
 refine YCh kind_sorted plain_sorted entry_sorted (args_sorted1 _) ?_;unfold Builtin.«sorted»;refine YAA (m:=checkCount "sorted" 1 1 _) (YAF ?_);refine YAA (wpAny_collect_str (by have:=I.ok.hd hc;simpa using this) ⟨l.toArray⟩ t (λs' acc k g1 _ g3 it=>?_) (by show l.toArray.size<=_;rw[YAJ];exact YAK (YCM h64) (by rw[sizeLine_eq];decide)));refine Zfn (s:=s') (ZdQ it) (by rw[sl];exact h64) λh' us e k2 he rr=>?_;have nw:s.heap.get? s'.heap.objs.size=none:=by
  cases z:s.heap.get? s'.heap.objs.size with
  | none=>rfl
  | some o=>exact absurd (YAL (k _ _ z)) (YAv _)
 exact⟨.ref s'.heap.objs.size,_,I.laid2 (s':={ s' with heap:=h' }) (o:=.lst ((ZaV (signs l)).map tx)) g3 g1 (λb o z=>k2 b o (k b o z)) nw ⟨by rw[YAD];exact hl,us,e,rr,he⟩,rfl,q _ (I.hok.none_of nw)⟩
end
open PySem.W (Frag)
theorem Zg7:MtM X "str.find" (λx vs H Q=>∃l w,x=tx l/\vs=[tx w]/\∀r:Int,((r=-1/\¬Inf w l)\/∃i:Nat,r=(i:Int)/\AtW l w i/\∀j,j<i->¬AtW l w j)->Q (.int r) H):=by
 rintro Bb s U H x vs v us Q I rx rv ⟨l,w,rfl,rfl,q⟩;obtain⟨t,rfl⟩:=rx;obtain⟨u,rfl,t',rfl⟩:=rv.one;refine SC.find ?_;refine⟨.int _,H,I.tok _,⟨_,rfl⟩,q _ ?_⟩;rcases find_whole (⟨l.toArray⟩:Str) ⟨w.toArray⟩ with⟨h1,h2⟩|⟨i,h1,h2,h3⟩
 .exact .inl ⟨h1,λ⟨i,hi⟩=>h2 i ((Zb4 l w i).mpr hi)⟩
 .exact .inr ⟨i,h1,(Zb4 l w i).mp h2,λj hj hA=>h3 j hj ((Zb4 l w j).mpr hA)⟩
section
end
section
end
end L2
namespace L2
open PySem PySem.Spec PyProof.Rows PySem.Builtin.Str
def tOr2 (t1 t2:TE):TE:=λU H Q=>t1 U H Q\/t2 U H Q
theorem ZiB (h1:PE X e t1)(h2:PE X e t2):PE X e (tOr2 t1 t2):=λBb s U H Q I h=>h.elim (h1 Bb s U H Q I) (h2 Bb s U H Q I)
section
end
end L2
namespace L2
open PySem PySem.Spec PyProof.Rows
section
end
section
end
end L2
namespace L2
open PySem PySem.W
def DG (K:Frag)(x:Str)(s:Stmt)(f:AD)(e:AF):Prop:=nsIn K mainGlobals x=some (some (.ref f))/\Fun K x x s f e
def MG (K:Frag)(x q:Str)(s:Stmt)(f:AD)(e:AF):Prop:=Fun K x q s f e/\PySem.W.isFn K (.ref f)=true
structure XG (K:Frag)(x:Str)(C:AD)(L:AC):Prop where
 a:nsIn K mainGlobals x=some (some (.ref C))
 m:Xm K C
 i:Xi K C
 k:ClsOk K C L
theorem xg_mk {K:Frag} {x:Str} {C:AD} {L:AC} {cd:ClassData} {nm qn:Str} {N:AD} {bs bm:AC} {Bi:Bool} {sn:AJ} {sub:AC} {ab:Bool} {col:Option Bool} {dd:Option AD} {k0 k1 k2 k3 k5:Option Value} (a:nsIn K mainGlobals x=some (some (.ref C))) (q:clsIn K C=some cd) (r:cd.mro=L) (ty:typeIn K (.ref C)=some (.type "type"))
  (ga:findIn K (.ref C) "__getattribute__"=some (some (.builtin "BaseException.__getattribute__"))) (gr:findIn K (.ref C) "__getattr__"=some none) (sa:findIn K (.ref C) "__setattr__"=some (some (.builtin "object.__setattr__"))) (hd:PySem.W.hasDictIn K C=true)
  (ob:K.lookup C=some (excClassObj nm qn C N bs bm Bi sn sub ab col dd k0 k1 k2 k3 k5 "ValueError.__new__")) (kp:PySem.W.keepIn K (.ref C)=true) (ha:findIn K (.ref C) "__class__"=some (some (.builtin "object.__class__")))
  (hn:specialIn K (.builtin "object.__class__") "__get__"=some (some (.builtin "getset_descriptor.__get__"))) (tk:PySem.W.takesIn K (.builtin "object.__class__")=some true) (x1:xmro L=true) (x2:L.isEmpty=false):XG K x C L:=
 have c:Xc K C:=⟨ga,gr,sa,hd,by rw[q];show xmro cd.mro=true;rw[r];exact x1⟩
 ⟨a,⟨c,⟨_,_,_,_,_,_,_,_,_,_,_,_,_,_,_,_,ob⟩,kp⟩,⟨c,ha,hn,tk⟩,⟨⟨_,q,r⟩,ty,x2⟩⟩
theorem dg_mk {K:Frag}{x:Str}{st:Stmt}{f:AD}{oc:Value}{od an:Option AD}{osl:Array (Option Value)}{kV doc pm Bc ct:Value}(a:nsIn K mainGlobals x=some (some (.ref f)))(l:K.lookup f=some ⟨oc,od,.func (PySem.W.fnOf x x (Zch st) (Zbc st) (Zaj st) .none kV doc pm an Bc ct),osl⟩)
  (c:PySem.W.codeIn K Bc x=true) (k:PySem.W.keepIn K (.ref f)=true):DG K x st f (PySem.W.fnOf x x (Zch st) (Zbc st) (Zaj st) .none kV doc pm an Bc ct):=⟨a,Zle l c k⟩
theorem mg_mk {K:Frag}{x q:Str}{st:Stmt}{f:AD}{oc:Value}{od an:Option AD}{osl:Array (Option Value)}{kV doc pm Bc ct:Value}(l:K.lookup f=some ⟨oc,od,.func (PySem.W.fnOf x q (Zch st) (Zbc st) (Zaj st) .none kV doc pm an Bc ct),osl⟩)
  (c:PySem.W.codeIn K Bc q=true) (k:PySem.W.keepIn K (.ref f)=true) (n:PySem.W.isFn K (.ref f)=true):MG K x q st f (PySem.W.fnOf x q (Zch st) (Zbc st) (Zaj st) .none kV doc pm an Bc ct):=⟨Zle l c k,n⟩
end L2
namespace L2
open PySem PySem.Spec PyProof.Rows
def noStar:Expr->Bool
 | .Starred ..=>false
 | _=>true
theorem ZlA (h:noStar e=true):starEach (e::es) env=(false,eval e env)::starEach es env:=by cases e<;>first | rfl | cases h
def Zp1:Stmt->List Expr
 | .Return (some (.Subscript (.List es _) _ _)) _=>es
 | .Assign _ (.List es _) _=>es
 | .Assign _ (.Subscript (.List es _) _ _) _=>es
 | .For _ (.List es _) _ _ _=>es
 | _=>[]
def Zp0 (es:List Expr):Stmt->Stmt
 | .Return (some (.Subscript (.List _ p) i q)) r=>.Return (some (.Subscript (.List es p) i q)) r
 | .Assign g (.List _ p) q=>.Assign g (.List es p) q
 | .Assign g (.Subscript (.List _ p) i q) r=>.Assign g (.Subscript (.List es p) i q) r
 | .For g (.List _ p) b o r=>.For g (.List es p) b o r
 | s=>s
structure PAz (X:Cx)(es:List Expr)(t:TA):Prop where
 h:PA X es t
theorem ZlY:PAz X [] tNil:=⟨Zac⟩
theorem Zbg (ha:PE X e te)(hr:PAz X es t)(h:noStar e=true:=by rfl):PAz X (e::es) (ZjQ te t):=⟨Zaa ha hr.h (ZlA h)⟩
theorem ZlW (ha:PAz X es t):PE X (.List es pos) (tLst t):=Zbm ha.h
def Ext (s L:Q11):Prop:=(∃c,L=s++[c])\/∃c,L=c::s
theorem Ext.len (h:Ext s L):L.length=s.length+1:=by rcases h with⟨c,rfl⟩|⟨c,rfl⟩<;>simp
theorem Ext.inf (h:Ext s L):Inf s L:=by
 rcases h with⟨c,rfl⟩|⟨c,rfl⟩
 .have:=Zha (s++[c]);rwa [YCe]at this
 .exact Zg9 (c::s)
def Frs (s L w:Q11):Prop:=Inf w L/\¬Inf w s
theorem Frs.ne (h:Frs s L w):w≠[]:=λe=>h.2 (e▸Inf.nil s)
theorem ZeZ (l:Q11)(k:Nat):Inf (l.take k) l:=⟨0,by rw[YAa];omega,by rw[YBV,List.take_eq_take_iff,YAa];omega⟩
theorem Ze0 (l:Q11)(k:Nat):Inf (l.drop k) l:=by
 by_cases h:k<=l.length
 .exact⟨k,by rw[YAk];omega,by rw[YDC]⟩
 .rw[YCU (by omega)];exact Inf.nil l
theorem Zdr (h:Ext s L)(f:Frs s L w):((∃c,L=s++[c])/\w=L.drop (L.length-w.length))\/((∃c,L=c::s)/\w=L.take w.length):=by
 obtain⟨⟨i,h1,h2⟩,hn⟩:=f;rcases h with⟨c,rfl⟩|⟨c,rfl⟩
 .refine .inl ⟨⟨c,rfl⟩,?_⟩;rw[YAH,YAd]at h1 ⊢;have hi:i+w.length=s.length+1:=by
   by_cases z:i+w.length<=s.length
   .refine absurd ⟨i,z,?_⟩ hn;rw[YCR (by omega),List.take_append_of_le_length (by rw[YAk];omega)]at h2;exact h2
   .omega
  have e:s.length+1-w.length=i:=by omega
  rw[e];rw[YAp (by rw[YAk,YAH,YAd];omega)]at h2;exact h2.symm
 .refine .inr ⟨⟨c,rfl⟩,?_⟩;cases i with
  | zero=>rw[YBV]at h2;exact h2.symm
  | succ i=>
   refine absurd ⟨i,?_,?_⟩ hn
   .rw[YAl]at h1;omega
   .rw[List.drop_succ_cons]at h2;exact h2
theorem Zjk (h:Ext s L):Frs s L w↔(∃k,1<=k/\k<=L.length/\(w=L.take k\/w=L.drop (L.length-k)))/\¬Inf w s:=by
 constructor
 .intro f;have h1:1<=w.length:=YBc.mpr f.ne;refine⟨⟨w.length,h1,f.1.len,?_⟩,f.2⟩;rcases Zdr h f with⟨_,e⟩|⟨_,e⟩
  .exact .inr e
  .exact .inl e
 .rintro⟨⟨k,_,_,rfl | rfl⟩,hn⟩
  .exact⟨ZeZ _ _,hn⟩
  .exact⟨Ze0 _ _,hn⟩
theorem ZfV (h:Ext s L)(fu:Frs s L u)(fv:Frs s L v)(hl:u.length<=v.length):Inf u v:=by
 have l1:=fu.1.len;have l2:=fv.1.len;rcases Zdr h fu with⟨⟨c,e⟩,eu⟩|⟨⟨c,e⟩,eu⟩
 .rcases Zdr h fv with⟨_,ev⟩|⟨⟨d,e2⟩,ev⟩
  .have:u=v.drop (v.length-u.length):=by
    have:v.drop (v.length-u.length)=L.drop (L.length-u.length):=by
     conv=>lhs;rw[ev]
     rw[YCg,YAk];congr 1;omega
    rw[this];exact eu
   rw[this];exact Ze0 _ _
  .
   have hv:v.length=L.length:=by
    by_cases z:v.length=L.length
    .exact z
    .exfalso;refine fv.2 ?_;have:v=s.take v.length:=by
      conv=>lhs;rw[ev,e]
      rw[List.take_append_of_le_length];have:=h.len;omega
     rw[this];exact ZeZ _ _
   have:v=L:=by rw[ev,hv,YDC]
   rw[this];exact fu.1
 .rcases Zdr h fv with⟨⟨d,e2⟩,ev⟩|⟨_,ev⟩
  .have hv:v.length=L.length:=by
    by_cases z:v.length=L.length
    .exact z
    .exfalso;refine fv.2 ?_;have:v=s.drop (s.length-v.length):=by
      have h3:=h.len
      conv=>lhs;rw[ev,e]
      have e4:(c::s).length-v.length=(s.length-v.length)+1:=by rw[YAl];omega
      rw[e4,List.drop_succ_cons]
     rw[this];exact Ze0 _ _
   have:v=L:=by rw[ev,hv,Nat.sub_self,YBV]
   rw[this];exact fu.1
  .have:u=v.take u.length:=by
    have:v.take u.length=L.take u.length:=by
     conv=>lhs;rw[ev]
     rw[YCS];congr 1;omega
    rw[this];exact eu
   rw[this];exact ZeZ _ _
theorem Zmw (h:Ext s L)(fu:Frs s L u)(fv:Frs s L v)(hl:u.length=v.length):u=v:=Zla (ZfV h fu fv (by omega)) (by omega)
theorem Zgx (h:Ext s L)(f0:Frs s L w0)(hm:∀w,Frs s L w->¬BefW w w0)(w:Q11):Miss s w/\Inf w L↔w=w0:=by
 have sh:∀w,Frs s L w->w0.length<=w.length:=λw f=>by
  by_cases z:w.length<w0.length
  .exact absurd (.inl z) (hm w f)
  .omega
 have ne:=f0.ne;have l1:1<=w0.length:=YBc.mpr ne;constructor
 .rintro⟨ms,hi⟩;have fw:Frs s L w:=⟨hi,ms.no⟩;have hc:=ZfV h f0 fw (sh w fw);by_cases z:w0.length<w.length
  .rcases Zmq hc z with k | k
   .exact absurd (k.trans ms.init) f0.2
   .exact absurd (k.trans ms.tail) f0.2
  .exact(Zla hc (by omega)).symm
 .rintro rfl;have small:∀u,Inf u L->u.length<w.length->Inf u s:=λu hu hl=>by
   by_cases z:Inf u s
   .exact z
   .have:=sh u ⟨hu,z⟩;omega
  exact⟨⟨ne,small _ ((Zha w).trans f0.1) (by rw[YBQ];omega),small _ ((Zg9 w).trans f0.1) (by rw[List.length_tail];omega),f0.2⟩,f0.1⟩
def shOf (s w:Q11)[Decidable (Inf w.dropLast s)]:Q11:=if Inf w.dropLast s then w.tail else w.dropLast
instance (w l:Q11):Decidable (Inf w l):=decidable_of_iff (∃i,i<l.length+1/\i+w.length<=l.length/\(l.drop i).take w.length=w) ⟨λ⟨i,_,h⟩=>⟨i,h⟩,λ⟨i,h⟩=>⟨i,by have:=h.1;omega,h⟩⟩
def Opn (s L m w:Q11):Prop:=∃sh c,Frs s L sh/\c∈m/\(w=sh++[c]\/w=c::sh)/\Miss L w
theorem Zl0 (h:Ext s L)(hm:∀x∈L,x∈m):Opn s L m w↔w∈ZaK L m/\w∉ZaK s m:=by
 constructor
 .rintro⟨sh,c,f,hc,e,ms⟩;refine⟨Za3.mpr ⟨ms,?_⟩,λhw=>?_⟩
  .rcases e with rfl | rfl
   .exact⟨c,hc,by simp⟩
   .refine⟨sh.getLast f.ne,hm _ (f.1.mem (List.getLast_mem _)),?_⟩;rw[YCP (by simp),List.getLast_cons f.ne]
  .have k:=(Za3.mp hw).1;rcases e with rfl | rfl
   .exact f.2 (by have:=k.init;rwa [YCe]at this)
   .exact f.2 k.tail
 .rintro⟨hw,hn⟩;obtain⟨ms,c,hc,hl⟩:=Za3.mp hw;have ns:¬Inf w s:=λz=>ms.no (z.trans h.inf);have hn':¬(Inf w.dropLast s/\Inf w.tail s):=λ⟨a,b⟩=>hn (Za3.mpr ⟨⟨ms.ne,a,b,ns⟩,c,hc,hl⟩);by_cases z:Inf w.dropLast s
  .have z2:¬Inf w.tail s:=λk=>hn' ⟨z,k⟩;have f:Frs s L w.tail:=⟨ms.tail,z2⟩
   match w,ms,f with
   | d::r,ms,f=>
    have f:Frs s L r:=f;refine⟨r,d,f,?_,.inr rfl,ms⟩
    match r,f.ne with
    | e::r,_=>exact hm _ (ms.init.mem (by simp))
  .refine⟨w.dropLast,c,⟨ms.init,z⟩,hc,.inl ?_,ms⟩;rw[YCP ms.ne]at hl;have h2:=YDG ms.ne;rw[Option.some.inj hl]at h2;exact h2.symm
theorem Zns (h:Ext s L)(f:Frs s L sh)(e:w=sh++[c]\/w=c::sh)(ms:Miss L w):shOf s w=sh:=by
 unfold shOf;rcases e with rfl | rfl
 .rw[YCe,YAI f.2]
 .by_cases z:Inf (c::sh).dropLast s
  .rw[YAM z];rfl
  .rw[YAI z];exact Zmw h ⟨ms.init,z⟩ f (by rw[YBQ];simp)
theorem ZfK (h:Ext s L)(f0:Frs s L w0)(hmn:∀w,Frs s L w->¬BefW w w0)(hw:w∈ZaK s m):w∈ZaK L m↔w≠w0:=by
 obtain⟨ms,hc⟩:=Za3.mp hw;constructor
 .rintro k rfl;exact(Za3.mp k).1.no ((Zgx h f0 hmn w).mpr rfl).2
 .intro k;have ni:¬Inf w L:=λz=>k ((Zgx h f0 hmn w).mp ⟨ms,z⟩);exact Za3.mpr ⟨⟨ms.ne,ms.init.trans h.inf,ms.tail.trans h.inf,ni⟩,hc⟩
theorem ZmA (h:Ext s L)(hm:∀x∈L,x∈m)(f0:Frs s L w0)(hmn:∀w,Frs s L w->¬BefW w w0):w0∈ZaK s m:=by have k:=(Zgx h f0 hmn w0).mpr rfl;exact Za3.mpr ⟨k.1,w0.getLast k.1.ne,hm _ (k.2.mem (List.getLast_mem _)),YCP _⟩
def opnL (s L m:Q11):Q22:=(ZaK L m).filter λw=>decide (w∉ZaK s m)
def filL (s L m:Q11):Q22:=(ZaK s m).filter λw=>decide (w∉ZaK L m)
theorem ZeS:w∈opnL s L m↔w∈ZaK L m/\w∉ZaK s m:=by unfold opnL;simp
theorem ZeT:w∈filL s L m↔w∈ZaK s m/\w∉ZaK L m:=by unfold filL;simp
theorem Zkw (h:Ext s L)(hm:∀x∈L,x∈m)(hr:m.Pairwise (· < ·))(f0:Frs s L w0)(hmn:∀w,Frs s L w->¬BefW w w0):filL s L m=[w0]:=by
 refine ZbI ((ZaZ hr).filter _) (by simp) λw=>?_;rw[ZeT,YAG];constructor
 .rintro⟨a,b⟩;by_cases z:w=w0
  .exact z
  .exact absurd ((ZfK h f0 hmn a).mpr z) b
 .rintro rfl;have k:=ZmA h hm f0 hmn;exact⟨k,λz=>(ZfK h f0 hmn k).mp z rfl⟩
theorem Zcy {ws ws':Q22}(pm:ws'.Perm ws)(pw:ws'.Pairwise λa b=>¬BefW b a)(nd:ws.Nodup):ws'.Pairwise BefW:=by
 refine(pw.and (pm.nodup_iff.mpr nd)).imp ?_;rintro a b ⟨h1,h2⟩;rcases Nat.lt_trichotomy a.length b.length with z | z | z
 .exact .inl z
 .rcases ZiU a b with k | k | k
  .exact .inr ⟨z,k⟩
  .exact absurd k h2
  .exact absurd (.inr ⟨z.symm,k⟩) h1
 .exact absurd (.inl z) h1
theorem ZcH {ws:Q22}(h:ws.Pairwise BefW):ws.Nodup:=h.imp λhab e=>by rw[e]at hab;exact Zdt hab
theorem Zml {old new came gone ws':Q22}(ho:old.Pairwise BefW)(hn:new.Pairwise BefW)(hc:∀w,w∈came↔w∈new/\w∉old)(nc:came.Nodup)(hg:∀w,w∈gone↔w∈old/\w∉new)(pm:ws'.Perm (old.filter (λw=>decide (w∉gone))++came))(pw:ws'.Pairwise λa b=>¬BefW b a):ws'=new:=by
 have nd:(old.filter (λw=>decide (w∉gone))++came).Nodup:=by rw[YCy];refine⟨(ZcH ho).filter _,nc,λa ha b hb e=>?_⟩;subst e;exact((hc a).mp hb).2 (YBT.mp ha).1
 refine ZbI (Zcy pm pw nd) hn λw=>?_;rw[pm.mem_iff,YAV,YBT,hc,decide_eq_true_iff,hg];constructor
 .rintro (⟨a,b⟩|⟨a,b⟩)
  .by_cases z:w∈new
   .exact z
   .exact absurd ⟨a,z⟩ b
  .exact a
 .intro a;by_cases z:w∈old
  .exact .inl ⟨z,λk=>k.2 a⟩
  .exact .inr ⟨a,z⟩
theorem Zkn (hm:m.Pairwise (· < ·)):ZaK [] m=signs m:=by
 unfold signs;refine ZbI (ZaZ hm) ?_ λw=>?_
 .rw[YBP];exact hm.imp λh=>.inr ⟨rfl,List.Lex.rel h⟩
 .rw[Za3,YAt];constructor
  .rintro⟨ms,c,hc,hl⟩;have h:=ms.init.len;rw[YBQ,YCo]at h;have h1:1<=w.length:=YBc.mpr ms.ne
   match w,h,h1,hl with
   | [d],_,_,hl=>exact⟨c,hc,by simpa using hl.symm⟩
  .rintro⟨c,hc,rfl⟩;exact⟨⟨by simp,Inf.nil _,Inf.nil _,λz=>by have:=z.len;simp at this⟩,c,hc,rfl⟩
def Chg (S:List AD)(H H':Hp):Prop:=∀b o,H b=some o->b∉S->ZdS o=false->H' b=some o
theorem SameL.chg (s:SameL H H'):Chg S H H':=λb o e _ t=>s b o e t
theorem Same.chg (s:Same H H'):Chg S H H':=λb o e _ _=>s b o e
theorem Chg.refl (H:Hp):Chg S H H:=λ_ _ e _ _=>e
theorem Chg.trans (a:Chg S H H1)(b:Chg S H1 H2):Chg S H H2:=λc o e n t=>b c o (a c o e n t) n t
theorem Chg.upd (h:a∈S):Chg S H (upd H a o):=λb u e n _=>by rw[Zai (show b≠a from λz=>n (by rw[z];exact h))];exact e
theorem Chg.mono (h:Chg S H H')(k:∀b∈S,b∈S'):Chg S' H H':=λb o e n t=>h b o e (λz=>n (k b z)) t
theorem Chg.l (h:Chg [] H H'):SameL H H':=λb o e t=>h b o e (by simp) t
def Nw (H:Hp)(r:AD):Prop:=∀o,H r=some o->ZdS o=true
theorem Nw.of (h:H r=none):Nw H r:=λo e=>by rw[h]at e;cases e
theorem Nw.ne (n:Nw H r)(h:H b=some o)(t:ZdS o=false):b≠r:=λz=>by rw[z]at h;rw[n o h]at t;cases t
theorem Nw.l (n:Nw H1 r)(s:SameL H H1):Nw H r:=λo e=>by
 cases t:ZdS o with
 | true=>rfl
 | false=>rw[<-t];exact n o (s r o e t)
theorem Nw.same (n:Nw H1 r)(s:Same H H1):Nw H r:=n.l s.l
theorem Nw.chg (n:Nw H1 r)(c:Chg S H H1)(hS:∀b∈S,∃o,H1 b=some o/\ZdS o=false):Nw H r:=λo e=>by
 by_cases z:r∈S
 .obtain⟨u,hu,tu⟩:=hS r z;exact absurd rfl (n.ne hu tu)
 .cases t:ZdS o with
  | true=>rfl
  | false=>rw[<-t];exact n o (c r o e z t)
def Zoj:HO->Bool
 | .ext _=>true
 | _=>false
theorem TblOk.upd (T:TblOk H P pos q)(h:H a=some o)(t:ZdS o=false)(x:Zoj o=false):TblOk (L2.upd H a o') P pos q:=by
 obtain⟨ps,e,tr,hc⟩:=T;refine⟨ps,?_,tr,hc.imp id ?_⟩
 .rw[Zai (λz=>by rw[z,h]at e;cases e;cases t)];exact e
 .rintro⟨c,e1,e2⟩;refine⟨c,e1,?_⟩;rw[Zai (λz=>by rw[z,h]at e2;unfold Zfe at e2;cases e2;cases x)];exact e2
def RowA (H:Hp)(y:V)(r:Q11×List V):Prop:=∃a b,y=.ref a/\H a=some (.tup [tx r.1,.ref b])/\H b=some (.tup r.2)
def RowsA (H:Hp)(ys:List V)(rs:List (Q11×List V)):Prop:=ys.length=rs.length/\∀(i:Nat) (y:V),ys[i]?=some y->∃r,rs[i]?=some r/\RowA H y r
theorem RowsA.chg (h:RowsA H ys rs)(c:Chg S H H')(hS:∀b∈S,∀us,H b≠some (.tup us)):RowsA H' ys rs:=by refine⟨h.1,λi y hy=>?_⟩;obtain⟨r,hr,a,b,e,h1,h2⟩:=h.2 i y hy;exact⟨r,hr,a,b,e,c _ _ h1 (λz=>hS _ z _ h1) rfl,c _ _ h2 (λz=>hS _ z _ h2) rfl⟩
theorem RowsA.l (h:RowsA H ys rs)(s:SameL H H'):RowsA H' ys rs:=h.chg (S:=[]) s.chg (by simp)
def rowD (r:Q11×List V):DT:=.t [.f (tx r.1),.t (r.2.map .f)]
theorem ZgD {K:Q4}{H:Hp}:∀ {ds:List DT} {vs:List V},vs.length=ds.length->(∀(i:Nat) (v:V),vs[i]?=some v->∃d,ds[i]?=some d/\DatOk K H d v)->DatsOk K H ds vs
 | [],[],_,_=>by unfold DatsOk;rfl
 | [],_::_,h,_=>by simp at h
 | _::_,[],h,_=>by simp at h
 | d::ds,v::vs,h,g=>by unfold DatsOk;obtain⟨d',e,hd⟩:=g 0 v rfl;cases e;exact⟨v,vs,rfl,hd,ZgD (by simpa using h) λi u hu=>g (i+1) u hu⟩
theorem RowA.dat {K:Q4}{H:Hp}{y:V}{r:Q11×List V}(h:RowA H y r)(hf:r.2.all Zbe=true):DatOk K H (rowD r) y:=by obtain⟨a,b,rfl,h1,h2⟩:=h;unfold rowD DatOk;refine⟨a,_,rfl,.mk h1,?_⟩;unfold DatsOk;refine⟨_,_,rfl,datF rfl,?_⟩;unfold DatsOk;refine⟨_,_,rfl,datT (.mk h2) hf,?_⟩;unfold DatsOk;rfl
theorem RowsA.dat {K:Q4}{H:Hp}{ys:List V}{rs:List (Q11×List V)}(h:RowsA H ys rs)(hf:∀r∈rs,r.2.all Zbe=true):DatsOk K H (rs.map rowD) ys:=by refine ZgD (by rw[YAD];exact h.1) λi y hy=>?_;obtain⟨r,hr,ra⟩:=h.2 i y hy;exact⟨rowD r,by rw[YAi,hr];rfl,ra.dat (hf r (YAq hr))⟩
theorem ZbP:∀ {ds:List DT},(∀d∈ds,deq d d=true)->deqs ds ds=true
 | [],_=>by unfold deqs;rfl
 | d::ds,h=>by unfold deqs;rw[h d YAg,ZbP λe he=>h e (YAX _ he)];rfl
theorem Zhk (hf:r.2.all Zbe=true):deq (rowD r) (rowD r)=true:=by
 unfold rowD deq;refine ZbP λd hd=>?_;rcases YAE.mp hd with rfl | hd
 .unfold deq;exact Zds rfl
 .rw[YAG.mp hd];unfold deq;exact ZbO hf
theorem Zd0 {n:Nat}:∀ {ds:List DT},(∀d∈ds,dep d<=n)->deps ds<=n
 | [],_=>by unfold deps;exact YAx _
 | d::ds,h=>by unfold deps;exact Nat.max_le.mpr ⟨h d YAg,Zd0 λe he=>h e (YAX _ he)⟩
theorem ZkD (r:Q11×List V):dep (rowD r)<=2:=by
 unfold rowD dep;refine YCA (Zd0 λd hd=>?_);rcases YAE.mp hd with rfl | hd
 .unfold dep;exact YAx _
 .rw[YAG.mp hd];unfold dep;rw[ZcQ];exact YAS _
def ansD (rc rg:List (Q11×List V)):DT:=.t [.l (rc.map rowD),.l (rg.map rowD)]
def Zgb (rs:List (Q11×List V)):Prop:=∀r∈rs,r.2.all Zbe=true
theorem ZjK {K:Q4}{H:Hp}{t c g:AD}{ys zs:List V}{rc rg:List (Q11×List V)}(ht:H t=some (.tup [.ref c,.ref g]))(hc:SqL K H c ys)(hg:SqL K H g zs)(h1:RowsA H ys rc)(h2:RowsA H zs rg)(f1:Zgb rc)(f2:Zgb rg):DatOk K H (ansD rc rg) (.ref t):=by
 unfold ansD DatOk;refine⟨t,_,rfl,.mk ht,?_⟩;unfold DatsOk;refine⟨_,_,rfl,?_,?_⟩
 .unfold DatOk;exact⟨c,ys,rfl,hc,h1.dat f1⟩
 .unfold DatsOk;refine⟨_,_,rfl,?_,?_⟩
  .unfold DatOk;exact⟨g,zs,rfl,hg,h2.dat f2⟩
  .unfold DatsOk;rfl
theorem ZoD (f1:Zgb rc)(f2:Zgb rg):deq (ansD rc rg) (ansD rc rg)=true:=by
 unfold ansD deq;refine ZbP λd hd=>?_;rcases YAE.mp hd with rfl | hd
 .unfold deq;refine ZbP λd hd=>?_;obtain⟨r,hr,rfl⟩:=YAt.mp hd;exact Zhk (f1 r hr)
 .rw[YAG.mp hd];unfold deq;refine ZbP λd hd=>?_;obtain⟨r,hr,rfl⟩:=YAt.mp hd;exact Zhk (f2 r hr)
theorem ZmI (rc rg:List (Q11×List V)):dep (ansD rc rg)<=60:=by
 unfold ansD dep;refine YAK (YCA (Zd0 (n:=3) λd hd=>?_)) (by decide);have go:∀rs:List (Q11×List V),dep (.l (rs.map rowD))<=3:=λrs=>by unfold dep;refine YCA (Zd0 λd hd=>?_);obtain⟨r,hr,rfl⟩:=YAt.mp hd;exact ZkD r
 rcases YAE.mp hd with rfl | hd
 .exact go _
 .rw[YAG.mp hd];exact go _
def ZbT (rs:Q11)(s L m:Q11):List (Q11×List V):=(opnL s L m).map λw=>(w,[tx rs,tx (shOf s w),.int (fpl L (shOf s w):Nat)])
def Zb2 (rs:Q11)(s L m:Q11):List (Q11×List V):=(filL s L m).map λw=>(w,[tx rs,.int (fpl L w:Nat)])
theorem Zjm (rs s L m:Q11):Zgb (ZbT rs s L m):=λr hr=>by obtain⟨w,_,rfl⟩:=YAt.mp hr;rfl
theorem Zjn (rs s L m:Q11):Zgb (Zb2 rs s L m):=λr hr=>by obtain⟨w,_,rfl⟩:=YAt.mp hr;rfl
def PUT:Q11:=[112,117,116]
def DROP:Q11:=[100,114,111,112]
def Zf1 (d:Bool×Nat):List V:=[tx (if d.1 then PUT else DROP),tx [d.2]]
def DeedsA (H:Hp)(ts:List V)(ds:List (Bool×Nat)):Prop:=ts.length=ds.length/\∀(i:Nat) (y:V),ts[i]?=some y->∃d,ds[i]?=some d/\∃t,y=.ref t/\H t=some (.tup (Zf1 d))
theorem DeedsA.chg (h:DeedsA H ts ds)(c:Chg S H H')(hS:∀b∈S,∀us,H b≠some (.tup us)):DeedsA H' ts ds:=by refine⟨h.1,λi y hy=>?_⟩;obtain⟨d,hd,t,e,ht⟩:=h.2 i y hy;exact⟨d,hd,t,e,c _ _ ht (λz=>hS _ z _ ht) rfl⟩
theorem DeedsA.snoc (h:DeedsA H ts ds)(ht:H t=some (.tup (Zf1 d))):DeedsA H (ts++[.ref t]) (ds++[d]):=by
 refine⟨by rw[YAH,YAH,h.1];rfl,λi y hy=>?_⟩;by_cases z:i<ts.length
 .rw[YBK z]at hy;obtain⟨d',hd,r⟩:=h.2 i y hy;exact⟨d',by rw[YBK (by rw[<-h.1];exact z)];exact hd,r⟩
 .rw[YBH (by omega)]at hy;have e:i-ts.length=0:=by
   rcases Nat.eq_zero_or_pos (i-ts.length) with q | q
   .exact q
   .rw[YBe (by simp;omega)]at hy;cases hy
  rw[e]at hy;cases hy;refine⟨d,?_,t,rfl,ht⟩;rw[YBH (by rw[<-h.1];omega),<-h.1,e];rfl
theorem DeedsA.init (h:DeedsA H ts (ds++[d])):∃ts' t,ts=ts'++[.ref t]/\H t=some (.tup (Zf1 d))/\DeedsA H ts' ds:=by
 have hl:ts.length=ds.length+1:=by rw[h.1];simp
 have ne:ts≠[]:=λe=>by rw[e]at hl;simp at hl
 have e:=YDG ne;have hlast:ts[ds.length]?=some (ts.getLast ne):=by rw[List.getLast_eq_getElem,YAN (by omega)];congr 2;omega
 obtain⟨d',hd,t,et,ht⟩:=h.2 _ _ hlast;rw[YBH (YAS _),Nat.sub_self]at hd;cases hd;refine⟨ts.dropLast,t,by rw[<-et];exact e.symm,ht,by rw[YBQ];omega,λi y hy=>?_⟩;rw[YDB,YCq]at hy;by_cases z:i<ts.length-1
 .rw[YAM z]at hy;obtain⟨d',hd,r⟩:=h.2 i y hy;rw[YBK (by omega)]at hd;exact⟨d',hd,r⟩
 .rw[YAI z]at hy;cases hy
def Zd2 (d:Bool×Nat):DT:=.t ((Zf1 d).map .f)
theorem DeedsA.dat {K:Q4}{H:Hp}{ts:List V}{ds:List (Bool×Nat)}(h:DeedsA H ts ds):DatsOk K H (ds.map Zd2) ts:=by refine ZgD (by rw[YAD];exact h.1) λi y hy=>?_;obtain⟨d,hd,t,rfl,ht⟩:=h.2 i y hy;exact⟨Zd2 d,by rw[YAi,hd];rfl,datT (.mk ht) rfl⟩
theorem Zjr (d:Bool×Nat):deq (Zd2 d) (Zd2 d)=true:=by unfold Zd2 deq;exact ZbO rfl
theorem Zjs (d:Bool×Nat):dep (Zd2 d)<=1:=by unfold Zd2 dep;rw[ZcQ];exact YAS _
inductive Run (m:Q11):List (Bool×Nat)->Q11->Prop
 | nil:Run m [] []
 | put {ds:List (Bool×Nat)} {l:Q11} {c:Nat} (h:Run m ds l) (hc:c∈m) (hl:l.length<40):Run m (ds++[(true,c)]) (l++[c])
 | drop {ds:List (Bool×Nat)} {l:Q11} {c:Nat} (h:Run m ds (c::l)):Run m (ds++[(false,c)]) l
theorem Run.len (h:Run m ds l):l.length<=40:=by
 induction h with
 | nil=>simp
 | put h hc hl ih=>simp;omega
 | drop h ih=>simp at ih;omega
theorem Run.mem (h:Run m ds l):∀x∈l,x∈m:=by
 induction h with
 | nil=>intro x hx;cases hx
 | put h hc hl ih=>
  intro x hx;rcases YAV.mp hx with hx | hx
  .exact ih x hx
  .rw[YAG.mp hx];exact hc
 | drop h ih=>exact λx hx=>ih x (YAX _ hx)
theorem Run.last (h:Run m ds' l)(ne:ds'≠[]):∃ds c,(ds'=ds++[(true,c)]/\∃l0,l=l0++[c]/\Run m ds l0)\/(ds'=ds++[(false,c)]/\Run m ds (c::l)):=by
 cases h with
 | nil=>exact absurd rfl ne
 | put h hc hl=>exact⟨_,_,.inl ⟨rfl,_,rfl,h⟩⟩
 | drop h=>exact⟨_,_,.inr ⟨rfl,h⟩⟩
def sF (l m:Q11)(la da:AD):List (Str×V):=[("own_text",tx l),("own_kinds",tx m),("own_lacking",.ref la),("own_deeds",.ref da)]
theorem f_tk:¬(("own_text":Str)="own_kinds"):=by decide +kernel
theorem f_tl:¬(("own_text":Str)="own_lacking"):=by decide +kernel
theorem f_td:¬(("own_text":Str)="own_deeds"):=by decide +kernel
theorem f_kl:¬(("own_kinds":Str)="own_lacking"):=by decide +kernel
theorem f_kd:¬(("own_kinds":Str)="own_deeds"):=by decide +kernel
theorem f_ld:¬(("own_lacking":Str)="own_deeds"):=by decide +kernel
theorem ZeG:putF f v ((f,x)::r)=(f,v)::r:=by unfold putF;rw[YAM rfl]
theorem Za7 (h:¬g=f):putF f v ((g,x)::r)=(g,x)::putF f v r:=by
 conv=>lhs;unfold putF
 rw[YAI h]
theorem Zio:putF "own_text" (tx l') (sF l m la da)=sF l' m la da:=ZeG
theorem Zip:putF "own_lacking" (.ref la') (sF l m la da)=sF l m la' da:=by unfold sF;rw[Za7 f_tl,Za7 f_kl,ZeG]
theorem Zj0:putF "own_deeds" (.ref da') (sF l m la da)=sF l m la da':=by unfold sF;rw[Za7 f_td,Za7 f_kd,Za7 f_ld,ZeG]
theorem ZkT:putF "own_deeds" (.ref da) (putF "own_lacking" (.ref la) (putF "own_kinds" (tx m) (putF "own_text" (tx l) [])))=sF l m la da:=by have e2:∀(f:Str) (v:V),putF f v []=[(f,v)]:=λ_ _=>rfl;rw[e2,Za7 f_tk,e2,Za7 f_tl,Za7 f_kl,e2,Za7 f_td,Za7 f_kd,Za7 f_ld,e2];rfl
theorem Zfs:sF l m la da=putF "own_deeds" (.ref da) (putF "own_lacking" (.ref la) (putF "own_kinds" (tx m) (putF "own_text" (tx l) []))):=ZkT.symm
theorem ZaX:(sF l m la da).lookup ("own_text":Str)=some (tx l):=by rw[Zfs,Zam,YAI f_td,Zam,YAI f_tl,Zam,YAI f_tk,Zam,YAM rfl]
theorem Zb6:(sF l m la da).lookup ("own_kinds":Str)=some (tx m):=by rw[Zfs,Zam,YAI f_kd,Zam,YAI f_kl,Zam,YAM rfl]
theorem ZgT:(sF l m la da).lookup ("own_lacking":Str)=some (.ref la):=by rw[Zfs,Zam,YAI f_ld,Zam,YAM rfl]
theorem Zby:(sF l m la da).lookup ("own_deeds":Str)=some (.ref da):=by rw[Zfs,Zam,YAM rfl]
theorem Zpl {l m:Q11} {la da:AD} {x:Str} (h1:¬x="own_text") (h2:¬x="own_kinds") (h3:¬x="own_lacking") (h4:¬x="own_deeds"):(sF l m la da).lookup x=none:=by rw[Zfs,Zam,YAI h4,Zam,YAI h3,Zam,YAI h2,Zam,YAI h1];rfl
def LETx:Q11:=[97,98,99,100,101,102,103,104,105,106,107,108,109,110,111,112,113,114,115,116,117,118,119,120,121,122]
def iskx (l:Q11):Bool:=decide (1<=l.length)&&decide (l.length<=4)&&(l.all λc=>LETx.contains c)&&decide (signs l=ZaV (ddl (signs l)))
def Zdg (C:AD)(H:Hp)(p la da:AD)(l m:Q11):Prop:=∃dx,H p=some (.ins C dx (sF l m la da))
structure KindsOk (m:Q11):Prop where
 k:iskx m=true
 m1:1<=m.length
 m4:m.length<=4
 rise:m.Pairwise (· < ·)
structure StripAt (C:AD)(H:Hp)(p la da:AD)(l m:Q11)(ds:List (Bool×Nat)):Prop where
 fld:Zdg C H p la da l m
 lack:H la=some (.lst ((ZaK l m).map tx))
 deed:∃ts,H da=some (.lst ts)/\DeedsA H ts ds
 run:Run m ds l
 ok:KindsOk m
 ne:la≠da
theorem StripAt.chg (h:StripAt C H p la da l m ds)(c:Chg S H H')(hS:∀b∈S,∀us,H b≠some (.tup us))(n1:p∉S)(n2:la∉S)(n3:da∉S):StripAt C H' p la da l m ds:=by obtain⟨⟨dx,f⟩,k,⟨ts,d1,d2⟩,r,o,n⟩:=h;exact⟨⟨dx,c _ _ f n1 rfl⟩,c _ _ k n2 rfl,⟨ts,c _ _ d1 n3 rfl,d2.chg c hS⟩,r,o,n⟩
theorem StripAt.l {C:AD}{H H':Hp}{p la da:AD}{l m:Q11}{ds:List (Bool×Nat)}(h:StripAt C H p la da l m ds)(s:SameL H H'):StripAt C H' p la da l m ds:=h.chg (S:=[]) s.chg (by simp) (by simp) (by simp) (by simp)
theorem StripAt.same {C:AD}{H H':Hp}{p la da:AD}{l m:Q11}{ds:List (Bool×Nat)}(h:StripAt C H p la da l m ds)(s:Same H H'):StripAt C H' p la da l m ds:=h.l s.l
structure AnsS (H H2:Hp)(t c g la:AD)(rc rg:List (Q11×List V)):Prop where
 tup:H2 t=some (.tup [.ref c,.ref g])
 came:∃ys,H2 c=some (.lst ys)/\RowsA H2 ys rc
 went:∃zs,H2 g=some (.lst zs)/\RowsA H2 zs rg
 nc:Nw H c
 ng:Nw H g
 nl:Nw H la
 ncg:c≠g
 ncl:c≠la
 ngl:g≠la
open PySem.W (Frag)
section
end
section
end
section
end
open PySem.W (Frag)
section
end
end L2
namespace L2
open PySem PySem.Spec PyProof.Rows PySem.W
section
end
end L2
namespace L2
open PySem PySem.Spec PyProof.Rows
section
end
section
theorem Zde (hc:X.calm=true):Zb0 X (.builtin "sorted") (λxs H Q=>∃a kvs ls,xs=[.ref a]/\Rd H a (.dK kvs)/\kvs.map (·.1)=ls.map kTx/\NewL ((ZaV ls).map tx) H Q):=by
 rintro Bb s U H xs us Q I r ⟨a,kvs,ls,rfl,ha,hk,q⟩;obtain⟨u,rfl,ru⟩:=r.one;cases ru;obtain⟨z,y,vs,rr,o,es,ep,eo⟩:=ha.ok I.hok;have hm:s.heap.DictAt (ZaD X.prog X.w) a vs ep:=⟨o,es,eo⟩;have hl2:vs.length=ls.length:=by rw[<-rr.length];have:=congrArg List.length hk;simpa using this
 have hz:ls.length<=sizeLine:=by rw[<-hl2,<-rr.length];exact z
 have hl:(ZaV ls).length<=sizeLine:=by rw[(ZaI ls).length_eq];exact hz
 refine YCh kind_sorted plain_sorted entry_sorted (args_sorted1 _) ?_;unfold Builtin.«sorted»;refine YAA (m:=checkCount "sorted" 1 1 _) (YAF ?_);refine YAA (Zf3 (by first | exact I.ok.hd hc | simpa using I.ok.hd hc) y hm (by rw[hl2];exact hz) λs' us' k1 hg ho hv=>?_);have ev:(vs.map λp=>kV p.1)=ls.map tx:=by
  have e1:(vs.map λp=>kV p.1)=(vs.map (·.1)).map kV:=by rw[YAu];rfl
  rw[e1,<-rr.keys,hk,YAu];rfl
 rw[ev]at hv;refine Zei hv hz λh' us2 e k2 he r2=>?_;have nw:s.heap.get? s'.heap.objs.size=none:=by
  cases q:s.heap.get? s'.heap.objs.size with
  | none=>rfl
  | some o=>exact absurd (YAL (k1 _ _ q)) (YAv _)
 exact⟨.ref s'.heap.objs.size,_,I.laid2 (s':={ s' with heap:=h' }) (o:=.lst ((ZaV ls).map tx)) ho hg (λb o z=>k2 b o (k1 b o z)) nw ⟨by rw[YAD];exact hl,us2,e,r2,he⟩,rfl,q _ (I.hok.none_of nw)⟩
end
section
theorem Zdk (hc:X.calm=true):Zb0 X (.builtin "sorted") (λxs H Q=>∃a ls,xs=[.ref a]/\H a=some (tset X.prog X.w a ls)/\ls.length<=sizeLine/\NewL ((ZaV ls).map tx) H Q):=by
 rintro Bb s U H xs us Q I r ⟨a,ls,rfl,ha,h64,q⟩;obtain⟨u,rfl,ru⟩:=r.one;cases ru;have hS:TxSet X.prog X.w s.heap a ls (!Zbi X.w):=(I.hok a _ ha).1;refine Zgj (I.ok.hd hc) hS h64 λs' b us e nw k hg ho hb rv=>?_;have hl:(ZaV ls).length<=sizeLine:=by rw[(ZaI ls).length_eq];exact h64
 exact⟨.ref b,_,I.laid2 (o:=.lst ((ZaV ls).map tx)) ho hg k nw ⟨by rw[YAD];exact hl,us,e,rv,hb⟩,rfl,q b (I.hok.none_of nw)⟩
theorem ZhY (hc:X.calm=true):Zb0 X (.type "list") (λxs H Q=>∃a kvs,xs=[.ref a]/\Rd H a (.dK kvs)/\NewL (kvs.map λp=>kV p.1) H Q):=by
 rintro Bb s U H xs us Q I r ⟨a,kvs,rfl,ha,q⟩;obtain⟨u,rfl,ru⟩:=r.one;cases ru;obtain⟨z,y,vs,rr,o,es,ep,eo⟩:=ha.ok I.hok;have hm:s.heap.DictAt (ZaD X.prog X.w) a vs ep:=⟨o,es,eo⟩;have hl:vs.length<=sizeLine:=by rw[<-rr.length];exact z
 refine PySem.W.kdl_call (PySem.W.kdl_dict y) (I.ok.hd hc) hm hl λh' tk acc' c' hk hS Be=>?_;have hv:Vals (kvs.map λp=>kV p.1) acc'.toList:=by
  have e1:(kvs.map λp=>kV p.1)=(vs.map λp=>kV p.1):=by
   have e2:(kvs.map λp=>kV p.1)=(kvs.map (·.1)).map kV:=by rw[YAu];rfl
   have e3:(vs.map λp=>kV p.1)=(vs.map (·.1)).map kV:=by rw[YAu];rfl
   rw[e2,e3,rr.keys]
  rw[e1];refine Zct (by rw[YAD];exact(Array.length_toList.trans Be.1).symm) λi x u h1 h2=>?_;rw[YAo]at h2;obtain⟨k,v,e,hk⟩:=Be.2 i u h2;rw[YAi,e]at h1;cases h1;exact Zmp hk
 exact⟨.ref s.heap.objs.size,_,I.laid (t':=tk) (o:=.lst (kvs.map λp=>kV p.1)) hk (YAS _) ⟨by rw[YAD];exact z,acc'.toList,c',hv,by rw[YCf];exact hS⟩,rfl,q _ I.fresh⟩
end
section
end
section
end
section
end
def Zav (t:TS):TS:=t
theorem Zae {X:Cx}{st:List Stmt}{t:TS}(h:PSs X st t):PSs X st (Zav t):=h
theorem Zaf (h:t D U H):Zav t D U H:=h
section
end
end L2
set_option maxHeartbeats 400000000
namespace Pk83
open PySem L2
def top (i:Nat):Stmt:=PySem.Challenge.pw_lackword_k83_shelf_refuses_and_copies.main.body.getD i (.Pass ⟨0,0,0,0⟩)
abbrev s_LC:Stmt:=top 15
abbrev s_LE:Stmt:=top 16
abbrev s_LH:Stmt:=top 17
abbrev s_K9:Stmt:=top 18
abbrev s_K0:Stmt:=top 19
abbrev s_LA:Stmt:=top 20
abbrev s_KM:Stmt:=top 21
abbrev s_LD:Stmt:=top 24
abbrev s_K1:Stmt:=top 32
abbrev s_LG:Stmt:=top 37
abbrev s_L0:Stmt:=top 44
abbrev s_LZ:Stmt:=top 46
abbrev s_LR:Stmt:=top 47
abbrev s_LV:Stmt:=top 48
abbrev s_L1:Stmt:=top 51
abbrev s_L3:Stmt:=top 52
abbrev s_LS:Stmt:=top 53
abbrev s_LI:Stmt:=top 54
abbrev s_LT:Stmt:=top 55
abbrev s_LU:Stmt:=top 56
abbrev s_LK:Stmt:=top 57
abbrev s_L4:Stmt:=top 58
abbrev ZlM:Stmt:=top 59
abbrev s_LQ:Stmt:=top 60
abbrev s_LB:Stmt:=top 61
abbrev s_L2:Stmt:=top 62
abbrev s_L5:Stmt:=top 63
abbrev s_LJ:Stmt:=top 64
abbrev s_LL:Stmt:=top 65
abbrev ZlN:Stmt:=top 66
abbrev ZbR:Stmt:=inClass (top 2) 0
abbrev ZbS:Stmt:=inClass (top 3) 0
abbrev Zbs:Stmt:=inClass (top 4) 0
abbrev s_KT:Stmt:=inClass (top 38) 0
abbrev s_KI:Stmt:=inClass (top 38) 1
abbrev s_KA:Stmt:=inClass (top 38) 2
abbrev s_K6:Stmt:=inClass (top 38) 3
abbrev s_KJ:Stmt:=inClass (top 38) 4
abbrev s_KU:Stmt:=inClass (top 38) 5
abbrev s_KK:Stmt:=inClass (top 38) 6
abbrev s_KV:Stmt:=inClass (top 38) 7
abbrev s_K7:Stmt:=inClass (top 38) 8
abbrev s_KS:Stmt:=inClass (top 38) 9
abbrev s_KR:Stmt:=inClass (top 38) 10
abbrev s_KE:Stmt:=inClass (top 38) 11
abbrev s_K2:Stmt:=inClass (top 41) 0
abbrev s_KN:Stmt:=inClass (top 41) 1
abbrev s_K3:Stmt:=inClass (top 41) 2
abbrev s_KQ:Stmt:=inClass (top 42) 0
abbrev s_KZ:Stmt:=inClass (top 49) 0
abbrev s_KL:Stmt:=inClass (top 49) 2
abbrev s_K8:Stmt:=inClass (top 49) 3
abbrev s_KX:Stmt:=inClass (top 49) 4
abbrev s_KW:Stmt:=inClass (top 49) 5
abbrev s_KY:Stmt:=inClass (top 49) 6
abbrev s_KH:Stmt:=inClass (top 49) 7
abbrev s_KF:Stmt:=inClass (top 49) 8
abbrev s_KG:Stmt:=inClass (top 49) 9
set_option genInjectivity false
set_option genSizeOf false
structure Ad where
 (c_K4 c_LO c_LN c_K5 c_LF c_L8 c_L7 c_LM c_LP c_LX c_L6 c_LW c_LY ak al aj aS bh bi bj bo bp bq br bt bu bv bw bz aT bA aU aV bB bC bD bE bF bG bH bI f_LC f_LE f_LH f_K9 f_K0 f_LA f_KM f_LD f_K1 f_LG f_L0 f_LZ f_LR f_LV f_L1 f_L3 f_LS f_LI f_LT f_LU f_LK f_L4 f_lis f_LQ f_LB f_L2 f_L5 f_LJ f_LL f_law t_LD k_LD:AD)
 (au av am cq cu cw cx cy cz cA cB cE cF cG cH cI cJ cK cL cM cN cO cP cQ cR cS cT cU d_LC d_LE d_LH d_K9 d_K0 d_LA d_KM d_LD d_K1 d_LG d_L0 d_LZ d_LR d_LV d_L1 d_L3 d_LS d_LI d_LT d_LU d_LK d_L4 d_lis d_LQ d_LB d_L2 d_L5 d_LJ d_LL d_law:AF)
structure Txt (K:Q4)(mg:AB)(a:Ad):Prop where
 m_LC:mg "has_only"=some (.ref a.f_LC)
 f_LC:Fun K "has_only" "has_only" s_LC a.f_LC a.d_LC
 b_LC:Binds K a.d_LC ["text","letters"] []
 m_LE:mg "is_kinds"=some (.ref a.f_LE)
 f_LE:Fun K "is_kinds" "is_kinds" s_LE a.f_LE a.d_LE
 b_LE:Binds K a.d_LE ["thing"] []
 dG:mg "is_word"=some (.ref a.f_LH)
 f_LH:Fun K "is_word" "is_word" s_LH a.f_LH a.d_LH
 dH:Binds K a.d_LH ["thing","kinds","most"] []
 m_K9:mg "is_letter"=some (.ref a.f_K9)
 f_K9:Fun K "is_letter" "is_letter" s_K9 a.f_K9 a.d_K9
 b_K9:Binds K a.d_K9 ["thing","kinds"] []
 dI:mg "need_kinds"=some (.ref a.f_K0)
 f_K0:Fun K "need_kinds" "need_kinds" s_K0 a.f_K0 a.d_K0
 dJ:Binds K a.d_K0 ["thing"] []
 m_LA:mg "need_word"=some (.ref a.f_LA)
 f_LA:Fun K "need_word" "need_word" s_LA a.f_LA a.d_LA
 b_LA:Binds K a.d_LA ["thing","kinds","most"] []
 m_KM:mg "need_letter"=some (.ref a.f_KM)
 f_KM:Fun K "need_letter" "need_letter" s_KM a.f_KM a.d_KM
 b_KM:Binds K a.d_KM ["thing","kinds"] []
 c5:mg "in_order"=some (.ref a.f_LD)
 f_LD:Fun K "in_order" "in_order" s_LD a.f_LD a.d_LD
 dL:Binds K a.d_LD ["words"] []
 m_K1:mg "need_same_kinds"=some (.ref a.f_K1)
 f_K1:Fun K "need_same_kinds" "need_same_kinds" s_K1 a.f_K1 a.d_K1
 b_K1:Binds K a.d_K1 ["one","other"] []
 c6:mg "is_name"=some (.ref a.f_LG)
 f_LG:Fun K "is_name" "is_name" s_LG a.f_LG a.d_LG
 de:Binds K a.d_LG ["thing"] []
 m_L0:mg "lacks"=some (.ref a.f_L0)
 f_L0:Fun K "lacks" "lacks" s_L0 a.f_L0 a.d_L0
 b_L0:Binds K a.d_L0 ["text","word"] []
 m_LZ:mg "fresh_words"=some (.ref a.f_LZ)
 f_LZ:Fun K "fresh_words" "fresh_words" s_LZ a.f_LZ a.d_LZ
 b_LZ:Binds K a.d_LZ ["lesser","longer"] []
 m_LR:mg "filled"=some (.ref a.f_LR)
 f_LR:Fun K "filled" "filled" s_LR a.f_LR a.d_LR
 b_LR:Binds K a.d_LR ["lesser","longer","reason"] []
 m_LV:mg "opened"=some (.ref a.f_LV)
 f_LV:Fun K "opened" "opened" s_LV a.f_LV a.d_LV
 b_LV:Binds K a.d_LV ["lesser","longer","kinds","reason"] []
 aW:mg "_law_cell"=some (.ref a.f_L1)
 f_L1:Fun K "_law_cell" "_law_cell" s_L1 a.f_L1 a.d_L1
 aX:Binds K a.d_L1 ["_law_script","_law_k"] []
 m_L3:mg "_law_mixed"=some (.ref a.f_L3)
 f_L3:Fun K "_law_mixed" "_law_mixed" s_L3 a.f_L3 a.d_L3
 b_L3:Binds K a.d_L3 ["_law_cell_here","_law_k"] []
 m_LS:mg "_law_kinds"=some (.ref a.f_LS)
 f_LS:Fun K "_law_kinds" "_law_kinds" s_LS a.f_LS a.d_LS
 b_LS:Binds K a.d_LS ["_law_cell_here"] []
 m_LI:mg "_law_letters"=some (.ref a.f_LI)
 f_LI:Fun K "_law_letters" "_law_letters" s_LI a.f_LI a.d_LI
 b_LI:Binds K a.d_LI ["_law_way","_law_cell_here","_law_kinds_here","_law_size"] []
 m_LT:mg "_law_names"=some (.ref a.f_LT)
 f_LT:Fun K "_law_names" "_law_names" s_LT a.f_LT a.d_LT
 b_LT:Binds K a.d_LT ["_law_cell_here","_law_many"] []
 m_LU:mg "_law_strip"=some (.ref a.f_LU)
 f_LU:Fun K "_law_strip" "_law_strip" s_LU a.f_LU a.d_LU
 b_LU:Binds K a.d_LU ["_law_kinds_here","_law_cell_here"] []
 ba:mg "_law_refusal"=some (.ref a.f_LK)
 f_LK:Fun K "_law_refusal" "_law_refusal" s_LK a.f_LK a.d_LK
 bc:Binds K a.d_LK ["_law_shelf","_law_way","_law_name","_law_strip_here"] []
 dM:mg "_law_named"=some (.ref a.f_L4)
 f_L4:Fun K "_law_named" "_law_named" s_L4 a.f_L4 a.d_L4
 dN:Binds K a.d_L4 ["_law_found","_law_kind","_law_thing_here"] []
 m_lis:mg "_law_is"=some (.ref a.f_lis)
 f_lis:Fun K "_law_is" "_law_is" ZlM a.f_lis a.d_lis
 b_lis:Binds K a.d_lis ["_law_shelf","_law_texts"] []
 m_LQ:mg "_law_copies"=some (.ref a.f_LQ)
 f_LQ:Fun K "_law_copies" "_law_copies" s_LQ a.f_LQ a.d_LQ
 b_LQ:Binds K a.d_LQ ["_law_shelf","_law_texts","_law_name","_law_kinds_here"] []
 m_LB:mg "_law_as_strip"=some (.ref a.f_LB)
 f_LB:Fun K "_law_as_strip" "_law_as_strip" s_LB a.f_LB a.d_LB
 b_LB:Binds K a.d_LB ["_law_shelf","_law_texts","_law_name","_law_kinds_here"] []
 m_L2:mg "_law_full"=some (.ref a.f_L2)
 f_L2:Fun K "_law_full" "_law_full" s_L2 a.f_L2 a.d_L2
 b_L2:Binds K a.d_L2 ["_law_shelf","_law_name","_law_kinds_here"] []
 m_L5:mg "_law_thing"=some (.ref a.f_L5)
 f_L5:Fun K "_law_thing" "_law_thing" s_L5 a.f_L5 a.d_L5
 b_L5:Binds K a.d_L5 ["_law_cell_here","_law_names_here"] []
 m_LJ:mg "_law_no_kinds"=some (.ref a.f_LJ)
 f_LJ:Fun K "_law_no_kinds" "_law_no_kinds" s_LJ a.f_LJ a.d_LJ
 b_LJ:Binds K a.d_LJ ["_law_bad"] []
 m_LL:mg "_law_refuses"=some (.ref a.f_LL)
 f_LL:Fun K "_law_refuses" "_law_refuses" s_LL a.f_LL a.d_LL
 b_LL:Binds K a.d_LL ["_law_shelf","_law_thing_here","_law_names_here","_law_name","_law_strange"] []
 m_law:mg "law"=some (.ref a.f_law)
 f_law:Fun K "law" "law" ZlN a.f_law a.d_law
 b_law:Binds K a.d_law ["_law_script"] []
 cV:mg "LackError"=some (.ref a.c_K4)
 x_K4:Xm K a.c_K4
 xi_K4:Xi K a.c_K4
 bd:ClsOk K a.c_K4 [.ref a.c_K4,.type "ValueError",.type "Exception",.type "BaseException",.type "object"]
 i_K4:PySem.W.findIn K (.ref a.c_K4) "__init__"=some (some (.builtin "ValueError.__init__"))
 dO:ClsRead K a.c_K4 "__init__" (.builtin "ValueError.__init__")
 m_LO:mg "NoWord"=some (.ref a.c_LO)
 cW:Xm K a.c_LO
 eE:Xi K a.c_LO
 dP:ClsOk K a.c_LO [.ref a.c_LO,.ref a.c_K4,.type "ValueError",.type "Exception",.type "BaseException",.type "object"]
 i_LO:PySem.W.findIn K (.ref a.c_LO) "__init__"=some (some (.ref a.ak))
 eG:PySem.W.isFn K (.ref a.ak)=true
 aA:NoAttr K a.c_LO "word"
 fi_LO:Fun K "__init__" "NoWord.__init__" ZbR a.ak a.au
 b_LO:Binds K a.au ["self","word"] []
 df:mg "NoName"=some (.ref a.c_LN)
 bJ:Xm K a.c_LN
 b8:Xi K a.c_LN
 bK:ClsOk K a.c_LN [.ref a.c_LN,.ref a.c_K4,.type "ValueError",.type "Exception",.type "BaseException",.type "object"]
 dQ:PySem.W.findIn K (.ref a.c_LN) "__init__"=some (some (.ref a.al))
 dh:PySem.W.isFn K (.ref a.al)=true
 aB:NoAttr K a.c_LN "name"
 fi_LN:Fun K "__init__" "NoName.__init__" ZbS a.al a.av
 b_LN:Binds K a.av ["self","name"] []
 dR:mg "NameThere"=some (.ref a.c_K5)
 cX:Xm K a.c_K5
 ce:Xi K a.c_K5
 bM:ClsOk K a.c_K5 [.ref a.c_K5,.ref a.c_K4,.type "ValueError",.type "Exception",.type "BaseException",.type "object"]
 i_K5:PySem.W.findIn K (.ref a.c_K5) "__init__"=some (some (.ref a.aj))
 eI:PySem.W.isFn K (.ref a.aj)=true
 ay:NoAttr K a.c_K5 "name"
 fi_K5:Fun K "__init__" "NameThere.__init__" Zbs a.aj a.am
 b_K5:Binds K a.am ["self","name"] []
 m_LF:mg "NoKinds"=some (.ref a.c_LF)
 x_LF:Xm K a.c_LF
 eK:Xi K a.c_LF
 dS:ClsOk K a.c_LF [.ref a.c_LF,.ref a.c_K4,.type "ValueError",.type "Exception",.type "BaseException",.type "object"]
 i_LF:PySem.W.findIn K (.ref a.c_LF) "__init__"=some (some (.builtin "ValueError.__init__"))
 m_L8:mg "Full"=some (.ref a.c_L8)
 x_L8:Xm K a.c_L8
 eO:Xi K a.c_L8
 dU:ClsOk K a.c_L8 [.ref a.c_L8,.ref a.c_K4,.type "ValueError",.type "Exception",.type "BaseException",.type "object"]
 i_L8:PySem.W.findIn K (.ref a.c_L8) "__init__"=some (some (.builtin "ValueError.__init__"))
 m_L7:mg "Bare"=some (.ref a.c_L7)
 x_L7:Xm K a.c_L7
 eP:Xi K a.c_L7
 dW:ClsOk K a.c_L7 [.ref a.c_L7,.ref a.c_K4,.type "ValueError",.type "Exception",.type "BaseException",.type "object"]
 i_L7:PySem.W.findIn K (.ref a.c_L7) "__init__"=some (some (.builtin "ValueError.__init__"))
 m_LM:mg "NoBack"=some (.ref a.c_LM)
 x_LM:Xm K a.c_LM
 eQ:Xi K a.c_LM
 dZ:ClsOk K a.c_LM [.ref a.c_LM,.ref a.c_K4,.type "ValueError",.type "Exception",.type "BaseException",.type "object"]
 i_LM:PySem.W.findIn K (.ref a.c_LM) "__init__"=some (some (.builtin "ValueError.__init__"))
 cY:mg "Unlike"=some (.ref a.c_LP)
 x_LP:Xm K a.c_LP
 dj:Xi K a.c_LP
 bO:ClsOk K a.c_LP [.ref a.c_LP,.ref a.c_K4,.type "ValueError",.type "Exception",.type "BaseException",.type "object"]
 i_LP:PySem.W.findIn K (.ref a.c_LP) "__init__"=some (some (.builtin "ValueError.__init__"))
 m_LX:mg "Shelf"=some (.ref a.c_LX)
 cr_LX:ClsRead K a.c_LX "__init__" (.ref a.aS)
 ah:Cls K a.c_LX
 bP:Mk K a.c_LX a.aS
 cf:Meth K a.c_LX "kinds" a.bh
 cg:Meth K a.c_LX "need_free" a.bi
 aO:Meth K a.c_LX "lay" a.bj
 aY:Meth K a.c_LX "names" a.bo
 aN:Meth K a.c_LX "kept" a.bp
 aL:Meth K a.c_LX "shown" a.bq
 aZ:Meth K a.c_LX "take" a.br
 bQ:Meth K a.c_LX "put" a.bt
 bR:Meth K a.c_LX "drop" a.bu
 bS:Meth K a.c_LX "back" a.bv
 ck:Meth K a.c_LX "ranked" a.bw
 aJ:NoAttr K a.c_LX "own_text"
 aw:NoAttr K a.c_LX "own_kinds"
 aC:NoAttr K a.c_LX "own_lacking"
 aH:NoAttr K a.c_LX "own_deeds"
 ae:NoAttr K a.c_LX "own_strips"
 ty_LX:∀ {H:Hp} {x dx:AD} {fs:List (Str×V)},H x=some (.ins a.c_LX dx fs)->TyOf K H (.ref x) (.ref a.c_LX)
 m_L6:mg "Band"=some (.ref a.c_L6)
 dm:ClsRead K a.c_L6 "__init__" (.ref a.bz)
 cl_L6:Cls K a.c_L6
 k_L6:ClsOk K a.c_L6 [.ref a.c_L6,.type "object"]
 m_LW:mg "Plain"=some (.ref a.c_LW)
 cr_LW:ClsRead K a.c_LW "__init__" (.ref a.aU)
 aQ:Cls K a.c_LW
 cn:Mk K a.c_LW a.aU
 aq:Meth K a.c_LW "kinds" a.aT
 az:NoAttr K a.c_LW "own_text"
 ax:NoAttr K a.c_LW "own_kinds"
 aD:NoAttr K a.c_LW "own_lacking"
 aI:NoAttr K a.c_LW "own_deeds"
 aF:NoAttr K a.c_LW "own_strips"
 ty_LW:∀ {H:Hp} {x dx:AD} {fs:List (Str×V)},H x=some (.ins a.c_LW dx fs)->TyOf K H (.ref x) (.ref a.c_LW)
 bZ:mg "Strip"=some (.ref a.c_LY)
 cr_LY:ClsRead K a.c_LY "__init__" (.ref a.aV)
 ac:Cls K a.c_LY
 dB:ClsOk K a.c_LY [.ref a.c_LY,.ref a.c_L6,.type "object"]
 aR:Mk K a.c_LY a.aV
 ao:Meth K a.c_LY "kinds" a.aT
 ai:Meth K a.c_LY "text" a.bA
 a7:Meth K a.c_LY "deeds" a.bB
 aM:Meth K a.c_LY "put" a.bC
 a9:Meth K a.c_LY "drop" a.bD
 bT:Meth K a.c_LY "back" a.bE
 bU:Meth K a.c_LY "grow" a.bF
 bV:Meth K a.c_LY "shrink" a.bG
 bW:Meth K a.c_LY "change" a.bH
 bX:Meth K a.c_LY "copied" a.bI
 aa:NoAttr K a.c_LY "own_text"
 ag:NoAttr K a.c_LY "own_kinds"
 af:NoAttr K a.c_LY "own_lacking"
 ad:NoAttr K a.c_LY "own_deeds"
 aG:NoAttr K a.c_LY "own_strips"
 dC:∀ {H:Hp} {x dx:AD} {fs:List (Str×V)},H x=some (.ins a.c_LY dx fs)->TyOf K H (.ref x) (.ref a.c_LY)
 fm_KT:Fun K "__init__" "Shelf.__init__" s_KT a.aS a.cq
 kp_KT:PySem.W.keepIn K (.ref a.aS)=true
 b_KT:Binds K a.cq ["self","kinds"] []
 fm_KI:Fun K "kinds" "Shelf.kinds" s_KI a.bh a.cu
 kp_KI:PySem.W.keepIn K (.ref a.bh)=true
 b_KI:Binds K a.cu ["self"] []
 fm_KA:Fun K "need_free" "Shelf.need_free" s_KA a.bi a.cw
 kp_KA:PySem.W.keepIn K (.ref a.bi)=true
 b_KA:Binds K a.cw ["self","name"] []
 fm_K6:Fun K "lay" "Shelf.lay" s_K6 a.bj a.cx
 kp_K6:PySem.W.keepIn K (.ref a.bj)=true
 dD:Binds K a.cx ["self","name","strip"] []
 fm_KJ:Fun K "names" "Shelf.names" s_KJ a.bo a.cy
 kp_KJ:PySem.W.keepIn K (.ref a.bo)=true
 d0:Binds K a.cy ["self"] []
 fm_KU:Fun K "kept" "Shelf.kept" s_KU a.bp a.cz
 kp_KU:PySem.W.keepIn K (.ref a.bp)=true
 cZ:Binds K a.cz ["self","name"] []
 fm_KK:Fun K "shown" "Shelf.shown" s_KK a.bq a.cA
 kp_KK:PySem.W.keepIn K (.ref a.bq)=true
 bf:Binds K a.cA ["self","name"] []
 fm_KV:Fun K "take" "Shelf.take" s_KV a.br a.cB
 kp_KV:PySem.W.keepIn K (.ref a.br)=true
 em:Binds K a.cB ["self","name"] []
 fm_K7:Fun K "put" "Shelf.put" s_K7 a.bt a.cE
 kp_K7:PySem.W.keepIn K (.ref a.bt)=true
 b_K7:Binds K a.cE ["self","name","letter"] []
 fm_KS:Fun K "drop" "Shelf.drop" s_KS a.bu a.cF
 kp_KS:PySem.W.keepIn K (.ref a.bu)=true
 b_KS:Binds K a.cF ["self","name"] []
 fm_KR:Fun K "back" "Shelf.back" s_KR a.bv a.cG
 kp_KR:PySem.W.keepIn K (.ref a.bv)=true
 b_KR:Binds K a.cG ["self","name"] []
 fm_KE:Fun K "ranked" "Shelf.ranked" s_KE a.bw a.cH
 kp_KE:PySem.W.keepIn K (.ref a.bw)=true
 b_KE:Binds K a.cH ["self","strip"] []
 fm_K2:Fun K "__init__" "Band.__init__" s_K2 a.bz a.cI
 dE:PySem.W.keepIn K (.ref a.bz)=true
 b_K2:Binds K a.cI ["self","text","kinds"] []
 fm_KN:Fun K "kinds" "Band.kinds" s_KN a.aT a.cJ
 kp_KN:PySem.W.keepIn K (.ref a.aT)=true
 bY:Binds K a.cJ ["self"] []
 fm_K3:Fun K "text" "Band.text" s_K3 a.bA a.cK
 kp_K3:PySem.W.keepIn K (.ref a.bA)=true
 bg:Binds K a.cK ["self"] []
 fm_KQ:Fun K "__init__" "Plain.__init__" s_KQ a.aU a.cL
 kp_KQ:PySem.W.keepIn K (.ref a.aU)=true
 b_KQ:Binds K a.cL ["self","text","kinds"] []
 fm_KZ:Fun K "__init__" "Strip.__init__" s_KZ a.aV a.cM
 kp_KZ:PySem.W.keepIn K (.ref a.aV)=true
 dF:Binds K a.cM ["self","kinds"] []
 fm_KL:Fun K "deeds" "Strip.deeds" s_KL a.bB a.cN
 kp_KL:PySem.W.keepIn K (.ref a.bB)=true
 eC:Binds K a.cN ["self"] []
 fm_K8:Fun K "put" "Strip.put" s_K8 a.bC a.cO
 kp_K8:PySem.W.keepIn K (.ref a.bC)=true
 b7:Binds K a.cO ["self","letter"] []
 fm_KX:Fun K "drop" "Strip.drop" s_KX a.bD a.cP
 kp_KX:PySem.W.keepIn K (.ref a.bD)=true
 eD:Binds K a.cP ["self"] []
 fm_KW:Fun K "back" "Strip.back" s_KW a.bE a.cQ
 kp_KW:PySem.W.keepIn K (.ref a.bE)=true
 b_KW:Binds K a.cQ ["self"] []
 fm_KY:Fun K "grow" "Strip.grow" s_KY a.bF a.cR
 kp_KY:PySem.W.keepIn K (.ref a.bF)=true
 b_KY:Binds K a.cR ["self","longer"] []
 fm_KH:Fun K "shrink" "Strip.shrink" s_KH a.bG a.cS
 kp_KH:PySem.W.keepIn K (.ref a.bG)=true
 b_KH:Binds K a.cS ["self","lesser"] []
 fm_KF:Fun K "change" "Strip.change" s_KF a.bH a.cT
 kp_KF:PySem.W.keepIn K (.ref a.bH)=true
 b_KF:Binds K a.cT ["self","text","came","went"] []
 fm_KG:Fun K "copied" "Strip.copied" s_KG a.bI a.cU
 kp_KG:PySem.W.keepIn K (.ref a.bI)=true
 b_KG:Binds K a.cU ["self"] []
 nd:[a.c_K4,a.c_LO,a.c_LN,a.c_K5,a.c_LF,a.c_L8,a.c_L7,a.c_LM,a.c_LP].Nodup
 z_len:mg "len"=none
 z_range:mg "range"=none
 z_isinstance:mg "isinstance"=none
 z_all:mg "all"=none
 z_min:mg "min"=none
 z_list:mg "list"=none
 z_set:mg "set"=none
 z_sorted:mg "sorted"=none
 z_str:mg "str"=none
 z_bool:mg "bool"=none
 aE:mg "ValueError"=none
 c_KC:∃t,mg "SMALL_LETTERS"=some (.str (Str.ofString "abcdefghijklmnopqrstuvwxyz") t)
 c_KP:∃t,mg "MOST_KINDS"=some (.int 4 t)
 c_KB:∃t,mg "MOST_IN_STRIP"=some (.int 40 t)
 c_KO:∃t,mg "MOST_ASKED"=some (.int 60 t)
 c_KD:∃t,mg "MOST_IN_NAME"=some (.int 8 t)
 bl:∀(s:AE) (u:Value),BindsTo s a.d_law ⟨[u],[]⟩ [("_law_script",u)]
structure TL (K:Q4)(mg:AB)(base:Heap)(a:Ad)(tb:Str->AD×AD):Prop extends Txt K mg a where
 L_in_order:LamEnv base mg a.k_LD a.t_LD
 cd_LD:a.d_LD.code=.ref a.k_LD
 e_LD:a.t_LD=(tb "in_order").2
theorem lenA {P:AC->Prop}(h:∀a,P [a]):∀us:AC,us.length=1->P us:=by
 intro us ee;cases us with
 | nil=>cases ee
 | cons a us=>
  cases us with
  | nil=>exact h a
  | cons _ _=>cases ee
local macro_rules | `(tactic| walk_at "b1") => `(tactic| (intro _ _ _ _ _ _; refine lenA ?_; intros; rfl))
theorem lenB {P:AC->Prop}(h:∀a b,P [a,b]):∀us:AC,us.length=2->P us:=by
 intro us ee;cases us with
 | nil=>cases ee
 | cons a us=>
  cases us with
  | nil=>cases ee
  | cons b us=>
   cases us with
   | nil=>exact h a b
   | cons _ _=>cases ee
local macro_rules | `(tactic| walk_at "b2") => `(tactic| (intro _ _ _ _ _ _; refine lenB ?_; intros; rfl))
theorem lenC {P:AC->Prop}(h:∀a b c,P [a,b,c]):∀us:AC,us.length=3->P us:=by
 intro us ee;cases us with
 | nil=>cases ee
 | cons a us=>
  cases us with
  | nil=>cases ee
  | cons b us=>
   cases us with
   | nil=>cases ee
   | cons c us=>
    cases us with
    | nil=>exact h a b c
    | cons _ _=>cases ee
local macro_rules | `(tactic| walk_at "b3") => `(tactic| (intro _ _ _ _ _ _; refine lenC ?_; intros; rfl))
theorem lenD {P:AC->Prop}(h:∀a b c d,P [a,b,c,d]):∀us:AC,us.length=4->P us:=by
 intro us ee;cases us with
 | nil=>cases ee
 | cons a us=>
  cases us with
  | nil=>cases ee
  | cons b us=>
   cases us with
   | nil=>cases ee
   | cons c us=>
    cases us with
    | nil=>cases ee
    | cons d us=>
     cases us with
     | nil=>exact h a b c d
     | cons _ _=>cases ee
local macro_rules | `(tactic| walk_at "b4") => `(tactic| (intro _ _ _ _ _ _; refine lenD ?_; intros; rfl))
theorem lenE {P:AC->Prop}(h:∀a b c d e,P [a,b,c,d,e]):∀us:AC,us.length=5->P us:=by
 intro us ee;cases us with
 | nil=>cases ee
 | cons a us=>
  cases us with
  | nil=>cases ee
  | cons b us=>
   cases us with
   | nil=>cases ee
   | cons c us=>
    cases us with
    | nil=>cases ee
    | cons d us=>
     cases us with
     | nil=>cases ee
     | cons e us=>
      cases us with
      | nil=>exact h a b c d e
      | cons _ _=>cases ee
local macro_rules | `(tactic| walk_at "b5") => `(tactic| (intro _ _ _ _ _ _; refine lenE ?_; intros; rfl))
theorem txt_mk (X:K.In h)(G:h.Ns mainGlobals mg){cdk_L6:ClassData}{cdk_LY:ClassData}{c_K4 c_LO ak c_LN al c_K5 aj c_LF c_L8 c_L7 c_LM c_LP aS bh bi bj bo bp bq br bt bu bv bw bz aT bA aU aV bB bC bD bE bF bG bH bI c_LX c_L6 c_LW c_LY f_LC f_LE f_LH f_K9 f_K0 f_LA f_KM f_LD f_K1 f_LG f_L0 f_LZ f_LR f_LV f_L1 f_L3 f_LS f_LI f_LT f_LU f_LK f_L4 f_lis f_LQ f_LB f_L2 f_L5 f_LJ f_LL f_law t_LD k_LD:AD}{au av am cq cu cw cx cy cz cA cB cE cF cG cH cI cJ cK cL cM cN cO cP cQ cR cS cT cU d_LC d_LE d_LH d_K9 d_K0 d_LA d_KM d_LD d_K1 d_LG d_L0 d_LZ d_LR d_LV d_L1 d_L3 d_LS d_LI d_LT d_LU d_LK d_L4 d_lis d_LQ d_LB d_L2 d_L5 d_LJ d_LL d_law:AF}{tk_KC tk_KP tk_KB tk_KO tk_KD:Tok}
  (BU:XG K "LackError" c_K4 [.ref c_K4,.type "ValueError",.type "Exception",.type "BaseException",.type "object"])
  (i_K4:PySem.W.findIn K (.ref c_K4) "__init__"=some (some (.builtin "ValueError.__init__")))
  (rs_K4:PySem.W.specialIn K (.ref c_K4) "__getattribute__"=some (some (.builtin "type.__getattribute__")))
  (rr_K4:PySem.W.readsIn K c_K4 (.type "type")=true)
  (rf_K4:PySem.W.findCls K (.ref c_K4) (.type "type") "__init__"=some (.val (.builtin "ValueError.__init__")))
  (BZ:XG K "NoWord" c_LO [.ref c_LO,.ref c_K4,.type "ValueError",.type "Exception",.type "BaseException",.type "object"])
  (i_LO:PySem.W.findIn K (.ref c_LO) "__init__"=some (some (.ref ak)))
  (Ax:MG K "__init__" "NoWord.__init__" ZbR ak au)
  (aA:PySem.W.findIn K (.ref c_LO) "word"=some none)
  (BY:XG K "NoName" c_LN [.ref c_LN,.ref c_K4,.type "ValueError",.type "Exception",.type "BaseException",.type "object"])
  (dQ:PySem.W.findIn K (.ref c_LN) "__init__"=some (some (.ref al)))
  (Aw:MG K "__init__" "NoName.__init__" ZbS al av)
  (aB:PySem.W.findIn K (.ref c_LN) "name"=some none)
  (BV:XG K "NameThere" c_K5 [.ref c_K5,.ref c_K4,.type "ValueError",.type "Exception",.type "BaseException",.type "object"])
  (i_K5:PySem.W.findIn K (.ref c_K5) "__init__"=some (some (.ref aj)))
  (Av:MG K "__init__" "NameThere.__init__" Zbs aj am)
  (ay:PySem.W.findIn K (.ref c_K5) "name"=some none)
  (BX:XG K "NoKinds" c_LF [.ref c_LF,.ref c_K4,.type "ValueError",.type "Exception",.type "BaseException",.type "object"])
  (i_LF:PySem.W.findIn K (.ref c_LF) "__init__"=some (some (.builtin "ValueError.__init__")))
  (BT:XG K "Full" c_L8 [.ref c_L8,.ref c_K4,.type "ValueError",.type "Exception",.type "BaseException",.type "object"])
  (i_L8:PySem.W.findIn K (.ref c_L8) "__init__"=some (some (.builtin "ValueError.__init__")))
  (BS:XG K "Bare" c_L7 [.ref c_L7,.ref c_K4,.type "ValueError",.type "Exception",.type "BaseException",.type "object"])
  (i_L7:PySem.W.findIn K (.ref c_L7) "__init__"=some (some (.builtin "ValueError.__init__")))
  (BW:XG K "NoBack" c_LM [.ref c_LM,.ref c_K4,.type "ValueError",.type "Exception",.type "BaseException",.type "object"])
  (i_LM:PySem.W.findIn K (.ref c_LM) "__init__"=some (some (.builtin "ValueError.__init__")))
  (Ba:XG K "Unlike" c_LP [.ref c_LP,.ref c_K4,.type "ValueError",.type "Exception",.type "BaseException",.type "object"])
  (i_LP:PySem.W.findIn K (.ref c_LP) "__init__"=some (some (.builtin "ValueError.__init__")))
  (ow_hn:PySem.W.specialIn K (.builtin "object.__class__") "__get__"=some (some (.builtin "getset_descriptor.__get__")))
  (ow_tk:PySem.W.takesIn K (.builtin "object.__class__")=some true)
  (a_LX:PySem.W.nsIn K mainGlobals "Shelf"=some (some (.ref c_LX)))
  (pg_LX:PySem.W.plainGet K c_LX Str.empty=true)
  (hd_LX:PySem.W.hasDictIn K c_LX=true)
  (po_LX:PySem.W.plainOver K c_LX=true)
  (sa_LX:PySem.W.findIn K (.ref c_LX) "__setattr__"=some (some (.builtin "object.__setattr__")))
  (rs_LX:PySem.W.specialIn K (.ref c_LX) "__getattribute__"=some (some (.builtin "type.__getattribute__")))
  (rr_LX:PySem.W.readsIn K c_LX (.type "type")=true)
  (rf_LX:PySem.W.findCls K (.ref c_LX) (.type "type") "__init__"=some (.val (.ref aS)))
  (bP:PySem.W.makesIn K c_LX=true)
  (in_LX:PySem.W.findIn K (.ref c_LX) "__init__"=some (some (.ref aS)))
  (kc_LX:PySem.W.keepIn K (.ref c_LX)=true)
  (ha_LX:PySem.W.findIn K (.ref c_LX) "__class__"=some (some (.builtin "object.__class__")))
  (mo_LX:PySem.W.mroIn K c_LX (.type "object")=some true)
  (cf:PySem.W.findIn K (.ref c_LX) "kinds"=some (some (.ref bh)))
  (cg:PySem.W.findIn K (.ref c_LX) "need_free"=some (some (.ref bi)))
  (aO:PySem.W.findIn K (.ref c_LX) "lay"=some (some (.ref bj)))
  (aY:PySem.W.findIn K (.ref c_LX) "names"=some (some (.ref bo)))
  (aN:PySem.W.findIn K (.ref c_LX) "kept"=some (some (.ref bp)))
  (aL:PySem.W.findIn K (.ref c_LX) "shown"=some (some (.ref bq)))
  (aZ:PySem.W.findIn K (.ref c_LX) "take"=some (some (.ref br)))
  (bQ:PySem.W.findIn K (.ref c_LX) "put"=some (some (.ref bt)))
  (bR:PySem.W.findIn K (.ref c_LX) "drop"=some (some (.ref bu)))
  (bS:PySem.W.findIn K (.ref c_LX) "back"=some (some (.ref bv)))
  (ck:PySem.W.findIn K (.ref c_LX) "ranked"=some (some (.ref bw)))
  (aJ:PySem.W.findIn K (.ref c_LX) "own_text"=some none)
  (aw:PySem.W.findIn K (.ref c_LX) "own_kinds"=some none)
  (aC:PySem.W.findIn K (.ref c_LX) "own_lacking"=some none)
  (aH:PySem.W.findIn K (.ref c_LX) "own_deeds"=some none)
  (ae:PySem.W.findIn K (.ref c_LX) "own_strips"=some none)
  (a_L6:PySem.W.nsIn K mainGlobals "Band"=some (some (.ref c_L6)))
  (pg_L6:PySem.W.plainGet K c_L6 Str.empty=true)
  (hd_L6:PySem.W.hasDictIn K c_L6=true)
  (po_L6:PySem.W.plainOver K c_L6=true)
  (sa_L6:PySem.W.findIn K (.ref c_L6) "__setattr__"=some (some (.builtin "object.__setattr__")))
  (rs_L6:PySem.W.specialIn K (.ref c_L6) "__getattribute__"=some (some (.builtin "type.__getattribute__")))
  (rr_L6:PySem.W.readsIn K c_L6 (.type "type")=true)
  (rf_L6:PySem.W.findCls K (.ref c_L6) (.type "type") "__init__"=some (.val (.ref bz)))
  (kq_L6:PySem.W.clsIn K c_L6=some cdk_L6)
  (kr_L6:cdk_L6.mro=[.ref c_L6,.type "object"])
  (kt_L6:PySem.W.typeIn K (.ref c_L6)=some (.type "type"))
  (a_LW:PySem.W.nsIn K mainGlobals "Plain"=some (some (.ref c_LW)))
  (pg_LW:PySem.W.plainGet K c_LW Str.empty=true)
  (hd_LW:PySem.W.hasDictIn K c_LW=true)
  (po_LW:PySem.W.plainOver K c_LW=true)
  (sa_LW:PySem.W.findIn K (.ref c_LW) "__setattr__"=some (some (.builtin "object.__setattr__")))
  (rs_LW:PySem.W.specialIn K (.ref c_LW) "__getattribute__"=some (some (.builtin "type.__getattribute__")))
  (rr_LW:PySem.W.readsIn K c_LW (.type "type")=true)
  (rf_LW:PySem.W.findCls K (.ref c_LW) (.type "type") "__init__"=some (.val (.ref aU)))
  (cn:PySem.W.makesIn K c_LW=true)
  (in_LW:PySem.W.findIn K (.ref c_LW) "__init__"=some (some (.ref aU)))
  (kc_LW:PySem.W.keepIn K (.ref c_LW)=true)
  (ha_LW:PySem.W.findIn K (.ref c_LW) "__class__"=some (some (.builtin "object.__class__")))
  (mo_LW:PySem.W.mroIn K c_LW (.type "object")=some true)
  (aq:PySem.W.findIn K (.ref c_LW) "kinds"=some (some (.ref aT)))
  (az:PySem.W.findIn K (.ref c_LW) "own_text"=some none)
  (ax:PySem.W.findIn K (.ref c_LW) "own_kinds"=some none)
  (aD:PySem.W.findIn K (.ref c_LW) "own_lacking"=some none)
  (aI:PySem.W.findIn K (.ref c_LW) "own_deeds"=some none)
  (aF:PySem.W.findIn K (.ref c_LW) "own_strips"=some none)
  (a_LY:PySem.W.nsIn K mainGlobals "Strip"=some (some (.ref c_LY)))
  (pg_LY:PySem.W.plainGet K c_LY Str.empty=true)
  (hd_LY:PySem.W.hasDictIn K c_LY=true)
  (po_LY:PySem.W.plainOver K c_LY=true)
  (sa_LY:PySem.W.findIn K (.ref c_LY) "__setattr__"=some (some (.builtin "object.__setattr__")))
  (rs_LY:PySem.W.specialIn K (.ref c_LY) "__getattribute__"=some (some (.builtin "type.__getattribute__")))
  (rr_LY:PySem.W.readsIn K c_LY (.type "type")=true)
  (rf_LY:PySem.W.findCls K (.ref c_LY) (.type "type") "__init__"=some (.val (.ref aV)))
  (kq_LY:PySem.W.clsIn K c_LY=some cdk_LY)
  (kr_LY:cdk_LY.mro=[.ref c_LY,.ref c_L6,.type "object"])
  (kt_LY:PySem.W.typeIn K (.ref c_LY)=some (.type "type"))
  (aR:PySem.W.makesIn K c_LY=true)
  (in_LY:PySem.W.findIn K (.ref c_LY) "__init__"=some (some (.ref aV)))
  (kc_LY:PySem.W.keepIn K (.ref c_LY)=true)
  (ha_LY:PySem.W.findIn K (.ref c_LY) "__class__"=some (some (.builtin "object.__class__")))
  (mo_LY:PySem.W.mroIn K c_LY (.type "object")=some true)
  (ao:PySem.W.findIn K (.ref c_LY) "kinds"=some (some (.ref aT)))
  (ai:PySem.W.findIn K (.ref c_LY) "text"=some (some (.ref bA)))
  (a7:PySem.W.findIn K (.ref c_LY) "deeds"=some (some (.ref bB)))
  (aM:PySem.W.findIn K (.ref c_LY) "put"=some (some (.ref bC)))
  (a9:PySem.W.findIn K (.ref c_LY) "drop"=some (some (.ref bD)))
  (bT:PySem.W.findIn K (.ref c_LY) "back"=some (some (.ref bE)))
  (bU:PySem.W.findIn K (.ref c_LY) "grow"=some (some (.ref bF)))
  (bV:PySem.W.findIn K (.ref c_LY) "shrink"=some (some (.ref bG)))
  (bW:PySem.W.findIn K (.ref c_LY) "change"=some (some (.ref bH)))
  (bX:PySem.W.findIn K (.ref c_LY) "copied"=some (some (.ref bI)))
  (aa:PySem.W.findIn K (.ref c_LY) "own_text"=some none)
  (ag:PySem.W.findIn K (.ref c_LY) "own_kinds"=some none)
  (af:PySem.W.findIn K (.ref c_LY) "own_lacking"=some none)
  (ad:PySem.W.findIn K (.ref c_LY) "own_deeds"=some none)
  (aG:PySem.W.findIn K (.ref c_LY) "own_strips"=some none)
  (A9:MG K "__init__" "Shelf.__init__" s_KT aS cq)
  (BB:MG K "kinds" "Shelf.kinds" s_KI bh cu)
  (BE:MG K "need_free" "Shelf.need_free" s_KA bi cw)
  (BC:MG K "lay" "Shelf.lay" s_K6 bj cx)
  (BD:MG K "names" "Shelf.names" s_KJ bo cy)
  (BA:MG K "kept" "Shelf.kept" s_KU bp cz)
  (BH:MG K "shown" "Shelf.shown" s_KK bq cA)
  (BI:MG K "take" "Shelf.take" s_KV br cB)
  (BF:MG K "put" "Shelf.put" s_K7 bt cE)
  (A8:MG K "drop" "Shelf.drop" s_KS bu cF)
  (Az:MG K "back" "Shelf.back" s_KR bv cG)
  (BG:MG K "ranked" "Shelf.ranked" s_KE bw cH)
  (Ar:MG K "__init__" "Band.__init__" s_K2 bz cI)
  (As:MG K "kinds" "Band.kinds" s_KN aT cJ)
  (Au:MG K "text" "Band.text" s_K3 bA cK)
  (Ay:MG K "__init__" "Plain.__init__" s_KQ aU cL)
  (BP:MG K "__init__" "Strip.__init__" s_KZ aV cM)
  (BM:MG K "deeds" "Strip.deeds" s_KL bB cN)
  (BQ:MG K "put" "Strip.put" s_K8 bC cO)
  (BN:MG K "drop" "Strip.drop" s_KX bD cP)
  (BJ:MG K "back" "Strip.back" s_KW bE cQ)
  (BO:MG K "grow" "Strip.grow" s_KY bF cR)
  (BR:MG K "shrink" "Strip.shrink" s_KH bG cS)
  (BK:MG K "change" "Strip.change" s_KF bH cT)
  (BL:MG K "copied" "Strip.copied" s_KG bI cU)
  (nd:[c_K4,c_LO,c_LN,c_K5,c_LF,c_L8,c_L7,c_LM,c_LP].Nodup)
  (AO:DG K "has_only" s_LC f_LC d_LC)
  (AR:DG K "is_kinds" s_LE f_LE d_LE)
  (AU:DG K "is_word" s_LH f_LH d_LH)
  (AS:DG K "is_letter" s_K9 f_K9 d_K9)
  (Ah:DG K "need_kinds" s_K0 f_K0 d_K0)
  (Aj:DG K "need_word" s_LA f_LA d_LA)
  (Ai:DG K "need_letter" s_KM f_KM d_KM)
  (AQ:DG K "in_order" s_LD f_LD d_LD)
  (Ao:DG K "need_same_kinds" s_K1 f_K1 d_K1)
  (AT:DG K "is_name" s_LG f_LG d_LG)
  (AV:DG K "lacks" s_L0 f_L0 d_L0)
  (AN:DG K "fresh_words" s_LZ f_LZ d_LZ)
  (AM:DG K "filled" s_LR f_LR d_LR)
  (Al:DG K "opened" s_LV f_LV d_LV)
  (AX:DG K "_law_cell" s_L1 f_L1 d_L1)
  (Af:DG K "_law_mixed" s_L3 f_L3 d_L3)
  (Ab:DG K "_law_kinds" s_LS f_LS d_LS)
  (AY:DG K "_law_letters" s_LI f_LI d_LI)
  (Ac:DG K "_law_names" s_LT f_LT d_LT)
  (Ae:DG K "_law_strip" s_LU f_LU d_LU)
  (Am:DG K "_law_refusal" s_LK f_LK d_LK)
  (Ag:DG K "_law_named" s_L4 f_L4 d_L4)
  (Aa:DG K "_law_is" ZlM f_lis d_lis)
  (AL:DG K "_law_copies" s_LQ f_LQ d_LQ)
  (AK:DG K "_law_as_strip" s_LB f_LB d_LB)
  (AZ:DG K "_law_full" s_L2 f_L2 d_L2)
  (Aq:DG K "_law_thing" s_L5 f_L5 d_L5)
  (Ak:DG K "_law_no_kinds" s_LJ f_LJ d_LJ)
  (An:DG K "_law_refuses" s_LL f_LL d_LL)
  (AW:DG K "law" ZlN f_law d_law)
  (z_len:PySem.W.nsIn K mainGlobals "len"=some none)
  (z_range:PySem.W.nsIn K mainGlobals "range"=some none)
  (z_isinstance:PySem.W.nsIn K mainGlobals "isinstance"=some none)
  (z_all:PySem.W.nsIn K mainGlobals "all"=some none)
  (z_min:PySem.W.nsIn K mainGlobals "min"=some none)
  (z_list:PySem.W.nsIn K mainGlobals "list"=some none)
  (z_set:PySem.W.nsIn K mainGlobals "set"=some none)
  (z_sorted:PySem.W.nsIn K mainGlobals "sorted"=some none)
  (z_str:PySem.W.nsIn K mainGlobals "str"=some none)
  (z_bool:PySem.W.nsIn K mainGlobals "bool"=some none)
  (aE:PySem.W.nsIn K mainGlobals "ValueError"=some none)
  (c_KC:PySem.W.nsIn K mainGlobals "SMALL_LETTERS"=some (some (.str (Str.ofString "abcdefghijklmnopqrstuvwxyz") tk_KC)))
  (c_KP:PySem.W.nsIn K mainGlobals "MOST_KINDS"=some (some (.int 4 tk_KP)))
  (c_KB:PySem.W.nsIn K mainGlobals "MOST_IN_STRIP"=some (some (.int 40 tk_KB)))
  (c_KO:PySem.W.nsIn K mainGlobals "MOST_ASKED"=some (some (.int 60 tk_KO)))
  (c_KD:PySem.W.nsIn K mainGlobals "MOST_IN_NAME"=some (some (.int 8 tk_KD))):∃a,Txt K mg a/\a.t_LD=t_LD/\a.k_LD=k_LD:=by
 obtain⟨_,_,_,_,_,_,_,_,_,rfl,_⟩:=id AW.2.ex;refine⟨{ c_K4,ak,au,c_LO,al,av,c_LN,aj,am,c_K5,c_LF,c_L8,c_L7,c_LM,c_LP,c_LX,c_L6,c_LW,c_LY,aS,cq,bh,cu,bi,cw,bj,cx,bo,cy,bp,cz,bq,cA,br,cB,bt,cE,bu,cF,bv,cG,bw,cH,bz,cI,aT,cJ,bA,cK,aU,cL,aV,cM,bB,cN,bC,cO,bD,cP,bE,cQ,bF,cR,bG,cS,bH,cT,bI,cU,f_LC,d_LC,f_LE,d_LE,f_LH,d_LH,f_K9,d_K9,f_K0,d_K0,f_LA,d_LA,f_KM,d_KM,f_LD,d_LD,f_K1,d_K1,f_LG,d_LG,f_L0,d_L0,f_LZ,d_LZ,f_LR,d_LR,f_LV,d_LV,f_L1,d_L1,f_L3,d_L3,f_LS,d_LS,f_LI,d_LI,f_LT,d_LT,f_LU,d_LU,f_LK,d_LK,f_L4,d_L4,f_lis,d_lis,f_LQ,d_LQ,f_LB,d_LB,f_L2,d_L2,f_L5,d_L5,f_LJ,d_LJ,f_LL,d_LL,f_law,t_LD,k_LD,d_law:=_ },{ m_LC:=YAU X G AO.1,f_LC:=AO.2,b_LC:=AO.2.binds (by walk_at "b2"),m_LE:=YAU X G AR.1,f_LE:=AR.2,b_LE:=AR.2.binds (by walk_at "b1"),dG:=YAU X G AU.1,f_LH:=AU.2,dH:=AU.2.binds (by walk_at "b3"),m_K9:=YAU X G AS.1,f_K9:=AS.2,b_K9:=AS.2.binds (by walk_at "b2"),dI:=YAU X G Ah.1,f_K0:=Ah.2,dJ:=Ah.2.binds (by walk_at "b1"),m_LA:=YAU X G Aj.1,f_LA:=Aj.2,b_LA:=Aj.2.binds (by walk_at "b3"),m_KM:=YAU X G Ai.1,f_KM:=Ai.2,b_KM:=Ai.2.binds (by walk_at "b2"),c5:=YAU X G AQ.1,f_LD:=AQ.2,dL:=AQ.2.binds (by walk_at "b1"),m_K1:=YAU X G Ao.1,f_K1:=Ao.2,b_K1:=Ao.2.binds (by walk_at "b2"),c6:=YAU X G AT.1,f_LG:=AT.2,de:=AT.2.binds (by walk_at "b1"),m_L0:=YAU X G AV.1,f_L0:=AV.2,b_L0:=AV.2.binds (by walk_at "b2"),m_LZ:=YAU X G AN.1,f_LZ:=AN.2,b_LZ:=AN.2.binds (by walk_at "b2"),m_LR:=YAU X G AM.1,f_LR:=AM.2,b_LR:=AM.2.binds (by walk_at "b3"),m_LV:=YAU X G Al.1,f_LV:=Al.2,b_LV:=Al.2.binds (by walk_at "b4"),aW:=YAU X G AX.1,f_L1:=AX.2,aX:=AX.2.binds (by walk_at "b2"),m_L3:=YAU X G Af.1,f_L3:=Af.2,b_L3:=Af.2.binds (by walk_at "b2"),m_LS:=YAU X G Ab.1,f_LS:=Ab.2,b_LS:=Ab.2.binds (by walk_at "b1"),m_LI:=YAU X G AY.1,f_LI:=AY.2,b_LI:=AY.2.binds (by walk_at "b4"),m_LT:=YAU X G Ac.1,f_LT:=Ac.2,b_LT:=Ac.2.binds (by walk_at "b2"),m_LU:=YAU X G Ae.1,f_LU:=Ae.2,b_LU:=Ae.2.binds (by walk_at "b2"),ba:=YAU X G Am.1,f_LK:=Am.2,bc:=Am.2.binds (by walk_at "b4"),dM:=YAU X G Ag.1,f_L4:=Ag.2,dN:=Ag.2.binds (by walk_at "b3"),m_lis:=YAU X G Aa.1,f_lis:=Aa.2,b_lis:=Aa.2.binds (by walk_at "b2"),m_LQ:=YAU X G AL.1,f_LQ:=AL.2,b_LQ:=AL.2.binds (by walk_at "b4"),m_LB:=YAU X G AK.1,f_LB:=AK.2,b_LB:=AK.2.binds (by walk_at "b4"),m_L2:=YAU X G AZ.1,f_L2:=AZ.2,b_L2:=AZ.2.binds (by walk_at "b3"),m_L5:=YAU X G Aq.1,f_L5:=Aq.2,b_L5:=Aq.2.binds (by walk_at "b2"),m_LJ:=YAU X G Ak.1,f_LJ:=Ak.2,b_LJ:=Ak.2.binds (by walk_at "b1"),m_LL:=YAU X G An.1,f_LL:=An.2,b_LL:=An.2.binds (by walk_at "b5"),m_law:=YAU X G AW.1,f_law:=AW.2,b_law:=AW.2.binds (by walk_at "b1"),cV:=YAU X G BU.a,x_K4:=BU.m,xi_K4:=BU.i,bd:=BU.k,i_K4,dO:=⟨rs_K4,rr_K4,rf_K4,rfl⟩,m_LO:=YAU X G BZ.a,cW:=BZ.m,eE:=BZ.i,dP:=BZ.k,i_LO,eG:=Ax.2,aA,fi_LO:=Ax.1,b_LO:=Ax.1.binds (by walk_at "b2"),df:=YAU X G BY.a,bJ:=BY.m,b8:=BY.i,bK:=BY.k,dQ,dh:=Aw.2,aB,fi_LN:=Aw.1,b_LN:=Aw.1.binds (by walk_at "b2"),dR:=YAU X G BV.a,cX:=BV.m,ce:=BV.i,bM:=BV.k,i_K5,eI:=Av.2,ay,fi_K5:=Av.1,b_K5:=Av.1.binds (by walk_at "b2"),m_LF:=YAU X G BX.a,x_LF:=BX.m,eK:=BX.i,dS:=BX.k,i_LF,m_L8:=YAU X G BT.a,x_L8:=BT.m,eO:=BT.i,dU:=BT.k,i_L8,m_L7:=YAU X G BS.a,x_L7:=BS.m,eP:=BS.i,dW:=BS.k,i_L7,m_LM:=YAU X G BW.a,x_LM:=BW.m,eQ:=BW.i,dZ:=BW.k,i_LM,cY:=YAU X G Ba.a,x_LP:=Ba.m,dj:=Ba.i,bO:=Ba.k,i_LP,m_LX:=YAU X G a_LX,cr_LX:=⟨rs_LX,rr_LX,rf_LX,rfl⟩,ah:=⟨pg_LX,hd_LX,po_LX,sa_LX⟩,bP:=⟨bP,in_LX,A9.2,kc_LX⟩,cf:=⟨cf,BB.2,BB.1.kp⟩,cg:=⟨cg,BE.2,BE.1.kp⟩,aO:=⟨aO,BC.2,BC.1.kp⟩,aY:=⟨aY,BD.2,BD.1.kp⟩,aN:=⟨aN,BA.2,BA.1.kp⟩,aL:=⟨aL,BH.2,BH.1.kp⟩,aZ:=⟨aZ,BI.2,BI.1.kp⟩,bQ:=⟨bQ,BF.2,BF.1.kp⟩,bR:=⟨bR,A8.2,A8.1.kp⟩,bS:=⟨bS,Az.2,Az.1.kp⟩,ck:=⟨ck,BG.2,BG.1.kp⟩,aJ,aw,aC,aH,ae,ty_LX:=λe=>.ins e ⟨pg_LX,hd_LX,po_LX,sa_LX⟩ ha_LX ow_hn ow_tk mo_LX,m_L6:=YAU X G a_L6,dm:=⟨rs_L6,rr_L6,rf_L6,rfl⟩,cl_L6:=⟨pg_L6,hd_L6,po_L6,sa_L6⟩,k_L6:=⟨⟨_,kq_L6,kr_L6⟩,kt_L6,rfl⟩,m_LW:=YAU X G a_LW,cr_LW:=⟨rs_LW,rr_LW,rf_LW,rfl⟩,aQ:=⟨pg_LW,hd_LW,po_LW,sa_LW⟩,cn:=⟨cn,in_LW,Ay.2,kc_LW⟩,aq:=⟨aq,As.2,As.1.kp⟩,az,ax,aD,aI,aF,ty_LW:=λe=>.ins e ⟨pg_LW,hd_LW,po_LW,sa_LW⟩ ha_LW ow_hn ow_tk mo_LW,bZ:=YAU X G a_LY,cr_LY:=⟨rs_LY,rr_LY,rf_LY,rfl⟩,ac:=⟨pg_LY,hd_LY,po_LY,sa_LY⟩,dB:=⟨⟨_,kq_LY,kr_LY⟩,kt_LY,rfl⟩,aR:=⟨aR,in_LY,BP.2,kc_LY⟩,ao:=⟨ao,As.2,As.1.kp⟩,ai:=⟨ai,Au.2,Au.1.kp⟩,a7:=⟨a7,BM.2,BM.1.kp⟩,aM:=⟨aM,BQ.2,BQ.1.kp⟩,a9:=⟨a9,BN.2,BN.1.kp⟩,bT:=⟨bT,BJ.2,BJ.1.kp⟩,bU:=⟨bU,BO.2,BO.1.kp⟩,bV:=⟨bV,BR.2,BR.1.kp⟩,bW:=⟨bW,BK.2,BK.1.kp⟩,bX:=⟨bX,BL.2,BL.1.kp⟩,aa,ag,af,ad,aG,dC:=λe=>.ins e ⟨pg_LY,hd_LY,po_LY,sa_LY⟩ ha_LY ow_hn ow_tk mo_LY,fm_KT:=A9.1,kp_KT:=A9.1.kp,b_KT:=A9.1.binds (by walk_at "b2"),fm_KI:=BB.1,kp_KI:=BB.1.kp,b_KI:=BB.1.binds (by walk_at "b1"),fm_KA:=BE.1,kp_KA:=BE.1.kp,b_KA:=BE.1.binds (by walk_at "b2"),fm_K6:=BC.1,kp_K6:=BC.1.kp,dD:=BC.1.binds (by walk_at "b3"),fm_KJ:=BD.1,kp_KJ:=BD.1.kp,d0:=BD.1.binds (by walk_at "b1"),fm_KU:=BA.1,kp_KU:=BA.1.kp,cZ:=BA.1.binds (by walk_at "b2"),fm_KK:=BH.1,kp_KK:=BH.1.kp,bf:=BH.1.binds (by walk_at "b2"),fm_KV:=BI.1,kp_KV:=BI.1.kp,em:=BI.1.binds (by walk_at "b2"),fm_K7:=BF.1,kp_K7:=BF.1.kp,b_K7:=BF.1.binds (by walk_at "b3"),fm_KS:=A8.1,kp_KS:=A8.1.kp,b_KS:=A8.1.binds (by walk_at "b2"),fm_KR:=Az.1,kp_KR:=Az.1.kp,b_KR:=Az.1.binds (by walk_at "b2"),fm_KE:=BG.1,kp_KE:=BG.1.kp,b_KE:=BG.1.binds (by walk_at "b2"),fm_K2:=Ar.1,dE:=Ar.1.kp,b_K2:=Ar.1.binds (by walk_at "b3"),fm_KN:=As.1,kp_KN:=As.1.kp,bY:=As.1.binds (by walk_at "b1"),fm_K3:=Au.1,kp_K3:=Au.1.kp,bg:=Au.1.binds (by walk_at "b1"),fm_KQ:=Ay.1,kp_KQ:=Ay.1.kp,b_KQ:=Ay.1.binds (by walk_at "b3"),fm_KZ:=BP.1,kp_KZ:=BP.1.kp,dF:=BP.1.binds (by walk_at "b2"),fm_KL:=BM.1,kp_KL:=BM.1.kp,eC:=BM.1.binds (by walk_at "b1"),fm_K8:=BQ.1,kp_K8:=BQ.1.kp,b7:=BQ.1.binds (by walk_at "b2"),fm_KX:=BN.1,kp_KX:=BN.1.kp,eD:=BN.1.binds (by walk_at "b1"),fm_KW:=BJ.1,kp_KW:=BJ.1.kp,b_KW:=BJ.1.binds (by walk_at "b1"),fm_KY:=BO.1,kp_KY:=BO.1.kp,b_KY:=BO.1.binds (by walk_at "b2"),fm_KH:=BR.1,kp_KH:=BR.1.kp,b_KH:=BR.1.binds (by walk_at "b2"),fm_KF:=BK.1,kp_KF:=BK.1.kp,b_KF:=BK.1.binds (by walk_at "b4"),fm_KG:=BL.1,kp_KG:=BL.1.kp,b_KG:=BL.1.binds (by walk_at "b1"),nd,z_len:=YBR X G z_len,z_range:=YBR X G z_range,z_isinstance:=YBR X G z_isinstance,z_all:=YBR X G z_all,z_min:=YBR X G z_min,z_list:=YBR X G z_list,z_set:=YBR X G z_set,z_sorted:=YBR X G z_sorted,z_str:=YBR X G z_str,z_bool:=YBR X G z_bool,aE:=YBR X G aE,c_KC:=⟨_,YAU X G c_KC⟩,c_KP:=⟨_,YAU X G c_KP⟩,c_KB:=⟨_,YAU X G c_KB⟩,c_KO:=⟨_,YAU X G c_KO⟩,c_KD:=⟨_,YAU X G c_KD⟩,bl:=λs u=>.of_eq rfl },rfl,rfl⟩
end Pk83
namespace Pk83
open PySem L2
def lpos:Pos:=⟨60,29,60,59⟩
def lq:Str:="in_order.<locals>.<lambda>"
def LET:Q11:=[97,98,99,100,101,102,103,104,105,106,107,108,109,110,111,112,113,114,115,116,117,118,119,120,121,122]
def isk (l:Q11):Bool:=decide (1<=l.length)&&decide (l.length<=4)&&(l.all λc=>LET.contains c)&&decide (signs l=ZaV (ddl (signs l)))
def isw (l m:Q11)(most:Int):Bool:=decide ((l.length:Int)<=most)&&l.all λc=>m.contains c
def ZeC:Q11->Q11->Bool
 | _,[]=>true
 | last,c::r=>decide (c∈LET)&&decide (last < [c])&&ZeC [c] r
def Zfk (l:Q11):Bool:=decide (1<=l.length)&&decide (l.length<=4)&&ZeC [] l
theorem Zg5 {a b:Nat}:([a] < [b])↔a<b:=by
 constructor
 .intro h;cases h with
  | rel h=>exact h
  | cons h=>cases h
 .exact λh=>List.Lex.rel h
theorem ZgO:∀(l:Q11) (d:Nat),ZeC [d] l=true↔(∀c∈l,c∈LET)/\(d::l).Pairwise (· < ·)
 | [],d=>by simp[ZeC]
 | c::r,d=>by
  rw[ZeC,YAP,YAP,decide_eq_true_iff,decide_eq_true_iff,Zg5,ZgO r c];simp only[YBC,YAE,forall_eq_or_imp];constructor
  .rintro⟨⟨h1,h2⟩,h3,h4,h5⟩;exact⟨⟨h1,h3⟩,⟨h2,λx hx=>Nat.lt_trans h2 (h4 x hx)⟩,h4,h5⟩
  .rintro⟨⟨h1,h3⟩,⟨h2,_⟩,h4,h5⟩;exact⟨⟨h1,h2⟩,h3,h4,h5⟩
theorem ZcB (l:Q11):ZeC [] l=true↔(∀c∈l,c∈LET)/\l.Pairwise (· < ·):=by
 cases l with
 | nil=>simp[ZeC]
 | cons c r=>
  rw[ZeC,YAP,YAP,decide_eq_true_iff,decide_eq_true_iff,ZgO r c];simp only[YAE,forall_eq_or_imp];constructor
  .rintro⟨⟨h1,_⟩,h3,h4⟩;exact⟨⟨h1,h3⟩,h4⟩
  .rintro⟨⟨h1,h3⟩,h4⟩;exact⟨⟨h1,by simp⟩,h3,h4⟩
theorem Zes:∀(ls acc:Q22),(acc++ls).Nodup->ls.foldl addT acc=acc++ls
 | [],acc,_=>by simp
 | x::ls,acc,h=>by
  have hx:¬x∈acc:=by rw[YCy]at h;exact λhm=>h.2.2 x hm x YAg rfl
  rw[YCY,addT,YAI hx,Zes ls (acc++[x]) (by simpa using h)];simp
theorem Zgl (h:l.Pairwise (· < ·)):(signs l).Nodup:=by unfold signs List.Nodup;rw[YBP];exact h.imp λhab e=>by injection e with e;omega
theorem Zjw (ls:Q22):(ddl ls).Nodup:=by rw[<-Ze5];exact ZcR _
theorem Zht (l:Q11):signs l=ZaV (ddl (signs l))↔l.Pairwise (· < ·):=by
 constructor
 .intro e;have h1:(signs l).Pairwise (λa b=>leT a b=true):=by rw[e];exact Zbo _
  have h2:(signs l).Nodup:=by rw[e];exact(ZaI _).nodup_iff.mpr (Zjw _)
  unfold signs at h1;unfold signs List.Nodup at h2;rw[YBP]at h1 h2;refine(h1.and h2).imp ?_;rintro a b ⟨x,y⟩;have y':a≠b:=λe=>y (by rw[e]);have x':¬([b] < [a]):=by simpa [leT] using x
  rw[Zg5]at x';omega
 .intro h;have e:ddl (signs l)=signs l:=by unfold ddl;rw[Zes _ _ (by simpa using Zgl h)];simp
  rw[e];refine Zck (YDS _) ?_;unfold signs;rw[YBP];refine h.imp λ{a b} hab=>?_;have:¬([b] < [a]):=by rw[Zg5];omega
  simpa [leT] using this
theorem ZdR (l:Q11):isk l=Zfk l:=by
 have h1:(l.all λc=>LET.contains c)=decide (∀c∈l,c∈LET):=by rw[YBU,YBD,decide_eq_true_iff];simp
 have h2:decide (signs l=ZaV (ddl (signs l)))=decide (l.Pairwise (· < ·)):=by rw[YBU,decide_eq_true_iff,decide_eq_true_iff,Zht]
 have h3:ZeC [] l=(decide (∀c∈l,c∈LET)&&decide (l.Pairwise (· < ·))):=by rw[YBU,YAP,decide_eq_true_iff,decide_eq_true_iff,ZcB]
 unfold isk Zfk;rw[h1,h2,h3,Bool.and_assoc]
theorem all_range (l m:Q11):((List.range l.length).map (λi=>decide (l.getD i 0∈m))).all id=l.all λc=>m.contains c:=by
 rw[YBU,YBD,YBD];constructor
 .intro h c hc;obtain⟨i,hi,rfl⟩:=List.mem_iff_getElem.mp hc;have:=h _ (YBE (YBA.mpr hi));simpa [YAY,YAN hi] using this
 .intro h b hb;obtain⟨i,hi,rfl⟩:=YAt.mp hb;have hi:=YBA.mp hi;have:=h _ (YBr hi);simpa [YAY,YAN hi] using this
def cell (ns:List Int)(k:Int):Int:=ns.getD k.toNat 0
theorem ZmH {ns:List Int}{k:Int}(h0:0<=k)(h1:k<ns.length):atI (ns.map V.int) k=some (.int (cell ns k)):=by
 have hk:k.toNat<ns.length:=by omega
 unfold atI ixN cell;rw[YAD,YAM h0,YAM h1,YBq,YAi,YAY,YAN hk];rfl
theorem Zb3 (h:l.length<=1000):LenV K (tx l) H l.length:=by
 have e:(⟨l.toArray⟩:Str).length=l.length:=by simp[Str.length]
 have:l.length<=sizeLine:=YAK h (by rw[sizeLine_eq];decide);exact⟨by rw[e];exact this,e.symm⟩
theorem cm (h:0<m)(h2:m<=2 ^ 64):CMul (x % m) y:=.inl ⟨by have:=YBn x (show m≠0 by omega);omega,by have:=YBi x h;omega⟩
theorem Zi7:PySem.W.kitOne K t t=some true:=by unfold PySem.W.kitOne;simp
theorem ZcU (h0:0<=i)(h1:i<xs.length):∃v,atI xs i=some v/\v∈xs:=by
 have hi:i.toNat<xs.length:=by omega
 refine⟨xs[i.toNat],?_,YBr hi⟩;unfold atI ixN;rw[YAM h0,YAM h1,YBq,YAN hi]
theorem Zcf (xs:Q22):(xs.map tx).all Zbe=true:=by rw[YBD];intro v hv;obtain⟨x,_,rfl⟩:=YAt.mp hv;rfl
theorem same_upd3 (s:Same H H2)(h:H e=none):Same H (upd H2 e o'):=λb u hb=>by
 have:b≠e:=λz=>by rw[z,h]at hb;cases hb
 rw[Zai this];exact s _ _ hb
theorem Zg4:∀ {ls:Q22},(∀m∈ls,m.length=1)->ls.flatten.length=ls.length
 | [],_=>rfl
 | m::ls,h=>by rw[YBm,YAH,Zg4 λx hx=>h x (YAX _ hx),h m YAg,YAl];omega
theorem Zet (p:α->Bool)(d:α)(ls:List α):((List.range ls.length).filter λi=>p (ls.getD i d)).map (λi=>ls.getD i d)=ls.filter p:=by
 have e:(List.range ls.length).map (λi=>ls.getD i d)=ls:=by
  apply YCQ
  .simp
  .intro i h1 h2;simp[h2]
 have h:=List.filter_map (p:=p) (f:=λi=>ls.getD i d) (l:=List.range ls.length);rw[e]at h;rw[h];rfl
theorem ZdV {ls:Q22}{k:Nat}(h:k<ls.length):(ls.map tx).getD k V.non=tx (ls.getD k []):=by rw[YAY,YAi,YAY,YAN h];rfl
theorem Zlb {x:Q11}{ls:Q22}:inV (tx x) (ls.map tx)=decide (x∈ls):=by
 unfold inV;rw[YBU,List.any_eq_true,decide_eq_true_iff];constructor
 .rintro⟨y,hy,e⟩;obtain⟨l,hl,rfl⟩:=YAt.mp hy;rw[Zlh,decide_eq_true_iff,Zeg]at e;rw[<-e];exact hl
 .intro h;exact⟨tx x,YBE h,by rw[Zlh];exact decide_eq_true rfl⟩
theorem ZgA:∀(xs ys:Q22),deqs ((xs.map tx).map DT.f) ((ys.map tx).map DT.f)=decide (xs=ys)
 | [],[]=>by unfold deqs;rfl
 | [],y::ys=>by simp only[YAc,YDQ];unfold deqs;rfl
 | x::xs,[]=>by simp only[YAc,YDQ];unfold deqs;rfl
 | x::xs,y::ys=>by
  simp only[YAc];unfold deqs;rw[ZgA xs ys];have e:deq (DT.f (tx x)) (DT.f (tx y))=decide (x=y):=by unfold deq;rw[<-Zcs];show ((⟨x.toArray⟩:Str) == ⟨y.toArray⟩)=_;rw[YBU,beq_iff_eq,decide_eq_true_iff];exact⟨λh=>by unfold tx;rw[h],λh=>by unfold tx at h;injection h⟩
  rw[e,YBU,YAP,decide_eq_true_iff,decide_eq_true_iff,decide_eq_true_iff,List.cons.injEq]
theorem ZnO {K:Q4}{H:Hp}{Q:VK}{a b:AD}{xs:Q22}(h1:SqL K H a (xs.map tx))(h2:SqL K H b (xs.map tx))(q:Q (.bl false) H):rEqD K true (.ref a) (.ref b) H Q:=
 .inr ⟨_,_,datL h1 (Zcf _),datL h2 (Zcf _),λz=>YAC z.1,(ownL h1 (Zcf _)).2.2,by unfold deq;rw[ZgA,decide_eq_true rfl];exact q⟩
theorem Zov {K:Q4}{H:Hp}{Q:VK}{a b:AD}{xs ys:Q22}(h1:SqL K H a (xs.map tx))(h2:SqL K H b (ys.map tx))(q:Q (.bl (decide (xs=ys))) H):rEqD K false (.ref a) (.ref b) H Q:=
 .inr ⟨_,_,datL h1 (Zcf _),datL h2 (Zcf _),λz=>YAC z.1,(ownL h1 (Zcf _)).2.2,by unfold deq;rw[ZgA];exact q⟩
theorem ZiY:V.str (Str.ofString "abcdefghijklmnopqrstuvwxyz")=tx LET:=congrArg V.str (by decide +kernel)
theorem ZmB (l:Q11):(ddl (signs l)).length<=l.length:=by
 have:∀(ls acc:Q22),(ls.foldl addT acc).length<=acc.length+ls.length:=by
  intro ls;induction ls with
  | nil=>intro acc;simp
  | cons x ls ih=>
   intro acc;rw[YCY];refine YAK (ih _) ?_;unfold addT;split<;>simp<;>omega
 have h:=this (signs l) [];unfold ddl;unfold signs at h ⊢;simpa using h
theorem signs_length (l:Q11):(signs l).length=l.length:=by unfold signs;rw[YAD]
theorem kit_is:PySem.W.kitOne K (.type "int") (.type "str")=some false:=by rfl
theorem Zn7:PySem.W.kitOne K (.type "int") (.type "bool")=some false:=by rfl
def flds (l m:Q11):List (Str×V):=putF "own_kinds" (tx m) (putF "own_text" (tx l) [])
theorem kt:¬(("own_text":Str)="own_kinds"):=by decide +kernel
theorem ZhT:(flds l m).lookup ("own_kinds":Str)=some (tx m):=by unfold flds;rw[Zam,YAM rfl]
theorem Zmy {l m:Q11} {x:Str} (h1:¬x="own_text") (h2:¬x="own_kinds"):(flds l m).lookup x=none:=by unfold flds;rw[Zam,YAI h2,Zam,YAI h1];rfl
def RingAt (C:AD)(H:Hp)(p:AD)(l m:Q11):Prop:=∃dx,H p=some (.ins C dx (flds l m))
theorem RingAt.same (r:RingAt C H p l m)(s:Same H H'):RingAt C H' p l m:=let ⟨dx,h⟩:=r;⟨dx,s _ _ h⟩
structure StripOk (l m:Q11):Prop where
 k:isk m=true
 m1:1<=m.length
 m4:m.length<=4
 l40:l.length<=40
 mem:∀x∈l,x∈m
theorem Zp2 (ls:Q22):(ddl ls).length<=ls.length:=by
 have:∀(ls acc:Q22),(ls.foldl addT acc).length<=acc.length+ls.length:=by
  intro ls;induction ls with
  | nil=>intro acc;simp
  | cons x ls ih=>
   intro acc;rw[YCY];refine YAK (ih _) ?_;unfold addT;split<;>simp<;>omega
 simpa [ddl] using this ls []
theorem Zoh (h:StripOk l m):isw l m 40=true:=by have h2:=h.l40;unfold isw;rw[YAP,decide_eq_true_iff,YBD];exact⟨by omega,λx hx=>by simpa using h.mem x hx⟩
theorem Zk5:∀k,k<26->LET[k]?=some (97+k):=by decide
theorem Zme (h1:97<=c)(h2:c<=122):c∈LET:=by
 have:=Zk5 (c-97) (by omega);have e:97+(c-97)=c:=by omega
 rw[e]at this;exact YAq this
theorem Zk8 (h1:1<=m.length)(h4:m.length<=4)(hm:∀c∈m,c∈LET)(hp:m.Pairwise (· < ·)):isk m=true:=by rw[ZdR];unfold Zfk;rw[(ZcB m).mpr ⟨hm,hp⟩];simp[h1,h4]
theorem Zoy (l:Q11){i:Int}(h:0<=i):cut l none (some i)=l.take i.toNat:=by obtain⟨k,rfl⟩:∃k:Nat,i=(k:Int):=⟨i.toNat,by omega⟩;rw[Zdd,YCc]
theorem ZmD (l:Q11){i:Int}(h:0<=i):cut l (some i) none=l.drop i.toNat:=by obtain⟨k,rfl⟩:∃k:Nat,i=(k:Int):=⟨i.toNat,by omega⟩;rw[ZbY,YCc]
theorem iteT' {p q:Prop}[Decidable True](h:p):if True then p else q:=by rw[YAM True.intro];exact h
theorem ZgW (l:Q11)(n:Int):(repT l n).length=n.toNat*l.length:=by unfold repT;simp
theorem Zj2 (h:x∈repT l n):x∈l:=by unfold repT at h;obtain⟨y,hy,hx⟩:=List.mem_flatten.mp h;rw[(List.mem_replicate.mp hy).2]at hx;exact hx
theorem fill {f m:Q11}{n:Nat}{e:Int}(hn:0<n)(hf:f.length=n)(hm:∀x∈f,x∈m)(he:1<=e):(cut (repT (cut f none (some e)) (n:Nat)) none (some ((n:Nat):Int))).length=n/\∀x∈cut (repT (cut f none (some e)) (n:Nat)) none (some ((n:Nat):Int)),x∈m:=by
 rw[Zdd,Zoy f (by omega)];have ht:1<=(f.take e.toNat).length:=by rw[YAa];omega
 have hl:n<=(repT (f.take e.toNat) (n:Nat)).length:=by rw[ZgW,YCc];exact Nat.le_mul_of_pos_right n ht
 refine⟨by rw[YAa];omega,λx hx=>?_⟩;exact hm x (YAe (Zj2 (YAe hx)))
theorem put1 {f m:Q11}{n c:Nat}{i:Int}(hf:f.length=n)(hm:∀x∈f,x∈m)(hc:c∈m)(h0:0<=i)(h1:i<(n:Nat)):(cut f none (some i)++[c]++cut f (some (i+1)) none).length=n/\∀x∈cut f none (some i)++[c]++cut f (some (i+1)) none,x∈m:=by
 rw[Zoy f h0,ZmD f (by omega)];refine⟨by rw[YAH,YAH,YAa,YAk,YAd];omega,λx hx=>?_⟩;rcases YAV.mp hx with hx | hx
 .rcases YAV.mp hx with hx | hx
  .exact hm x (YAe hx)
  .rw[YAG.mp hx];exact hc
 .exact hm x (YAb hx)
theorem ZhG (h:Q (.bl false) H):rEqD K true (tx x) (tx x) H Q:=.inl ⟨rfl,by rw[YAM rfl,decide_eq_true rfl];exact h⟩
theorem Zky (h:Q (.bl true) H):rEqD K false (tx x) (tx x) H Q:=.inl ⟨rfl,by rw[YAI YAC,decide_eq_true rfl];exact h⟩
theorem Zjz (w:Q11):cut w none (some (-1))=w.dropLast:=by
 unfold cut;have e1:HT.sIx w.length w.length (some (-1))=w.length-1:=by unfold HT.sIx;simp only[];rw[YAM (by decide)];omega
 have e2:HT.sIx w.length 0 none=0:=rfl;rw[e1,e2,YBV,YDB];rfl
theorem ZgF (w:Q11):cut w (some 1) none=w.tail:=by have:=ZbY w 1;rw[List.drop_one]at this;exact this
theorem Zek:∀ {ls:Q22},(∀m∈ls,m.length=1)->ls=signs ls.flatten
 | [],_=>rfl
 | m::ls,h=>by
  have h1:=h m YAg
  match m,h1 with
  | [c],_=>
   have ih:=Zek (ls:=ls) λx hx=>h x (YAX _ hx);rw[YBm];show [c]::ls=[c]::signs ls.flatten;rw[<-ih]
theorem ZhQ (nd:F.Nodup)(sub:∀c∈F,c∈LET)(h1:1<=F.length)(h4:F.length<=4):isk (ZaV (signs F)).flatten=true/\(ZaV (signs F)).flatten.length=F.length:=by
 have pm:=ZaI (signs F);have one:∀m∈ZaV (signs F),m.length=1:=λm hm=>by obtain⟨c,_,rfl⟩:=YAt.mp (pm.mem_iff.mp hm);rfl
 have e:=Zek one;have hl:(ZaV (signs F)).flatten.length=F.length:=by rw[Zg4 one,pm.length_eq];unfold signs;rw[YAD]
 have so:=Zbo (signs F);have nd2:(ZaV (signs F)).Nodup:=pm.nodup_iff.mpr (by unfold signs List.Nodup;rw[YBP];exact nd.imp λhab z=>hab (by injection z))
 have mem:∀c∈(ZaV (signs F)).flatten,c∈LET:=λc hc=>by obtain⟨x,hx,hcx⟩:=List.mem_flatten.mp hc;obtain⟨d,hd,rfl⟩:=YAt.mp (pm.mem_iff.mp hx);rw[YAG.mp hcx];exact sub d hd
 generalize (ZaV (signs F)).flatten=S at e hl mem;rw[e]at so nd2;unfold signs at so nd2;unfold List.Nodup at nd2;rw[YBP]at so nd2;refine⟨Zk8 (by omega) (by omega) mem ((so.and nd2).imp ?_),hl⟩;rintro a b ⟨x,y⟩;have y':a≠b:=λz=>y (by rw[z]);have x':¬([b] < [a]):=by simpa [leT] using x
 rw[Zg5]at x';omega
theorem ZhM (hm:m.length<=4)(hl:l.length<=40)(hi:i<=41):(ZfL l m i).length<=6724:=by have h1:∀k,(ZfN (wordsOf l k) (wordsOf l (k+1)) m).length<=164:=λk=>YAK (Zi5 _ _ _) (YAK (Nat.mul_le_mul (Zgd l k) hm) (by omega));have h2:=Zcx (f:=λk=>ZfN (wordsOf l k) (wordsOf l (k+1)) m) h1 (List.range i);rw[YBd]at h2;have:i*164<=41*164:=Nat.mul_le_mul_right _ hi;unfold ZfL;omega
theorem ZcN (hl:l.length<=40)(h:w∈ZaK l m):w.length<=41:=by have:=(Za3.mp h).1.init.len;rw[YBQ]at this;omega
theorem Zdx {α:Type}{l:List α}{i:Nat}{x:α}(h:l[i]?=some x):l.take (i+1)=l.take i++[x]:=by rw[List.take_succ,h];rfl
def fs1 (f:Str):List V->List (Str×V):=λr=>putF f (r.getD 0 .non) []
theorem Zgw:(fs1 f vs).lookup f=some (vs.getD 0 .non):=by unfold fs1;rw[Zam,YAM rfl]
def Zlp (K:Q4)(H:Hp)(v:V):Prop:=(∃d,Own K H d v)\/∃(a:AD) (kvs:List (Key×V)),v=.ref a/\H a=some (.dK kvs)
def Oth (K:Q4)(H:Hp)(v:V):Prop:=∃T b,TyX K H v (.type T)/\PySem.W.kitOne K (.type T) (.type "str")=some false/\PySem.W.kitOne K (.type T) (.type "bool")=some b/\Zlp K H v
def BadK (K:Q4)(H:Hp)(v:V):Prop:=(∃l:Q11,v=tx l/\l.length<=1000/\isk l=false)\/Oth K H v
def XNk (a:Ad)(E:XK)(H:Hp):Prop:=∀e H2,Same H H2->XAny H2 e a.c_LF []->E (.ref a.c_LF) (some e) H2
def XNw (a:Ad)(E:XK)(H:Hp)(v:V):Prop:=∀e H2,Same H H2->XAny H2 e a.c_LO (fs1 "word" [v])->E (.ref a.c_LO) (some e) H2
theorem XNw.same (x:XNw a E H v)(s:Same H H'):XNw a E H' v:=λe H2 s2 h=>x e H2 (s.trans s2) h
structure KOk (m:Q11):Prop where
 k:isk m=true
 m1:1<=m.length
 m4:m.length<=4
theorem Zk7 (h:isk l=true):1<=l.length/\l.length<=4/\l.Pairwise (· < ·):=by rw[ZdR]at h;unfold Zfk at h;rw[YAP,YAP,decide_eq_true_eq,decide_eq_true_eq]at h;exact⟨h.1.1,h.1.2,((ZcB l).mp h.2).2⟩
theorem Zmo (h:(l.length:Int)<=most)(hm:∀x∈l,x∈m):isw l m most=true:=by unfold isw;rw[YAP,decide_eq_true_iff,YBD];exact⟨h,λx hx=>by simpa using hm x hx⟩
theorem ZbK (h:H e=none):Same H (upd (upd H e o) e o'):=λb u hb=>by
 have:b≠e:=λz=>by rw[z,h]at hb;cases hb
 rw[Zai this,Zai this];exact hb
theorem ZcD (x:XAt H e C fs):∃d,H e=some (xo e C d)/\XAny (upd H e (xr e C d)) e C fs:=by
 cases x with
 | bare h=>exact⟨none,h,.bare Zag⟩
 | @full d _ h1 h2 h3=>exact⟨some d,h1,.full Zag (by rw[Zai h3];exact h2) h3⟩
theorem TyX.same (h:TyX K H v t)(s:Same H H'):TyX K H' v t:=by
 cases h with
 | pl h=>
  refine .pl ?_;cases h with
  | non=>exact .non
  | bl x=>exact .bl x
  | int i=>exact .int i
  | str x=>exact .str x
  | flt x=>exact .flt x
  | lst e=>exact .lst (s _ _ e)
  | frz e=>exact .frz (s _ _ e)
  | tup e=>exact .tup (s _ _ e)
  | dK e=>exact .dK (s _ _ e)
  | dT e=>exact .dT (s _ _ e)
  | ins e cl ha hn htk hm=>exact .ins (s _ _ e) cl ha hn htk hm
 | seqL h=>exact .seqL (s.seq h)
 | seqT h=>exact .seqT (s.seqT h)
 | exc x i=>exact .exc (x.same s) i
theorem Oth.same (o:Oth K H v)(s:Same H H'):Oth K H' v:=by
 obtain⟨T,b,ty,kt,kb,se⟩:=o;refine⟨T,b,TyX.same ty s,kt,kb,?_⟩;rcases se with⟨d,o⟩|⟨b,kvs,rfl,hb⟩
 .exact .inl ⟨d,o.same s⟩
 .exact .inr ⟨b,kvs,rfl,s _ _ hb⟩
theorem BadK.same (o:BadK K H v)(s:Same H H'):BadK K H' v:=o.imp id λo=>o.same s
theorem Zoa:PySem.W.kitOne K (.type "bool") (.type "str")=some false:=by rfl
theorem Zn4:PySem.W.kitOne K (.type "NoneType") (.type "str")=some false:=by rfl
theorem Zn5:PySem.W.kitOne K (.type "list") (.type "str")=some false:=by rfl
theorem Zmj:PySem.W.kitOne K (.type "tuple") (.type "str")=some false:=by rfl
theorem Zn8:PySem.W.kitOne K (.type "dict") (.type "str")=some false:=by rfl
theorem kit_nb:PySem.W.kitOne K (.type "NoneType") (.type "bool")=some false:=by rfl
theorem Zn6:PySem.W.kitOne K (.type "list") (.type "bool")=some false:=by rfl
theorem Zmk:PySem.W.kitOne K (.type "tuple") (.type "bool")=some false:=by rfl
theorem Zn9:PySem.W.kitOne K (.type "dict") (.type "bool")=some false:=by rfl
theorem Zi8:PySem.W.kitOne K (.type "str") (.type "bool")=some false:=by rfl
theorem ZiI:Oth K H (.int i):=⟨"int",false,.pl (.int _),kit_is,Zn7,.inl ⟨_,ownF rfl⟩⟩
theorem Znr:Oth K H (.bl i):=⟨"bool",true,.pl (.bl _),Zoa,Zi7,.inl ⟨_,ownF rfl⟩⟩
theorem ZiG:Oth K H .non:=⟨"NoneType",false,.pl .non,Zn4,kit_nb,.inl ⟨_,ownF rfl⟩⟩
theorem ZiH (h:H a=some (.lst xs))(hf:xs.all Zbe=true):Oth K H (.ref a):=⟨"list",false,.seqL (.mk h),Zn5,Zn6,.inl ⟨_,ownL (.mk h) hf⟩⟩
theorem ZlZ (h:H a=some (.tup xs))(hf:xs.all Zbe=true):Oth K H (.ref a):=⟨"tuple",false,.seqT (.mk h),Zmj,Zmk,.inl ⟨_,ownT (.mk h) hf⟩⟩
theorem Znq (h:H a=some (.dK kvs)):Oth K H (.ref a):=⟨"dict",false,.pl (.dK h),Zn8,Zn9,.inr ⟨_,_,rfl,h⟩⟩
def Zi4 (l x:Q11):Bool:=!infB x l&&(infB x.tail l&&infB x.dropLast l)
theorem atI0:atI (x::xs) 0=some x:=by unfold atI ixN;rw[YAM (Int.le_refl _),YAM (by rw[YAl];omega)];rfl
def RowF (H:Hp)(l w:Q11)(y:V):Prop:=∃t:AD,y=.ref t/\H t=some (.tup [tx w,.int (fpl l w.dropLast:Nat),.int (fpl l w.tail:Nat)])
def ZoE (H:Hp)(l:Q11)(ws:Q22)(ys:List V):Prop:=ys.length=ws.length/\∀(i:Nat) (y:V),ys[i]?=some y->∃w,ws[i]?=some w/\RowF H l w y
def Zp5 (H:Hp)(x y:V):Prop:=(x=y/\((∃l,x=tx l)\/∃i,x=.int i))\/∃(px py:AD) (vs:List V),x=.ref px/\y=.ref py/\H px=some (.tup vs)/\H py=some (.tup vs)/\vs.length<=1000/\∀v∈vs,(∃l,v=tx l)\/∃i,v=.int i
theorem Zkq (h:isk m=true):m.Pairwise (· < ·):=by rw[ZdR]at h;unfold Zfk at h;rw[YAP]at h;exact((ZcB m).mp h.2).2
theorem Zm7 (hZ:ZoE H l W zs)(hR:ZoE H l W ys)(i:Nat)(x y:V)(hx:zs[i]?=some x)(hy:ys[i]?=some y):Zp5 H x y:=by
 obtain⟨w,hw,t,e,h⟩:=hZ.2 i x hx;obtain⟨w2,hw2,t2,e2,h2⟩:=hR.2 i y hy;obtain rfl:w=w2:=Option.some.inj (hw.symm.trans hw2);refine .inr ⟨t,t2,_,e,e2,h,h2,by simp,λv hv=>?_⟩;simp only[YAE,YAT,or_false]at hv;rcases hv with rfl | rfl | rfl
 .exact .inl ⟨_,rfl⟩
 .exact .inr ⟨_,rfl⟩
 .exact .inr ⟨_,rfl⟩
def Tame (K:Q4)(H:Hp)(v:V):Prop:=∃T b,TyX K H v (.type T)/\PySem.W.kitOne K (.type T) (.type "bool")=some b/\Zlp K H v
def isl (l m:Q11):Bool:=isw l m 1&&decide ((l.length:Int)=1)
def BadL (K:Q4)(H:Hp)(v:V)(m:Q11):Prop:=(∃l:Q11,v=tx l/\l.length<=1000/\isl l m=false)\/Oth K H v
theorem BadL.same (o:BadL K H v m)(s:Same H H'):BadL K H' v m:=o.imp id λo=>o.same s
theorem Oth.tame (o:Oth K H v):Tame K H v:=let ⟨T,b,ty,_,kb,se⟩:=o;⟨T,b,ty,kb,se⟩
def XN0 (C:AD)(E:XK)(H:Hp):Prop:=∀e H2,Same H H2->XAny H2 e C []->E (.ref C) (some e) H2
theorem XN0.same (x:XN0 C E H)(s:Same H H'):XN0 C E H':=λe H2 s2 h=>x e H2 (s.trans s2) h
theorem KOk.kinds (h:KOk m):KindsOk m:=⟨h.k,h.m1,h.m4,Zkq h.k⟩
theorem Zi9 (h:KindsOk m):KOk m:=⟨h.k,h.m1,h.m4⟩
theorem Zjg (h:c∈m):isl [c] m=true:=by unfold isl;rw[Zmo (by show ((1:Nat):Int)<=1;decide) (λx hx=>by rw[YAG.mp hx];exact h)];rfl
theorem ZfM (ne:x≠[]):Zi4 l x=true↔Miss l x:=by
 unfold Zi4;rw[YAP,YAP,Bool.not_eq_true',Zhb,Zdq,Zdq];constructor
 .rintro⟨a,b,c⟩;exact⟨ne,c,b,a⟩
 .rintro⟨_,c,b,a⟩;exact⟨a,b,c⟩
def Za4 (L:Q11)(i:Nat):Q22:=(List.range i).flatMap λk=>[L.take (k+1),L.drop (L.length-(k+1))]
theorem Zeu (L:Q11)(i:Nat):Za4 L (i+1)=Za4 L i++[L.take (i+1),L.drop (L.length-(i+1))]:=by unfold Za4;rw[YCL,List.flatMap_append,List.flatMap_singleton]
theorem ZcP (L:Q11):∀i,(Za4 L i).length=2*i
 | 0=>rfl
 | i+1=>by rw[Zeu,YAH,ZcP L i];simp;omega
theorem ZfG:w∈Za4 L i↔∃k,1<=k/\k<=i/\(w=L.take k\/w=L.drop (L.length-k)):=by
 unfold Za4;rw[List.mem_flatMap];constructor
 .rintro⟨k,hk,h⟩;have hk:=YBA.mp hk;simp only[YAE,YAT,or_false]at h;exact⟨k+1,by omega,by omega,h⟩
 .rintro⟨k,h1,h2,h⟩;refine⟨k-1,YBA.mpr (by omega),?_⟩;have e:k-1+1=k:=by omega
  rw[e];simpa using h
theorem ZgV (h:RowsA H zs rs){i:Nat}(hi:i<zs.length):∃t u,zs.getD i .non=.ref t/\H t=some (.tup [tx ((rs.map (·.1)).getD i []),u]):=by obtain⟨r,hr,t,b,e,h1,_⟩:=h.2 i zs[i] (YAN hi);refine⟨t,.ref b,by rw[YAY,YAN hi];exact e,?_⟩;rw[h1,YAY,YAi,hr];rfl
theorem ZjA {rs:List (Q11×List V)}{n:Nat}(h:n=rs.length):((List.range n).filter λ_=>true).map (λi=>tx ((rs.map (·.1)).getD i []))=(rs.map (·.1)).map tx:=by
 subst h;rw[YDL.mpr (λ_ _=>rfl)];apply YCQ (by simp);intro i h1 h2;have hi:i<rs.length:=by simpa using h2
 simp[YAY,YAN hi]
theorem Zgu {kvs:List (Key×V)}{k:Key}{v:V}(h:valV kvs k=some v):k∈kvs.map (·.1):=by
 unfold valV at h;obtain⟨p,hp,_⟩:=YCw.mp h;have e:p.1=k:=by simpa using List.find?_some hp
 rw[<-e];exact YBE (List.mem_of_find?_eq_some hp)
theorem Zko (l:List (Key×V))(v:V)(h:k∈l.map (·.1)):(putK l k v).map (·.1)=l.map (·.1):=by
 unfold putK;have ha:(l.any λkv=>decide (kv.1=k))=true:=by obtain⟨p,hp,e⟩:=YAt.mp h;exact List.any_eq_true.mpr ⟨p,hp,decide_eq_true e⟩
 rw[YAM ha,YAu];refine YBx λp _=>?_;show (if p.1=k then (p.1,v) else p).1=p.1;split<;>rfl
structure DI (H:Hp)(s L rs:Q11)(S:Q11->Prop)(kvs:List (Key×V))(ws:Q22):Prop where
 keys:kvs.map (·.1)=ws.map kTx
 nd:ws.Nodup
 mem:∀w,w∈ws↔Miss L w/\S w
 val:∀w∈ws,∃b,valV kvs (kTx w)=some (.ref b)/\H b=some (.tup [tx rs,tx (shOf s w),.int (fpl L (shOf s w):Nat)])
theorem DI.grow (h:DI H s L rs S kvs ws)(sm:∀b us,H b=some (.tup us)->H' b=some (.tup us))(hS:∀w,Miss L w->(S w↔S' w)):DI H' s L rs S' kvs ws:=
 ⟨h.keys,h.nd,λw=>(h.mem w).trans ⟨λ⟨a,b⟩=>⟨a,(hS w a).mp b⟩,λ⟨a,b⟩=>⟨a,(hS w a).mpr b⟩⟩,λw hw=>let ⟨b,h1,h2⟩:=h.val w hw;⟨b,h1,sm _ _ h2⟩⟩
theorem DI.put (h:DI H s L rs S kvs ws)(mx:Miss L x)(hb:H b=some (.tup [tx rs,tx (shOf s x),.int (fpl L (shOf s x):Nat)])):
  ∃ws',DI H s L rs (λw=>S w\/w=x) (putK kvs (kTx x) (.ref b)) ws':=by
 by_cases hx:x∈ws
 .refine⟨ws,?_,h.nd,λw=>?_,λw hw=>?_⟩
  .rw[Zko,h.keys];rw[h.keys];exact YBE hx
  .rw[h.mem];constructor
   .rintro⟨a,c⟩;exact⟨a,.inl c⟩
   .rintro⟨a,c | rfl⟩
    .exact⟨a,c⟩
    .exact(h.mem w).mp hx
  .rw[ZgM];by_cases e:w=x
   .subst e;exact⟨b,by rw[YAM rfl],hb⟩
   .rw[YAI (λz=>e (Zcd z))];exact h.val w hw
 .have hv:valV kvs (kTx x)=none:=by
   cases e:valV kvs (kTx x) with
   | none=>rfl
   | some v=>
    exfalso;have:=Zgu e;rw[h.keys]at this;obtain⟨y,hy,e2⟩:=YAt.mp this;exact hx (Zcd e2▸hy)
  refine⟨ws++[x],?_,?_,λw=>?_,λw hw=>?_⟩
  .rw[ZeF _ hv,YAy,h.keys,YAy];rfl
  .rw[YCy];refine⟨h.nd,by simp,λa ha c hc e=>?_⟩;rw[YAG.mp hc]at e;exact hx (e▸ha)
  .rw[YAV,YAG,h.mem];constructor
   .rintro (⟨a,c⟩ | rfl)
    .exact⟨a,.inl c⟩
    .exact⟨mx,.inr rfl⟩
   .rintro⟨a,c | rfl⟩
    .exact .inl ⟨a,c⟩
    .exact .inr rfl
  .rw[ZgM];by_cases e:w=x
   .subst e;exact⟨b,by rw[YAM rfl],hb⟩
   .rw[YAI (λz=>e (Zcd z))];rcases YAV.mp hw with z | z
    .exact h.val w z
    .exact absurd (YAG.mp z) e
theorem ZjN (T:TblOk H P pos q)(k:∀b o,H b=some o->b≠pd->H' b=some o)(h:H pd=some o0)(t:ZdS o0=false)(x:Zoj o0=false):TblOk H' P pos q:=by obtain⟨ps,e,tr,hc⟩:=T;refine⟨ps,k _ _ e (λz=>by rw[z,h]at e;cases e;cases t),tr,hc.imp id ?_⟩;rintro⟨c,e1,e2⟩;exact⟨c,e1,k _ _ e2 (λz=>by rw[z,h]at e2;unfold Zfe at e2;cases e2;cases x)⟩
theorem Zb7 (rs s L m:Q11):(ZbT rs s L m).map (·.1)=opnL s L m:=by unfold ZbT;rw[YAu];exact List.map_id' _
theorem Zb8 (rs s L m:Q11):(Zb2 rs s L m).map (·.1)=filL s L m:=by unfold Zb2;rw[YAu];exact List.map_id' _
theorem ZbN (hm:m.length<=4)(hl:l.length<=40):(ZaK l m).length<=6724:=ZhM hm hl (by omega)
theorem Zdp 
  (hp:StripAt C H p la da l m ds) (c3:Chg [da] H H3) (d3:H3 da=some (.lst ts2)) (e3:DeedsA H3 ts2 ds2) (ch:Chg [p] H3 H4) (f4:Zdg C H4 p la2 da l2 m) (l4:H4 la2=some (.lst ((ZaK l2 m).map tx))) (an:AnsS H3 H4 t c g la2 rc rg) (run:Run m ds2 l2):
  Chg [p,da] H H4/\StripAt C H4 p la2 da l2 m ds2/\AnsS H H4 t c g la2 rc rg:=by
 obtain⟨⟨dx,f⟩,hk,⟨ts,d1,d2⟩,_,ok,nld⟩:=id hp;have npd:p≠da:=λz=>by rw[z,d1]at f;cases f
 have f3:=c3 _ _ f (by simpa using npd) rfl;have nw:∀r,Nw H3 r->Nw H r:=λr n=>n.chg c3 λb hb=>by obtain rfl:=YAG.mp hb;exact⟨_,d3,rfl⟩
 refine⟨(c3.mono (by simp)).trans (ch.mono (by simp)),⟨f4,l4,⟨ts2,ch _ _ d3 (by simpa using YAh npd) rfl,e3.chg ch λb hb us z=>by rw[YAG.mp hb,f3]at z;cases z⟩,run,ok,YAh (an.nl.ne d3 rfl)⟩,⟨an.tup,an.came,an.went,nw _ an.nc,nw _ an.ng,nw _ an.nl,an.ncg,an.ncl,an.ngl⟩⟩
theorem Zd1 (h:SqL K H r ts)(d:DeedsA H ts ds):DatOk K H (.l (ds.map Zd2)) (.ref r):=by unfold DatOk;exact⟨r,ts,rfl,h,d.dat⟩
theorem Zf0 (ds:List (Bool×Nat)):dep (.l (ds.map Zd2))<=2:=by unfold dep;refine YCA (Zd0 λd hd=>?_);obtain⟨x,_,rfl⟩:=YAt.mp hd;exact Zjs x
theorem Zih (h:StripAt C H p la da l m ds):StripOk l m:=⟨h.ok.k,h.ok.m1,h.ok.m4,h.run.len,h.run.mem⟩
def okN (x:Str):Bool:=!decide (x="own_text")&&!decide (x="own_kinds")&&!decide (x="own_lacking")&&!decide (x="own_deeds")
theorem sN (h:okN x=true:=by decide +kernel):(sF l m la da).lookup x=none:=by unfold okN at h;simp only[YAP,Bool.not_eq_true',decide_eq_false_iff_not]at h;exact Zpl h.1.1.1 h.1.1.2 h.1.2 h.2
structure RingOk (l m:Q11):Prop where
 k:isk m=true
 m1:1<=m.length
 m4:m.length<=4
 l1:1<=l.length
 l20:l.length<=20
 mem:∀x∈l,x∈m
def ModAt (H:Hp)(da t:AD)(l:Q11)(ds:List (Bool×Nat)):Prop:=∃d ts,H t=some (.tup [tx l,.ref d])/\H d=some (.lst ts)/\DeedsA H ts ds/\d≠da
theorem ModAt.chg (h:ModAt H da t l ds)(s:StripAt C H p la da l' m ds')(ch:Chg [p,da] H H'):ModAt H' da t l ds:=by
 obtain⟨d,ts,h1,h2,h3,n⟩:=h;obtain⟨⟨dx,f⟩,_,⟨us,d1,_⟩,_⟩:=s;have no:∀b∈[p,da],∀us,H b≠some (.tup us):=λb hb us z=>by
  simp only[YAE,YAT,or_false]at hb;rcases hb with rfl | rfl
  .rw[f]at z;cases z
  .rw[d1]at z;cases z
 exact⟨d,ts,ch _ _ h1 (λz=>no t z _ h1) rfl,ch _ _ h2 (by simp only[YAE,YAT,or_false,not_or];exact⟨λz=>(by rw[z,f]at h2;cases h2),n⟩) rfl,h3.chg ch no,n⟩
theorem Zlg (n:x≠y)(h:Q (.bl false) H):rEqD K false (tx x) (tx y) H Q:=.inl ⟨rfl,by rw[YAI YAC,Zcs,decide_eq_false n];exact h⟩
theorem ZkE (l:List α)(x:α):cut (l++[x]) none (some (-1))=l:=by
 unfold cut;rw[HT.sIx_none];have e:HT.sIx (l++[x]).length (l++[x]).length (some (-1))=l.length:=by show (if (-1:Int)<0 then (-1+(((l++[x]).length:Nat):Int)).toNat else min (-1:Int).toNat (l++[x]).length)=_;rw[YAM (by decide),YAH];show (-1+((l.length+1:Nat):Int)).toNat=l.length;omega
 rw[e,YBV,Nat.sub_zero,List.take_left]
theorem Zjq (ds:List (Bool×Nat)):deq (.l (ds.map Zd2)) (.l (ds.map Zd2))=true:=by unfold deq;exact ZbP λd hd=>by obtain⟨x,_,rfl⟩:=YAt.mp hd;exact Zjr x
theorem Zkz (h1:H x=some (.lst xs))(h2:DeedsA H xs ds)(h3:H y=some (.lst ys))(h4:DeedsA H ys ds)(q:Q (.bl (!neg)) H):rEqD K neg (.ref x) (.ref y) H Q:=.inr ⟨_,_,Zd1 (.mk h1) h2,Zd1 (.mk h3) h4,λz=>YAC z.1,YAK (Zf0 ds) (by decide),by
 rw[Zjq];cases neg
 .exact q
 .exact q⟩
theorem ZjL (h1:D≠C)(h2:D≠L):([.ref C,.ref L,.type "ValueError",.type "Exception",.type "BaseException",.type "object"]:AC).contains (.ref D)=false:=by simp[YAZ,h1,h2]
theorem Zcz:(Value.ref C::l).contains (.ref C)=true:=by simp[YAZ]
structure Kp where
 n:Q11
 p:AD
 la:AD
 da:AD
 l:Q11
 ds:List (Bool×Nat)
structure ApK (r s:Kp):Prop where
 n:r.n≠s.n
 p:r.p≠s.p
 ll:r.la≠s.la
 ld:r.la≠s.da
 dl:r.da≠s.la
 dd:r.da≠s.da
def isn (n:Q11):Bool:=isw n LET 8&&decide (n≠[])
def BadN (K:Q4)(H:Hp)(v:V):Prop:=(∃n:Q11,v=tx n/\n.length<=1000/\isn n=false)\/Oth K H v
def XNn (a:Ad)(E:XK)(H:Hp)(v:V):Prop:=∀e H2,Same H H2->XAny H2 e a.c_LN (fs1 "name" [v])->E (.ref a.c_LN) (some e) H2
def XNt (a:Ad)(E:XK)(H:Hp)(v:V):Prop:=∀e H2,Same H H2->XAny H2 e a.c_K5 (fs1 "name" [v])->E (.ref a.c_K5) (some e) H2
theorem BadN.same (o:BadN K H v)(s:Same H H'):BadN K H' v:=o.imp id λo=>o.same s
def NoNm (K:Q4)(H:Hp)(v:V)(F:List Kp):Prop:=BadN K H v\/∃n,v=tx n/\n.length<=1000/\isn n=true/\∀r∈F,r.n≠n
def KeepB (p:AD)(H H':Hp):Prop:=∀b o,H b=some o->b≠p->H' b=some o
theorem KeepB.chg (k:KeepB p H H'):Chg [p] H H':=λb o e n _=>k b o e (by simpa using n)
theorem KeepB.tbl (k:KeepB p H H')(t:TblOk H P pos q)(h:H p=some (.dK kvs)):TblOk H' P pos q:=by
 obtain⟨ps,e,tr,x⟩:=t;have ne:∀ {b o},H b=some o->(∀kvs,o≠.dK kvs)->b≠p:=λe n z=>by rw[z,h]at e;exact n _ (Option.some.inj e).symm
 exact⟨ps,k _ _ e (ne e λ_ z=>by cases z),tr,x.imp id λ⟨c,e1,e2⟩=>⟨c,e1,k _ _ e2 (ne e2 λ_ z=>by cases z)⟩⟩
def shF (m:Q11)(dA:AD):List (Str×V):=putF "own_strips" (.ref dA) (putF "own_kinds" (tx m) [])
def kpKV (F:List Kp):List (Key×V):=F.map λr=>(kTx r.n,V.ref r.p)
structure ShelfAt (a:Ad)(H:Hp)(p dA:AD)(m:Q11)(F:List Kp):Prop where
 fld:∃dx,H p=some (.ins a.c_LX dx (shF m dA))
 dct:H dA=some (.dK (kpKV F))
 str:∀r∈F,StripAt a.c_LY H r.p r.la r.da r.l m r.ds
 nm:∀r∈F,isn r.n=true
 ap:F.Pairwise ApK
 kok:KOk m
def Zbl (n:Q11)(la:AD)(l:Q11)(ds:List (Bool×Nat))(r:Kp):Kp:=if r.n=n then ⟨r.n,r.p,la,r.da,l,ds⟩ else r
def BandA (a:Ad)(H:Hp)(p:AD)(l m:Q11):Prop:=RingAt a.c_LW H p l m\/∃la da ds,StripAt a.c_LY H p la da l m ds
theorem BandA.l {a:Ad}{H H':Hp}{p:AD}{l m:Q11}(h:BandA a H p l m)(s:SameL H H'):BandA a H' p l m:=by
 rcases h with⟨dx,h⟩|⟨la,da,ds,h⟩
 .exact .inl ⟨dx,s _ _ h rfl⟩
 .exact .inr ⟨la,da,ds,h.l s⟩
theorem shK:(shF m dA).lookup ("own_kinds":Str)=some (tx m):=by unfold shF;rw[Zam,YAI (by decide +kernel),Zam,YAM rfl]
theorem shS:(shF m dA).lookup ("own_strips":Str)=some (.ref dA):=by unfold shF;rw[Zam,YAM rfl]
theorem shN {m:Q11} {dA:AD} {x:Str} (h1:¬x="own_strips":=by decide +kernel)(h2:¬x="own_kinds":=by decide +kernel):(shF m dA).lookup x=none:=by unfold shF;rw[Zam,YAI h1,Zam,YAI h2];rfl
theorem Zce (h:isn n=true):n.length<=8:=by unfold isn isw at h;rw[YAP,YAP,decide_eq_true_iff]at h;omega
theorem Zmg (h:∀r∈F,r.n≠n):valV (kpKV F) (kTx n)=none:=by
 induction F with
 | nil=>rfl
 | cons r F ih=>
  rw[show kpKV (r::F)=(kTx r.n,V.ref r.p)::kpKV F from rfl,ZaW (λe=>h r (by simp) (Zcd e))];exact ih λs hs=>h s (by simp[hs])
theorem Zi6 (ap:F.Pairwise ApK){r:Kp}(hr:r∈F):valV (kpKV F) (kTx r.n)=some (.ref r.p):=by
 induction F with
 | nil=>cases hr
 | cons s F ih=>
  rw[show kpKV (s::F)=(kTx s.n,V.ref s.p)::kpKV F from rfl];obtain⟨h1,h2⟩:=YBC.mp ap;rcases YAE.mp hr with rfl | z
  .exact Zbd rfl
  .rw[ZaW (λe=>(h1 r z).n (Zcd e))];exact ih h2 z
theorem Zmi (F:List Kp)(n:Q11):ZdZ (kpKV F) (kTx n)=kpKV (F.filter λx=>decide (x.n≠n)):=by unfold ZdZ kpKV;rw[List.filter_map];congr 1;refine List.filter_congr λx _=>?_;show decide (kTx x.n≠kTx n)=decide (x.n≠n);rw[decide_eq_decide];exact⟨λh e=>h (by rw[e]),λh e=>h (Zcd e)⟩
theorem Zn3 (F:List Kp):(kpKV F).length=F.length:=by unfold kpKV;rw[YAD]
theorem Zmh (F:List Kp):(kpKV F).map (·.1)=(F.map (·.n)).map kTx:=by unfold kpKV;rw[YAu,YAu];rfl
theorem ShelfAt.chg (h:ShelfAt a H p dA m F)(c:Chg S H H')(hS:∀b∈S,∀us,H b≠some (.tup us))(n1:p∉S)(n2:dA∉S)(n3:∀r∈F,r.p∉S/\r.la∉S/\r.da∉S):ShelfAt a H' p dA m F:=by obtain⟨⟨dx,f⟩,d,st,nm,ap,k⟩:=h;exact⟨⟨dx,c _ _ f n1 rfl⟩,c _ _ d n2 rfl,λr hr=>(st r hr).chg c hS (n3 r hr).1 (n3 r hr).2.1 (n3 r hr).2.2,nm,ap,k⟩
theorem ShelfAt.l (h:ShelfAt a H p dA m F)(s:SameL H H'):ShelfAt a H' p dA m F:=h.chg (S:=[]) s.chg (by simp) (by simp) (by simp) (by simp)
theorem ShelfAt.same (h:ShelfAt a H p dA m F)(s:Same H H'):ShelfAt a H' p dA m F:=h.l s.l
theorem Zol {H:Hp}{p q C D dx dy:AD}{fs gs:List (Str×V)}(x:Str)(h1:H p=some (.ins C dx fs))(h2:H q=some (.ins D dy gs))(n:fs.lookup x≠gs.lookup x):p≠q:=λz=>by rw[z,h2]at h1;injection h1 with h1;injection h1 with _ _ h1;exact n (by rw[h1])
theorem Zaw (h:StripAt C H p la da l m ds):(∃dx fs,H p=some (.ins C dx fs))/\(∃xs,H la=some (.lst xs))/\∃xs,H da=some (.lst xs):=by obtain⟨⟨dx,f⟩,k,⟨ts,d1,_⟩,_⟩:=h;exact⟨⟨dx,_,f⟩,⟨_,k⟩,ts,d1⟩
theorem ShelfAt.pne {a:Ad}{H:Hp}{p dA q la da:AD}{l m m2:Q11}{ds:List (Bool×Nat)}{F:List Kp}(h:ShelfAt a H p dA m F)(s:StripAt a.c_LY H q la da l m2 ds):p≠q:=by obtain⟨dx,f⟩:=h.fld;obtain⟨dy,g⟩:=s.fld;refine Zol "own_text" f g ?_;rw[shN,ZaX];exact λz=>by cases z
theorem ShelfAt.out (h:ShelfAt a H p dA m F){q:AD}{xs:List V}(e:H q=some (.lst xs)):p≠q/\dA≠q:=by obtain⟨dx,f⟩:=h.fld;exact⟨λz=>(by rw[z,e]at f;cases f),λz=>(by have d:=h.dct;rw[z,e]at d;cases d)⟩
theorem ShelfAt.lay {a:Ad}{H H':Hp}{p dA p2 la2 da2:AD}{l m n:Q11}{ds:List (Bool×Nat)}{F:List Kp}(h:ShelfAt a H p dA m F)(s:Same H H')(st:StripAt a.c_LY H' p2 la2 da2 l m ds)(n1:H p2=none)(n2:H la2=none)(n3:H da2=none)(hn:isn n=true)(nf:∀r∈F,r.n≠n):
  ShelfAt a (upd H' dA (.dK (putK (kpKV F) (kTx n) (.ref p2)))) p dA m (F++[⟨n,p2,la2,da2,l,ds⟩])/\KeepB dA H (upd H' dA (.dK (putK (kpKV F) (kTx n) (.ref p2)))):=by
 have d:=h.dct;have d':=s _ _ d;have c:Chg [dA] H' (upd H' dA (.dK (putK (kpKV F) (kTx n) (.ref p2)))):=Chg.upd (by simp);have hS:∀b∈[dA],∀us,H' b≠some (.tup us):=λb hb us z=>by rw[YAG.mp hb,d']at z;cases z
 have nd:∀ {b o},H' b=some o->(∀kvs,o≠.dK kvs)->b∉[dA]:=λe n z=>by rw[YAG.mp z,d']at e;exact n _ (Option.some.inj e).symm
 have out:∀ {q la da:AD} {l m:Q11} {ds:List (Bool×Nat)},StripAt a.c_LY H' q la da l m ds->q∉[dA]/\la∉[dA]/\da∉[dA]:=λz=>by obtain⟨⟨_,_,e1⟩,⟨_,e2⟩,_,e3⟩:=Zaw z;exact⟨nd e1 (λ_ z=>by cases z),nd e2 (λ_ z=>by cases z),nd e3 (λ_ z=>by cases z)⟩
 have h':=h.same s;obtain⟨dx,f⟩:=h'.fld;refine⟨⟨⟨dx,c _ _ f (nd f λ_ z=>by cases z) rfl⟩,?_,λr hr=>?_,λr hr=>?_,?_,h.kok⟩,λb o e ne=>?_⟩
 .rw[Zag,ZeF _ (Zmg nf)];unfold kpKV;rw[YAy];rfl
 .rcases YAV.mp hr with z | z
  .have:=h'.str r z;obtain⟨o1,o2,o3⟩:=out this;exact this.chg c hS o1 o2 o3
  .rw[YAG.mp z];obtain⟨o1,o2,o3⟩:=out st;exact st.chg c hS o1 o2 o3
 .rcases YAV.mp hr with z | z
  .exact h.nm r z
  .rw[YAG.mp z];exact hn
 .rw[YBF];refine⟨h.ap,by simp,λr hr t ht=>?_⟩;rw[YAG.mp ht];obtain⟨⟨_,_,e1⟩,⟨_,e2⟩,_,e3⟩:=Zaw (h.str r hr);exact⟨nf r hr,Zad e1 n1,Zad e2 n2,Zad e2 n3,Zad e3 n2,Zad e3 n3⟩
 .rw[Zai ne];exact s _ _ e
theorem ShelfAt.take (h:ShelfAt a H p dA m F)(s:Same H H'):
  ShelfAt a (upd H' dA (.dK (ZdZ (kpKV F) (kTx n)))) p dA m (F.filter λx=>decide (x.n≠n))/\KeepB dA H (upd H' dA (.dK (ZdZ (kpKV F) (kTx n)))):=by
 have d:=h.dct;have d':=s _ _ d;have c:Chg [dA] H' (upd H' dA (.dK (ZdZ (kpKV F) (kTx n)))):=Chg.upd (by simp);have hS:∀b∈[dA],∀us,H' b≠some (.tup us):=λb hb us z=>by rw[YAG.mp hb,d']at z;cases z
 have nd:∀ {b o},H' b=some o->(∀kvs,o≠.dK kvs)->b∉[dA]:=λe n z=>by rw[YAG.mp z,d']at e;exact n _ (Option.some.inj e).symm
 have h':=h.same s;obtain⟨dx,f⟩:=h'.fld;refine⟨⟨⟨dx,c _ _ f (nd f λ_ z=>by cases z) rfl⟩,by rw[Zag,Zmi],λr hr=>?_,λr hr=>h.nm r (YBT.mp hr).1,h.ap.filter _,h.kok⟩,λb o e ne=>by rw[Zai ne];exact s _ _ e⟩;have st:=h'.str r (YBT.mp hr).1;obtain⟨⟨_,_,e1⟩,⟨_,e2⟩,_,e3⟩:=Zaw st;exact st.chg c hS (nd e1 λ_ z=>by cases z) (nd e2 λ_ z=>by cases z) (nd e3 λ_ z=>by cases z)
theorem ShelfAt.one (h:ShelfAt a H p dA m F){r s:Kp}(hr:r∈F)(hs:s∈F)(e:r.n=s.n):r=s:=by
 have ap:=h.ap;clear h;induction F with
 | nil=>cases hr
 | cons x F ih=>
  obtain⟨h1,h2⟩:=YBC.mp ap;rcases YAE.mp hr with rfl | z<;>rcases YAE.mp hs with rfl | y
  .rfl
  .exact absurd e (h1 s y).n
  .exact absurd e.symm (h1 r z).n
  .exact ih z y h2
theorem ShelfAt.apart (h:ShelfAt a H p dA m F){r s:Kp}(hr:r∈F)(hs:s∈F)(e:r.n≠s.n):s.p≠r.p/\s.la≠r.da/\s.da≠r.da:=by
 have ap:=h.ap;clear h;induction F with
 | nil=>cases hr
 | cons x F ih=>
  obtain⟨h1,h2⟩:=YBC.mp ap;rcases YAE.mp hr with rfl | z<;>rcases YAE.mp hs with rfl | y
  .exact absurd rfl e
  .have k:=h1 s y;exact⟨YAh k.p,YAh k.dl,YAh k.dd⟩
  .have k:=h1 r z;exact⟨k.p,k.ld,k.dd⟩
  .exact ih z y h2
theorem ShelfAt.moved (h:ShelfAt a H p dA m F)(hr:r∈F)(c:Chg [r.p,r.da] H H2)(st:StripAt a.c_LY H2 r.p la2 r.da l2 m ds2)(nl:Nw H la2):ShelfAt a H2 p dA m (F.map (Zbl r.n la2 l2 ds2)):=by
 have sr:=h.str r hr;obtain⟨⟨_,_,e1⟩,⟨_,e2⟩,_,e3⟩:=Zaw sr;have hS:∀b∈[r.p,r.da],∀us,H b≠some (.tup us):=λb hb us z=>by
  rcases YAE.mp hb with y | y
  .rw[y,e1]at z;cases z
  .rw[YAG.mp y,e3]at z;cases z
 obtain⟨o1,o2⟩:=h.out e3;have pp:=h.pne sr;obtain⟨dx,f⟩:=h.fld;have key:∀s∈F,StripAt a.c_LY H2 (Zbl r.n la2 l2 ds2 s).p (Zbl r.n la2 l2 ds2 s).la (Zbl r.n la2 l2 ds2 s).da (Zbl r.n la2 l2 ds2 s).l m (Zbl r.n la2 l2 ds2 s).ds:=λs hs=>by
  unfold Zbl;by_cases e:s.n=r.n
  .rw[YAM e,h.one hs hr e];exact st
  .rw[YAI e];obtain⟨a1,a2,a3⟩:=h.apart hr hs (YAh e);have ss:=h.str s hs;obtain⟨⟨_,_,x1⟩,⟨_,x2⟩,_,x3⟩:=Zaw ss;refine ss.chg c hS ?_ ?_ ?_<;>simp only[YAE,YAT,or_false,not_or]
   .exact⟨a1,λz=>by rw[z,e3]at x1;cases x1⟩
   .exact⟨λz=>(by rw[z,e1]at x2;cases x2),a2⟩
   .exact⟨λz=>(by rw[z,e1]at x3;cases x3),a3⟩
 refine⟨⟨dx,c _ _ f ?_ rfl⟩,?_,λs hs=>?_,λs hs=>?_,?_,h.kok⟩
 .simp only[YAE,YAT,or_false,not_or];exact⟨pp,o1⟩
 .have e:kpKV (F.map (Zbl r.n la2 l2 ds2))=kpKV F:=by unfold kpKV;rw[YAu];refine YBx λs _=>?_;show (kTx (Zbl r.n la2 l2 ds2 s).n,V.ref (Zbl r.n la2 l2 ds2 s).p)=_;unfold Zbl;split<;>rfl
  rw[e];refine c _ _ h.dct ?_ rfl;simp only[YAE,YAT,or_false,not_or];exact⟨λz=>(by have d:=h.dct;rw[z,e1]at d;cases d),o2⟩
 .obtain⟨t,ht,rfl⟩:=YAt.mp hs;exact key t ht
 .obtain⟨t,ht,rfl⟩:=YAt.mp hs;have:(Zbl r.n la2 l2 ds2 t).n=t.n:=by unfold Zbl;split<;>rfl
  rw[this];exact h.nm t ht
 .rw[YBP];refine h.ap.imp_of_mem λ{x y} hx hy k=>?_;have ox:=Zaw (h.str x hx);have oy:=Zaw (h.str y hy);obtain⟨_,⟨_,x2⟩,_,x3⟩:=ox;obtain⟨_,⟨_,y2⟩,_,y3⟩:=oy;unfold Zbl;by_cases ex:x.n=r.n
  .have ey:y.n≠r.n:=λz=>k.n (by rw[ex,z]);rw[YAM ex,YAI ey];exact⟨k.n,k.p,YAh (nl.ne y2 rfl),YAh (nl.ne y3 rfl),k.dl,k.dd⟩
  .rw[YAI ex];by_cases ey:y.n=r.n
   .rw[YAM ey];exact⟨k.n,k.p,nl.ne x2 rfl,k.ld,nl.ne x3 rfl,k.dd⟩
   .rw[YAI ey];exact k
theorem Zfb {a:Ad} {H:Hp} {p:AD} {l m:Q11} {x:Str} {R1 R2:Prop} (h:BandA a H p l m) (n1:¬x="own_text") (n2:¬x="own_kinds") (n3:okN x=true) (r1:RingAt a.c_LW H p l m->R1) (r2:∀la da ds,StripAt a.c_LY H p la da l m ds->R2):
  (∃(a_1 dx:AD) (fs:List (Str×V)),V.ref p=V.ref a_1/\H a_1=some (HO.ins a.c_LW dx fs)/\fs.lookup x=none/\R1)\/∃(a_1 dx:AD) (fs:List (Str×V)),V.ref p=V.ref a_1/\H a_1=some (HO.ins a.c_LY dx fs)/\fs.lookup x=none/\R2:=by
 rcases h with⟨dx,f⟩|⟨la,da,ds,h⟩
 .exact .inl ⟨p,dx,_,rfl,f,Zmy n1 n2,r1 ⟨dx,f⟩⟩
 .obtain⟨dx,f⟩:=id h.fld;exact .inr ⟨p,dx,_,rfl,f,sN n3,r2 la da ds h⟩
theorem ZnN (n:x≠y)(h:Q (.bl true) H):rEqD K true (tx x) (tx y) H Q:=.inl ⟨rfl,by rw[YAM rfl,Zcs,decide_eq_false n];exact h⟩
theorem Zc7 (h:AnsS H1 H2 t c g la rc rg)(s:Same H H1):AnsS H H2 t c g la rc rg:={ h with nc:=h.nc.same s,ng:=h.ng.same s,nl:=h.nl.same s }
def ThOk (K:Q4)(H:Hp)(v:V):Prop:=(Zbe v=true\/∃c,v=.ref c)/\∃T b,TyX K H v (.type T)/\PySem.W.kitOne K (.type T) (.type "bool")=some b
theorem ThOk.same (h:ThOk K H v)(s:Same H H'):ThOk K H' v:=⟨h.1,let ⟨T,b,t,k⟩:=h.2;⟨T,b,TyX.same t s,k⟩⟩
def TxD (H:Hp)(pT:AD)(F:List Kp):Prop:=∃F':List Kp,F'.Perm F/\H pT=some (.dK (F'.map λr=>(kTx r.n,tx r.l)))
theorem ZkL {F:List Kp}(nd:(F.map (·.n)).Nodup){r:Kp}(hr:r∈F):valV (F.map λr=>(kTx r.n,tx r.l)) (kTx r.n)=some (tx r.l):=by
 induction F with
 | nil=>cases hr
 | cons s F ih=>
  rw[YAc,YBw]at nd;rw[YAc];rcases YAE.mp hr with rfl | z
  .exact Zbd rfl
  .rw[ZaW (λe=>nd.1 (by rw[show s.n=r.n from Zcd e];exact YBE z))];exact ih nd.2 z
theorem ShelfAt.nd (h:ShelfAt a H p dA m F):(F.map (·.n)).Nodup:=by unfold List.Nodup;rw[YBP];exact h.ap.imp λk=>k.n
theorem ShelfAt.dict (h:ShelfAt a H p dA m F)(e:H q=some (.dK kvs))(n:q≠dA):ShelfAt a (upd H q o) p dA m F:=by
 have nd:∀ {b u},H b=some u->(∀kvs,u≠.dK kvs)->b∉[q]:=λx n z=>by rw[YAG.mp z,e]at x;exact n _ (Option.some.inj x).symm
 obtain⟨dx,f⟩:=h.fld;refine h.chg (S:=[q]) (Chg.upd (by simp)) (λb hb us z=>by rw[YAG.mp hb,e]at z;cases z) (nd f λ_ z=>by cases z) (λz=>n (YAG.mp z).symm) λr hr=>?_;obtain⟨⟨_,_,e1⟩,⟨_,e2⟩,_,e3⟩:=Zaw (h.str r hr);exact⟨nd e1 (λ_ z=>by cases z),nd e2 (λ_ z=>by cases z),nd e3 (λ_ z=>by cases z)⟩
theorem Zen (h1:PySem.W.kitOne K t d1=some false)(h2:PySem.W.kitOne K t d2=some false):PySem.W.kitAny K t [d1,d2]=some false:=by simp[PySem.W.kitAny,h1,h2]
def nmAt (bs:Q11)(A f k:Nat):Q11:=bs.take A++[97+(f+5*k) % 26]++bs.drop (A+1)
theorem ZiZ (h:i<26):LET[i]?=some (97+i):=by
 have:∀j:Fin 26,LET[j.1]?=some (97+j.1):=by decide
 exact this ⟨i,h⟩
theorem ZpQ (hA:A<bs.length)(h8:bs.length<=8)(hb:∀x∈bs,x∈LET):isn (nmAt bs A f k)=true:=by
 have hl:(nmAt bs A f k).length<=8:=by unfold nmAt;rw[YAH,YAH,YAa,YAk,YAd];omega
 have hm:∀x∈nmAt bs A f k,x∈LET:=λx hx=>by
  unfold nmAt at hx;rcases YAV.mp hx with h | h
  .rcases YAV.mp h with h | h
   .exact hb x (YAe h)
   .rw[YAG.mp h];exact YAq (ZiZ (Nat.mod_lt _ (by decide)))
  .exact hb x (YAb h)
 unfold isn isw;rw[YAP,YAP];refine⟨⟨decide_eq_true (by omega),YBD.mpr λx hx=>by simpa using hm x hx⟩,decide_eq_true λe=>?_⟩;have:=congrArg List.length e;unfold nmAt at this;simp at this
theorem ZnM (hk:k<5)(hj:j<5)(e:nmAt bs A f k=nmAt bs A f j):k=j:=by
 unfold nmAt at e;have e:=List.append_inj_left' e rfl;have e:=List.append_inj_right e rfl;have e:97+(f+5*k) % 26=97+(f+5*j) % 26:=by simpa using e
 omega
theorem Zkg:((List.range 5).map (nmAt bs A f)).Nodup:=by unfold List.Nodup;rw[YBP];refine(List.nodup_range (n:=5)).imp_of_mem λ{x y} hx hy n e=>n (ZnM (YBA.mp hx) (YBA.mp hy) e)
theorem ZgQ (l:Q11):(signs l).flatten=l:=by
 unfold signs;induction l with
 | nil=>rfl
 | cons x l ih=>rw[YAc,YBm,ih];rfl
theorem Zik (l:Q11):((signs l).map List.length).sum=l.length:=by
 unfold signs;induction l with
 | nil=>rfl
 | cons x l ih=>rw[YAc,YAc,List.sum_cons,ih,YAl];simp;omega
theorem ZcS:cutV xs lo hi=cut xs lo hi:=rfl
theorem Zjf (h:isn n=true):∀c∈n,97<=c/\c<=122:=λc hc=>by
 unfold isn isw at h;rw[YAP,YAP]at h;have:=YBD.mp h.1.2 c hc;have hm:c∈LET:=by simpa using this
 have all:∀x∈LET,97<=x/\x<=122:=by decide
 exact all c hm
theorem Zje (hc:c∈n)(h:¬(97<=c/\c<=122)):isn n=false:=by
 cases e:isn n with
 | false=>rfl
 | true=>exact absurd (Zjf e c hc) h
theorem sk9 {K:Q4}{H:Hp}{x y:Int}{A B:Hp->Prop}(n:x≠y)(h:B H):rEqD K false (.int x) (.int y) H λu H'=>∃k,u=V.bl k/\if k=true then A H' else B H':=
 .inl ⟨rfl,by rw[YAI YAC,decide_eq_false (λe=>n (by injection e))];exact⟨false,rfl,iteF h⟩⟩
theorem go9 {K:Q4}{H:Hp}{x y:Int}{A B:Hp->Prop}(e:x=y)(h:A H):rEqD K false (.int x) (.int y) H λu H'=>∃k,u=V.bl k/\if k=true then A H' else B H':=
 .inl ⟨rfl,by rw[YAI YAC,decide_eq_true (by rw[e])];exact⟨true,rfl,iteT h⟩⟩
theorem sw8 {K:Q4}{H:Hp}{x:Int}{A0 A1 A2 A3 A4 A5 A6 A7:Hp->Prop}(h:∀R:Prop,(x=0->A0 H->R)->(x=1->A1 H->R)->(x=2->A2 H->R)->(x=3->A3 H->R)->(x=4->A4 H->R)->(x=5->A5 H->R)->(x=6->A6 H->R)->(x=7->A7 H->R)->R):rEqD K false (.int x) (.int 0) H λu0 H0=>∃k,u0=V.bl k/\if k=true then A0 H0 else rEqD K false (.int x) (.int 1) H0 λu1 H1=>∃k,u1=V.bl k/\if k=true then A1 H1 else rEqD K false (.int x) (.int 2) H1 λu2 H2=>∃k,u2=V.bl k/\if k=true then A2 H2 else rEqD K false (.int x) (.int 3) H2 λu3 H3=>∃k,u3=V.bl k/\if k=true then A3 H3 else rEqD K false (.int x) (.int 4) H3 λu4 H4=>∃k,u4=V.bl k/\if k=true then A4 H4 else rEqD K false (.int x) (.int 5) H4 λu5 H5=>∃k,u5=V.bl k/\if k=true then A5 H5 else rEqD K false (.int x) (.int 6) H5 λu6 H6=>∃k,u6=V.bl k/\if k=true then A6 H6 else A7 H6:=
 h _ (λe a=>go9 e a) (λe a=>sk9 (by rw[e];decide) (go9 e a)) (λe a=>sk9 (by rw[e];decide) (sk9 (by rw[e];decide) (go9 e a))) (λe a=>sk9 (by rw[e];decide) (sk9 (by rw[e];decide) (sk9 (by rw[e];decide) (go9 e a)))) (λe a=>sk9 (by rw[e];decide) (sk9 (by rw[e];decide) (sk9 (by rw[e];decide) (sk9 (by rw[e];decide) (go9 e a))))) (λe a=>sk9 (by rw[e];decide) (sk9 (by rw[e];decide) (sk9 (by rw[e];decide) (sk9 (by rw[e];decide) (sk9 (by rw[e];decide) (go9 e a)))))) (λe a=>sk9 (by rw[e];decide) (sk9 (by rw[e];decide) (sk9 (by rw[e];decide) (sk9 (by rw[e];decide) (sk9 (by rw[e];decide) (sk9 (by rw[e];decide) (go9 e a))))))) (λe a=>sk9 (by rw[e];decide) (sk9 (by rw[e];decide) (sk9 (by rw[e];decide) (sk9 (by rw[e];decide) (sk9 (by rw[e];decide) (sk9 (by rw[e];decide) (sk9 (by rw[e];decide) (a))))))))
theorem Zdu {C T:Hp->Prop}{R:Prop}(h1:(∀H,C H->T H)->R)(h2:∀H,C H->T H):R:=h1 h2
theorem Zbx (st:StripAt C H q la da l m ds)(k:KeepB dA H H')(d:H dA=some (.dK kvs)):StripAt C H' q la da l m ds:=by
 obtain⟨⟨_,_,x1⟩,⟨_,x2⟩,_,x3⟩:=Zaw st;have nd:∀ {b o},H b=some o->(∀kvs,o≠.dK kvs)->b∉[dA]:=λe n z=>by rw[YAG.mp z,d]at e;exact n _ (Option.some.inj e).symm
 exact st.chg k.chg (λb hb us z=>by rw[YAG.mp hb,d]at z;cases z) (nd x1 λ_ z=>by cases z) (nd x2 λ_ z=>by cases z) (nd x3 λ_ z=>by cases z)
theorem Zkv {F:List Kp}{r:Kp}(nf:∀x∈F,x.n≠r.n):((F++[r]).filter λx=>decide (x.n≠r.n))=F:=by rw[YCt,YDL.mpr λx hx=>decide_eq_true (nf x hx)];simp
theorem TxD.l (h:TxD H pT F)(s:SameL H H'):TxD H' pT F:=let ⟨F',pm,e⟩:=h;⟨F',pm,s _ _ e rfl⟩
theorem TxD.keep (h:TxD H pT F)(k:KeepB dA H H')(n:pT≠dA):TxD H' pT F:=let ⟨F',pm,e⟩:=h;⟨F',pm,k _ _ e n⟩
theorem Zc4 (h:DeedsA H ts ds)(s:Same H H'):DeedsA H' ts ds:=h.chg (S:=[]) s.chg (by simp)
theorem Zj4 {F:List Kp}(nd:(F.map (·.n)).Nodup){r:Kp}(hr:r∈F)(r2:Kp):(F.map λx=>if x.n=r.n then r2 else x).Perm ((F.filter λx=>decide (x.n≠r.n))++[r2]):=by
 induction F with
 | nil=>cases hr
 | cons s F ih=>
  rw[YAc,YBw]at nd;rw[YAc];by_cases e:s.n=r.n
  .have oth:∀x∈F,x.n≠r.n:=λx hx z=>nd.1 (by rw[e,<-z];exact YBE hx);have e1:(F.map λx=>if x.n=r.n then r2 else x)=F:=by
    conv=>rhs;rw[<-List.map_id F]
    exact YBx λx hx=>YAI (oth x hx)
   have e2:((s::F).filter λx=>decide (x.n≠r.n))=F:=by rw[List.filter_cons,YAI (by simp[e]),YDL.mpr λx hx=>decide_eq_true (oth x hx)]
   rw[YAM e,e1,e2];exact(List.perm_append_singleton r2 F).symm
  .have hr':r∈F:=(YAE.mp hr).resolve_left λz=>e (by rw[z]);rw[YAI e,List.filter_cons,YAM (decide_eq_true e),YCk];exact(ih nd.2 hr').cons s
theorem TxD.back (h:TxD H pT F)(sh:ShelfAt a H0 p dA m F)(hr:r∈F)(en:r2.n=r.n)(el:r2.l=r.l):TxD H pT ((F.filter λx=>decide (x.n≠r.n))++[r2]):=by
 obtain⟨F',pm,e⟩:=h;refine⟨F'.map λx=>if x.n=r.n then r2 else x,(pm.map _).trans (Zj4 sh.nd hr r2),?_⟩;rw[e,YAu];congr 2;refine YBx λx hx=>?_;show _=(kTx (if x.n=r.n then r2 else x).n,tx (if x.n=r.n then r2 else x).l);by_cases z:x.n=r.n
 .rw[YAM z,sh.one (pm.mem_iff.mp hx) hr z,en,el]
 .rw[YAI z]
def Ap (F:List Kp)(p2 la2 da2:AD):Prop:=∀s∈F,s.p≠p2/\s.la≠la2/\s.la≠da2/\s.da≠la2/\s.da≠da2
theorem ZiE (st:StripAt C H p2 la2 da2 l m ds):∀b∈[p2,da2],∀us,H b≠some (.tup us):=λb hb us z=>by
 obtain⟨⟨_,_,x1⟩,_,_,x3⟩:=Zaw st;rcases YAE.mp hb with y | y
 .rw[y,x1]at z;cases z
 .rw[YAG.mp y,x3]at z;cases z
theorem ZgI (hp:ShelfAt a H p dA m F)(hr:r∈F)(st:StripAt a.c_LY H p2 la2 da2 l m ds)(ap:Ap F p2 la2 da2)(c:Chg [r.p,r.da] H H2)(nl:Nw H la3):StripAt a.c_LY H2 p2 la2 da2 l m ds/\Ap (F.map (Zbl r.n la3 l3 ds3)) p2 la2 da2:=by
 obtain⟨⟨_,_,x1⟩,⟨_,x2⟩,_,x3⟩:=Zaw st;obtain⟨⟨_,_,y1⟩,⟨_,y2⟩,_,y3⟩:=Zaw (hp.str r hr);obtain⟨a1,a2,a3,a4,a5⟩:=ap r hr;refine⟨st.chg c (ZiE (hp.str r hr)) ?_ ?_ ?_,λs hs=>?_⟩
 .simp only[YAE,YAT,or_false,not_or];exact⟨YAh a1,λz=>(by rw[z,y3]at x1;cases x1)⟩
 .simp only[YAE,YAT,or_false,not_or];exact⟨λz=>(by rw[z,y1]at x2;cases x2),YAh a4⟩
 .simp only[YAE,YAT,or_false,not_or];exact⟨λz=>(by rw[z,y1]at x3;cases x3),YAh a5⟩
 .obtain⟨u,hu,rfl⟩:=YAt.mp hs;obtain⟨b1,b2,b3,b4,b5⟩:=ap u hu;unfold Zbl;split
  .exact⟨b1,YAh (nl.ne x2 rfl),YAh (nl.ne x3 rfl),b4,b5⟩
  .exact⟨b1,b2,b3,b4,b5⟩
theorem Zfa (hp:ShelfAt a H2 p dA m F)(ap:Ap F p2 la2 da2)(st:StripAt a.c_LY H2 p2 la2 da2 l m ds)(c:Chg [p2,da2] H2 H3)(nl:Nw H2 la4):ShelfAt a H3 p dA m F/\Ap F p2 la4 da2:=by
 obtain⟨⟨_,_,x1⟩,⟨_,x2⟩,_,x3⟩:=Zaw st;obtain⟨o1,o2⟩:=hp.out x3;refine⟨hp.chg c (ZiE st) ?_ ?_ λs hs=>?_,λs hs=>?_⟩
 .simp only[YAE,YAT,or_false,not_or];exact⟨hp.pne st,o1⟩
 .simp only[YAE,YAT,or_false,not_or];exact⟨λz=>(by have d:=hp.dct;rw[z,x1]at d;cases d),o2⟩
 .obtain⟨⟨_,_,z1⟩,⟨_,z2⟩,_,z3⟩:=Zaw (hp.str s hs);obtain⟨b1,b2,b3,b4,b5⟩:=ap s hs;simp only[YAE,YAT,or_false,not_or];exact⟨⟨b1,λz=>(by rw[z,x3]at z1;cases z1)⟩,⟨λz=>(by rw[z,x1]at z2;cases z2),b3⟩,⟨λz=>(by rw[z,x1]at z3;cases z3),b5⟩⟩
 .obtain⟨_,⟨_,z2⟩,_,z3⟩:=Zaw (hp.str s hs);obtain⟨b1,b2,b3,b4,b5⟩:=ap s hs;exact⟨b1,nl.ne z2 rfl,b3,nl.ne z3 rfl,b5⟩
theorem Zfd (st:StripAt C H p2 la2 da2 l m ds)(st2:StripAt C H2 p2 la2 da2 l m ds)(an:AnsS H H2 t c g la rc rg)(an2:AnsS H2 H3 t2 c2 g2 la' rc rg)(ch:Chg [p2,da2] H2 H3)(f1:Zgb rc)(f2:Zgb rg)(q:Q (.bl false) H3):rEqD K true (.ref t) (.ref t2) H3 Q:=by
 obtain⟨⟨_,_,x1⟩,⟨_,x2⟩,_,x3⟩:=Zaw st;obtain⟨⟨_,_,y1⟩,⟨_,y2⟩,_,y3⟩:=Zaw st2;have hS:=ZiE st2;have out:∀ {b:AD},Nw H b->b∉[p2,da2]:=λn=>by simp only[YAE,YAT,or_false,not_or];exact⟨YAh (n.ne x1 rfl),YAh (n.ne x3 rfl)⟩
 obtain⟨ys,hc,rw1⟩:=an.came;obtain⟨zs,hg,rw2⟩:=an.went;obtain⟨ys2,hc2,rw3⟩:=an2.came;obtain⟨zs2,hg2,rw4⟩:=an2.went;refine .inr ⟨_,_,ZjK (ch _ _ an.tup (λz=>hS _ z _ an.tup) rfl) (.mk (ch _ _ hc (out an.nc) rfl)) (.mk (ch _ _ hg (out an.ng) rfl)) (rw1.chg ch hS) (rw2.chg ch hS) f1 f2,ZjK an2.tup (.mk hc2) (.mk hg2) rw3 rw4 f1 f2,λz=>YAC z.1,ZmI _ _,?_⟩;rw[YAM rfl,ZoD f1 f2];exact q
theorem Zh3 (Pv:Nat->St->Hp->Prop)(n:Nat)(h0:Pv n U H)
  (hs:∀m U H,Pv m U H->∃b:Bool,(∀Q:Bool->Hp->Prop,(∀H1,Same H H1->Q b H1)->c U H Q)/\∀H1,Same H H1->if b=true then tb { D with nx:=λU' H'=>∃m',m'<m/\Pv m' U' H',ct:=λU' H'=>∃m',m'<m/\Pv m' U' H',bk:=D.nx } U H1 else D.nx U H1):WhileRun c tb D U H:=by
 refine⟨Pv,⟨n,h0⟩,?_⟩;rintro m U H p;obtain⟨b,hc,hb⟩:=hs m U H p;refine hc _ λH1 s1=>?_;have q:=hb H1 s1;cases b with
 | true=>exact⟨_,λU' H' ⟨m',l,p'⟩=>⟨m',l,p'⟩,q⟩
 | false=>exact q
theorem ZiQ (h1:H x=some (.lst xs))(h2:DeedsA H xs ds)(h3:H y=some (.lst []))(q:Q (.bl (decide (ds≠[]))) H):rEqD K true (.ref x) (.ref y) H Q:=
 .inr ⟨_,_,Zd1 (.mk h1) h2,datL (vs:=[]) (.mk h3) rfl,λz=>YAC z.1,YAK (Zf0 ds) (by decide),by
  rw[YAM rfl];cases ds with
  | nil=>exact q
  | cons d ds=>exact q⟩
theorem ZlO (h:Run m ds l)(e:ds=[]):l=[]:=by
 cases h with
 | nil=>rfl
 | put h _ _=>simp at e
 | drop h=>simp at e
theorem Zjp (d:α)(P:α->Bool)(g:α->β)(l:List α):((List.range l.length).filter λi=>P (l.getD i d)).map (λi=>g (l.getD i d))=(l.filter P).map g:=by
 have e:l=(List.range l.length).map λi=>l.getD i d:=by apply YCQ (by simp);intro i h1 h2;simp[YAY,h1]
 conv=>rhs;rw[e]
 rw[List.filter_map,YAu];rfl
theorem ZhO (nd:F.Nodup)(sub:∀x∈F,x∈LET)(h1:1<=F.length)(h4:F.length<=4)(hc:c∈F)(hm:c∉m):KOk (ZaV (signs F)).flatten/\(ZaV (signs F)).flatten≠m:=by obtain⟨a,b⟩:=ZhQ nd sub h1 h4;refine⟨⟨a,by omega,by omega⟩,λe=>hm ?_⟩;rw[<-e,List.mem_flatten];refine⟨[c],(ZaI _).mem_iff.mpr ?_,by simp⟩;unfold signs;exact YAt.mpr ⟨c,hc,rfl⟩
theorem KOk.let (h:KOk m):∀c∈m,c∈LET:=λc hc=>by have hk:=h.k;unfold isk at hk;simp only[YAP]at hk;have:=YBD.mp hk.1.2 c hc;simpa using this
theorem Zfo {m:Q11}(h:m.length<=4):([97,122,98,121,99]:Q11).filter (λc=>!decide (c∈m))≠[]:=by
 intro e;have all:∀c∈([97,122,98,121,99]:Q11),c∈m:=λc hc=>by have:=List.filter_eq_nil_iff.mp e c hc;simpa using this
 have:=ZdJ _ m (by decide) all;simp at this;omega
theorem Zij (F:Q11):((ZaV (signs F)).map List.length).sum=F.length:=by
 rw[((ZaI (signs F)).map _).sum_nat];unfold signs;rw[YAu];induction F with
 | nil=>rfl
 | cons x F ih=>rw[YAc,List.sum_cons,ih,YAl];simp;omega
theorem ZkS (h:SqL K H a xs)(c:Chg S H H')(n:∀ys,H a=some (.lst ys)->a∉S)(n2:∀o ys,H a=some (.frz o (.lst ys))->a∉S):SqL K H' a xs:=by
 rcases h with h | h
 .rcases h with h | ⟨o,h⟩
  .exact .inl (.inl (c _ _ h (n _ h) rfl))
  .exact .inl (.inr ⟨o,c _ _ h (n2 _ _ h) rfl⟩)
 .exact .inr h
theorem Zg6 {N:Q22}{i:Nat}{n:Q11}(nd:N.Nodup)(h:N[i]?=some n):n∉N.take i:=λhm=>by obtain⟨j,hj,e⟩:=YCN hm;rw[YAa]at hj;rw[List.getElem_take]at e;obtain⟨hi,e2⟩:=YAj.mp h;have:=(List.getElem_inj nd).mp (e.trans e2.symm);omega
theorem ZoH {F:List Kp}{n:Q11}(h:∀r∈F,r.n≠n):valV (F.map λr=>(kTx r.n,tx r.l)) (kTx n)=none:=by
 induction F with
 | nil=>rfl
 | cons r F ih=>
  rw[YAc,ZaW (λe=>h r (by simp) (Zcd e))];exact ih λs hs=>h s (by simp[hs])
inductive sp_LC (K:Q4) (a:Ad) (vs:List V) (H:Hp) (Q:VK) (E:XK):Prop
 | mk:∀l m,(vs=[tx l,tx m])->(l.length<=1000)->(∀H2,Same H H2->Q (.bl (l.all λc=>m.contains c)) H2)->sp_LC K a vs H Q E
inductive sp_LE (K:Q4) (a:Ad) (vs:List V) (H:Hp) (Q:VK) (E:XK):Prop
 | mk:∀v,(vs=[v])->(((∃l,v=tx l/\l.length<=1000/\∀H2,Same H H2->Q (.bl (isk l)) H2)\/(Oth K H v/\Q (.bl false) H)))->sp_LE K a vs H Q E
inductive sp_LH (K:Q4) (a:Ad) (vs:List V) (H:Hp) (Q:VK) (E:XK):Prop
 | mk:∀v m most,(vs=[v,tx m,.int most])->(((∃l,v=tx l/\l.length<=1000/\∀H2,Same H H2->Q (.bl (isw l m most)) H2)\/(Oth K H v/\Q (.bl false) H)))->sp_LH K a vs H Q E
inductive sp_K0 (K:Q4) (a:Ad) (vs:List V) (H:Hp) (Q:VK) (E:XK):Prop
 | mk:∀v,(vs=[v])->(((∃l,v=tx l/\l.length<=1000/\isk l=true/\∀H2,Same H H2->Q .non H2)\/(BadK K H v/\XNk a E H)))->sp_K0 K a vs H Q E
inductive sp_K9 (K:Q4) (a:Ad) (vs:List V) (H:Hp) (Q:VK) (E:XK):Prop
 | mk:∀v m,(vs=[v,tx m])->(((∃l,v=tx l/\l.length<=1000/\∀H2,Same H H2->Q (.bl (isl l m)) H2)\/(Oth K H v/\Q (.bl false) H)))->sp_K9 K a vs H Q E
inductive sp_KM (K:Q4) (a:Ad) (vs:List V) (H:Hp) (Q:VK) (E:XK):Prop
 | mk:∀v m,(vs=[v,tx m])->(((∃l,v=tx l/\l.length<=1000/\isl l m=true/\∀H2,Same H H2->Q .non H2)\/(BadL K H v m/\XNw a E H v)))->sp_KM K a vs H Q E
inductive sp_LD (K:Q4) (a:Ad) (vs:List V) (H:Hp) (Q:VK) (E:XK):Prop
 | mk:∀(p:AD) (ws:Q22),(vs=[.ref p])->(H p=some (.lst (ws.map tx)))->((∀w∈ws,w.length<=1000))->(TblOk H a.t_LD lpos lq)->(∀(ws':Q22) (r:AD) (H2:Hp),ws'.Perm ws->ws'.Pairwise (λa b=>¬BefW b a)->SameL H H2->TblOk H2 a.t_LD lpos lq->H r=none->H2 r=some (.lst (ws'.map tx))->Q (.ref r) H2)->sp_LD K a vs H Q E
inductive sp_L0 (K:Q4) (a:Ad) (vs:List V) (H:Hp) (Q:VK) (E:XK):Prop
 | mk:∀(l x:Q11),(vs=[tx l,tx x])->(l.length<=1000)->(x.length<=1000)->(Q (.bl (Zi4 l x)) H)->sp_L0 K a vs H Q E
inductive sp_LZ (K:Q4) (a:Ad) (vs:List V) (H:Hp) (Q:VK) (E:XK):Prop
 | mk:∀(s L:Q11),(vs=[tx s,tx L])->(L.length<=41)->(Ext s L)->(TblOk H a.t_LD lpos lq)->(∀(F:Q22) (r:AD) (H2:Hp),F.Pairwise BefW->(∀w,w∈F↔Frs s L w)->SameL H H2->TblOk H2 a.t_LD lpos lq->Nw H r->H2 r=some (.lst (F.map tx))->Q (.ref r) H2)->sp_LZ K a vs H Q E
inductive sp_LR (K:Q4) (a:Ad) (vs:List V) (H:Hp) (Q:VK) (E:XK):Prop
 | mk:∀(s L rs m:Q11),(vs=[tx s,tx L,tx rs])->(L.length<=41)->(Ext s L)->((∀x∈L,x∈m))->(m.Pairwise (· < ·))->(TblOk H a.t_LD lpos lq)->(∀(ys:List V) (r:AD) (H2:Hp),SameL H H2->TblOk H2 a.t_LD lpos lq->Nw H r->H2 r=some (.lst ys)->RowsA H2 ys (Zb2 rs s L m)->Q (.ref r) H2)->sp_LR K a vs H Q E
inductive sp_LV (K:Q4) (a:Ad) (vs:List V) (H:Hp) (Q:VK) (E:XK):Prop
 | mk:∀(s L rs m:Q11),(vs=[tx s,tx L,tx m,tx rs])->(L.length<=41)->(Ext s L)->((∀x∈L,x∈m))->(m.Pairwise (· < ·))->(m.length<=4)->(TblOk H a.t_LD lpos lq)->(∀(ys:List V) (r:AD) (H2:Hp),SameL H H2->TblOk H2 a.t_LD lpos lq->Nw H r->H2 r=some (.lst ys)->RowsA H2 ys (ZbT rs s L m)->Q (.ref r) H2)->sp_LV K a vs H Q E
inductive sp_K3 (K:Q4) (a:Ad) (vs:List V) (H:Hp) (Q:VK) (E:XK):Prop
 | mk:∀(p la da:AD) (l m:Q11) (ds:List (Bool×Nat)),(vs=[.ref p])->(StripAt a.c_LY H p la da l m ds)->(Q (tx l) H)->sp_K3 K a vs H Q E
inductive sp_KL (K:Q4) (a:Ad) (vs:List V) (H:Hp) (Q:VK) (E:XK):Prop
 | mk:∀(p la da:AD) (l m:Q11) (ds:List (Bool×Nat)),(vs=[.ref p])->(StripAt a.c_LY H p la da l m ds)->(∀r ts,H r=none->DeedsA H ts ds->Q (.ref r) (upd H r (.lst ts)))->sp_KL K a vs H Q E
inductive sp_KF (K:Q4) (a:Ad) (vs:List V) (H:Hp) (Q:VK) (E:XK):Prop
 | mk:∀(p la da c g:AD) (l l2 m:Q11) (old new:Q22) (ys zs:List V) (rc rg:List (Q11×List V)),(vs=[.ref p,tx l2,.ref c,.ref g])->(Zdg a.c_LY H p la da l m)->(H la=some (.lst (old.map tx)))->(H c=some (.lst ys))->(RowsA H ys rc)->(H g=some (.lst zs))->(RowsA H zs rg)->(old.Pairwise BefW)->(new.Pairwise BefW)->((rc.map (·.1)).Nodup)->((∀w,w∈rc.map (·.1)↔w∈new/\w∉old))->((∀w,w∈rg.map (·.1)↔w∈old/\w∉new))->(old.length<=9000)->(rc.length<=9000)->(rg.length<=9000)->((∀w∈old,w.length<=1000))->((∀w∈new,w.length<=1000))->(TblOk H a.t_LD lpos lq)->(∀(t la2:AD) (H2:Hp),Chg [p] H H2->Zdg a.c_LY H2 p la2 da l2 m->Nw H la2->H2 la2=some (.lst (new.map tx))->H2 t=some (.tup [.ref c,.ref g])->TblOk H2 a.t_LD lpos lq->Q (.ref t) H2)->sp_KF K a vs H Q E
inductive sp_KY (K:Q4) (a:Ad) (vs:List V) (H:Hp) (Q:VK) (E:XK):Prop
 | mk:∀(p la da:AD) (s L m:Q11),(vs=[.ref p,tx L])->(Zdg a.c_LY H p la da s m)->(H la=some (.lst ((ZaK s m).map tx)))->(L.length<=40)->(Ext s L)->((∀x∈L,x∈m))->(KindsOk m)->(TblOk H a.t_LD lpos lq)->(∀(t c g la2:AD) (H2:Hp),Chg [p] H H2->Zdg a.c_LY H2 p la2 da L m->H2 la2=some (.lst ((ZaK L m).map tx))->AnsS H H2 t c g la2 (ZbT [102,105,114,115,116] s L m) (Zb2 [115,116,97,110,100,115] s L m)->TblOk H2 a.t_LD lpos lq->Q (.ref t) H2)->sp_KY K a vs H Q E
inductive sp_KH (K:Q4) (a:Ad) (vs:List V) (H:Hp) (Q:VK) (E:XK):Prop
 | mk:∀(p la da:AD) (s L m:Q11),(vs=[.ref p,tx s])->(Zdg a.c_LY H p la da L m)->(H la=some (.lst ((ZaK L m).map tx)))->(L.length<=40)->(Ext s L)->((∀x∈L,x∈m))->(KindsOk m)->(TblOk H a.t_LD lpos lq)->(∀(t c g la2:AD) (H2:Hp),Chg [p] H H2->Zdg a.c_LY H2 p la2 da s m->H2 la2=some (.lst ((ZaK s m).map tx))->AnsS H H2 t c g la2 (Zb2 [115,116,111,111,100] s L m) (ZbT [108,97,115,116] s L m)->TblOk H2 a.t_LD lpos lq->Q (.ref t) H2)->sp_KH K a vs H Q E
inductive sp_K8 (K:Q4) (a:Ad) (vs:List V) (H:Hp) (Q:VK) (E:XK):Prop
 | mk:∀(p la da:AD) (l m:Q11) (ds:List (Bool×Nat)) (v:V),(vs=[.ref p,v])->(StripAt a.c_LY H p la da l m ds)->(ds.length<=9000)->(TblOk H a.t_LD lpos lq)->(((∃c0,v=tx [c0]/\c0∈m/\l.length<40/\∀(t c g la2:AD) (H2:Hp),Chg [p,da] H H2->StripAt a.c_LY H2 p la2 da (l++[c0]) m (ds++[(true,c0)])->AnsS H H2 t c g la2 (ZbT [102,105,114,115,116] l (l++[c0]) m) (Zb2 [115,116,97,110,100,115] l (l++[c0]) m)->TblOk H2 a.t_LD lpos lq->Q (.ref t) H2)\/(BadL K H v m/\XNw a E H v)\/(∃c0,v=tx [c0]/\c0∈m/\l.length=40/\XN0 a.c_L8 E H)))->sp_K8 K a vs H Q E
inductive sp_KX (K:Q4) (a:Ad) (vs:List V) (H:Hp) (Q:VK) (E:XK):Prop
 | mk:∀(p la da:AD) (l m:Q11) (ds:List (Bool×Nat)),(vs=[.ref p])->(StripAt a.c_LY H p la da l m ds)->(ds.length<=9000)->(TblOk H a.t_LD lpos lq)->(((∃c0 l0,l=c0::l0/\∀(t c g la2:AD) (H2:Hp),Chg [p,da] H H2->StripAt a.c_LY H2 p la2 da l0 m (ds++[(false,c0)])->AnsS H H2 t c g la2 (Zb2 [115,116,111,111,100] l0 (c0::l0) m) (ZbT [108,97,115,116] l0 (c0::l0) m)->TblOk H2 a.t_LD lpos lq->Q (.ref t) H2)\/(l=[]/\XN0 a.c_L7 E H)))->sp_KX K a vs H Q E
inductive sp_KW (K:Q4) (a:Ad) (vs:List V) (H:Hp) (Q:VK) (E:XK):Prop
 | mk:∀(p la da:AD) (l m:Q11) (ds:List (Bool×Nat)),(vs=[.ref p])->(StripAt a.c_LY H p la da l m ds)->(ds.length<=9000)->(TblOk H a.t_LD lpos lq)->(((∃ds0 c0 l0,ds=ds0++[(true,c0)]/\l=l0++[c0]/\∀(t c g la2:AD) (H2:Hp),Chg [p,da] H H2->StripAt a.c_LY H2 p la2 da l0 m ds0->AnsS H H2 t c g la2 (Zb2 [115,116,111,111,100] l0 (l0++[c0]) m) (ZbT [108,97,115,116] l0 (l0++[c0]) m)->TblOk H2 a.t_LD lpos lq->Q (.ref t) H2)\/(∃ds0 c0,ds=ds0++[(false,c0)]/\∀(t c g la2:AD) (H2:Hp),Chg [p,da] H H2->StripAt a.c_LY H2 p la2 da (c0::l) m ds0->AnsS H H2 t c g la2 (ZbT [102,105,114,115,116] l (c0::l) m) (Zb2 [115,116,97,110,100,115] l (c0::l) m)->TblOk H2 a.t_LD lpos lq->Q (.ref t) H2)\/(ds=[]/\XN0 a.c_LM E H)))->sp_KW K a vs H Q E
inductive sp_KG (K:Q4) (a:Ad) (vs:List V) (H:Hp) (Q:VK) (E:XK):Prop
 | mk:∀(p la da:AD) (l m:Q11) (ds:List (Bool×Nat)),(vs=[.ref p])->(StripAt a.c_LY H p la da l m ds)->(∀(p2 la2 da2:AD) (H2:Hp),Same H H2->StripAt a.c_LY H2 p2 la2 da2 l m ds->H p2=none->H la2=none->H da2=none->Q (.ref p2) H2)->sp_KG K a vs H Q E
inductive sp_LA (K:Q4) (a:Ad) (vs:List V) (H:Hp) (Q:VK) (E:XK):Prop
 | mk:∀l m most,(vs=[tx l,tx m,.int most])->(l.length<=1000)->(isw l m most=true)->(∀H2,Same H H2->Q .non H2)->sp_LA K a vs H Q E
inductive sp_K2 (K:Q4) (a:Ad) (vs:List V) (H:Hp) (Q:VK) (E:XK):Prop
 | mk:∀(p dx C:AD) (l m:Q11),(vs=[.ref p,tx l,tx m])->((C=a.c_LW\/C=a.c_LY))->(H p=some (.ins C dx []))->(∀H2,H2 p=some (.ins C dx (putF "own_kinds" (tx m) (putF "own_text" (tx l) [])))->(∀b o,H b=some o->b≠p->H2 b=some o)->Q .non H2)->sp_K2 K a vs H Q E
inductive sp_KZ (K:Q4) (a:Ad) (vs:List V) (H:Hp) (Q:VK) (E:XK):Prop
 | mk:∀(p dx:AD) (m:Q11),(vs=[.ref p,tx m])->(H p=some (.ins a.c_LY dx []))->(KOk m)->(∀la da H2,StripAt a.c_LY H2 p la da [] m []->H la=none->H da=none->(∀b o,H b=some o->b≠p->H2 b=some o)->Q .non H2)->sp_KZ K a vs H Q E
inductive sp_KQ (K:Q4) (a:Ad) (vs:List V) (H:Hp) (Q:VK) (E:XK):Prop
 | mk:∀(p dx:AD) (l m:Q11),(vs=[.ref p,tx l,tx m])->(H p=some (.ins a.c_LW dx []))->(StripOk l m)->(∀H2,RingAt a.c_LW H2 p l m->(∀b o,H b=some o->b≠p->H2 b=some o)->Q .non H2)->sp_KQ K a vs H Q E
inductive sp_KN (K:Q4) (a:Ad) (vs:List V) (H:Hp) (Q:VK) (E:XK):Prop
 | mk:∀(p:AD) (l m:Q11),(vs=[.ref p])->(BandA a H p l m)->(Q (tx m) H)->sp_KN K a vs H Q E
inductive sp_L1 (K:Q4) (a:Ad) (vs:List V) (H:Hp) (Q:VK) (E:XK):Prop
 | mk:∀(b:AD) (ns:List Int) (k:Int),(vs=[.ref b,.int k])->(SqL K H b (ns.map V.int))->(0<=k)->(k<=1000)->(∀r:Int,Q (.int r) H)->sp_L1 K a vs H Q E
inductive sp_L3 (K:Q4) (a:Ad) (vs:List V) (H:Hp) (Q:VK) (E:XK):Prop
 | mk:∀c k,(vs=[.int c,.int k])->(∀r:Int,0<=r->Q (.int r) H)->sp_L3 K a vs H Q E
inductive sp_LS (K:Q4) (a:Ad) (vs:List V) (H:Hp) (Q:VK) (E:XK):Prop
 | mk:∀c,(vs=[.int c])->(∀m,isk m=true->1<=m.length->m.length<=4->Q (tx m) H)->sp_LS K a vs H Q E
inductive sp_LI (K:Q4) (a:Ad) (vs:List V) (H:Hp) (Q:VK) (E:XK):Prop
 | mk:∀(w c:Int) (m:Q11) (n:Nat),(vs=[.int w,.int c,tx m,.int n])->(1<=m.length)->(m.length<=4)->(n<=60)->(∀(l:Q11) H2,l.length=n->(∀x∈l,x∈m)->Same H H2->Q (tx l) H2)->sp_LI K a vs H Q E
inductive sp_K1 (K:Q4) (a:Ad) (vs:List V) (H:Hp) (Q:VK) (E:XK):Prop
 | mk:∀(p q dA:AD) (l m m2:Q11) (F:List Kp),(vs=[.ref p,.ref q])->(ShelfAt a H p dA m F)->(BandA a H q l m2)->(((m=m2/\Q .non H)\/(m≠m2/\XN0 a.c_LP E H)))->sp_K1 K a vs H Q E
inductive sp_LG (K:Q4) (a:Ad) (vs:List V) (H:Hp) (Q:VK) (E:XK):Prop
 | mk:∀v,(vs=[v])->(((∃n,v=tx n/\n.length<=1000/\∀H2,Same H H2->Q (.bl (isn n)) H2)\/(Oth K H v/\Q (.bl false) H)))->sp_LG K a vs H Q E
inductive sp_KT (K:Q4) (a:Ad) (vs:List V) (H:Hp) (Q:VK) (E:XK):Prop
 | mk:∀(p dx:AD) (u:V),(vs=[.ref p,u])->(H p=some (.ins a.c_LX dx []))->(((∃m,u=tx m/\KOk m/\∀dA H2,ShelfAt a H2 p dA m []->H dA=none->(∀b o,H b=some o->b≠p->H2 b=some o)->Q .non H2)\/(BadK K H u/\XNk a E H)))->sp_KT K a vs H Q E
inductive sp_KI (K:Q4) (a:Ad) (vs:List V) (H:Hp) (Q:VK) (E:XK):Prop
 | mk:∀(p dA:AD) (m:Q11) (F:List Kp),(vs=[.ref p])->(ShelfAt a H p dA m F)->(Q (tx m) H)->sp_KI K a vs H Q E
inductive sp_KA (K:Q4) (a:Ad) (vs:List V) (H:Hp) (Q:VK) (E:XK):Prop
 | mk:∀(p dA:AD) (m:Q11) (F:List Kp) (v:V),(vs=[.ref p,v])->(ShelfAt a H p dA m F)->(((∃n,v=tx n/\n.length<=1000/\isn n=true/\(∀r∈F,r.n≠n)/\∀H2,Same H H2->Q .non H2)\/(BadN K H v/\XNn a E H v)\/(∃r∈F,v=tx r.n/\XNt a E H v)))->sp_KA K a vs H Q E
inductive sp_K6 (K:Q4) (a:Ad) (vs:List V) (H:Hp) (Q:VK) (E:XK):Prop
 | mk:∀(p dA q la da:AD) (l m m2:Q11) (ds:List (Bool×Nat)) (F:List Kp) (v:V),(vs=[.ref p,v,.ref q])->(ShelfAt a H p dA m F)->(StripAt a.c_LY H q la da l m2 ds)->(((∃n,v=tx n/\n.length<=1000/\isn n=true/\(∀r∈F,r.n≠n)/\m=m2/\F.length<=1000/\∀(r:Kp) (H2:Hp),r.n=n->r.l=l->r.ds=ds->H r.p=none->H r.la=none->H r.da=none->KeepB dA H H2->ShelfAt a H2 p dA m (F++[r])->Q .non H2)\/(∃n,v=tx n/\n.length<=1000/\isn n=true/\(∀r∈F,r.n≠n)/\m≠m2/\XN0 a.c_LP E H)\/(BadN K H v/\XNn a E H v)\/(∃r∈F,v=tx r.n/\XNt a E H v)))->sp_K6 K a vs H Q E
inductive sp_KJ (K:Q4) (a:Ad) (vs:List V) (H:Hp) (Q:VK) (E:XK):Prop
 | mk:∀(p dA:AD) (m:Q11) (F:List Kp),(vs=[.ref p])->(ShelfAt a H p dA m F)->(F.length<=1000)->(∀r H2,Same H H2->H r=none->H2 r=some (.lst ((ZaV (F.map (·.n))).map tx))->Q (.ref r) H2)->sp_KJ K a vs H Q E
inductive sp_KU (K:Q4) (a:Ad) (vs:List V) (H:Hp) (Q:VK) (E:XK):Prop
 | mk:∀(p dA:AD) (m:Q11) (F:List Kp) (v:V),(vs=[.ref p,v])->(ShelfAt a H p dA m F)->(((∃r∈F,v=tx r.n/\∀H2,Same H H2->Q (.ref r.p) H2)\/(NoNm K H v F/\XNn a E H v)))->sp_KU K a vs H Q E
inductive sp_KK (K:Q4) (a:Ad) (vs:List V) (H:Hp) (Q:VK) (E:XK):Prop
 | mk:∀(p dA:AD) (m:Q11) (F:List Kp) (v:V),(vs=[.ref p,v])->(ShelfAt a H p dA m F)->(((∃r∈F,v=tx r.n/\∀(p2 la2 da2:AD) (H2:Hp),Same H H2->StripAt a.c_LY H2 p2 la2 da2 r.l m r.ds->H p2=none->H la2=none->H da2=none->Q (.ref p2) H2)\/(NoNm K H v F/\XNn a E H v)))->sp_KK K a vs H Q E
inductive sp_KV (K:Q4) (a:Ad) (vs:List V) (H:Hp) (Q:VK) (E:XK):Prop
 | mk:∀(p dA:AD) (m:Q11) (F:List Kp) (v:V),(vs=[.ref p,v])->(ShelfAt a H p dA m F)->(((∃r∈F,v=tx r.n/\∀H2,KeepB dA H H2->ShelfAt a H2 p dA m (F.filter λx=>decide (x.n≠r.n))->Q (.ref r.p) H2)\/(NoNm K H v F/\XNn a E H v)))->sp_KV K a vs H Q E
inductive sp_K7 (K:Q4) (a:Ad) (vs:List V) (H:Hp) (Q:VK) (E:XK):Prop
 | mk:∀(p dA:AD) (m:Q11) (F:List Kp) (v u:V),(vs=[.ref p,v,u])->(ShelfAt a H p dA m F)->(TblOk H a.t_LD lpos lq)->(((∃r∈F,v=tx r.n/\r.ds.length<=9000/\((BadL K H u m/\XNw a E H u)\/(∃c0,u=tx [c0]/\c0∈m/\r.l.length=40/\XN0 a.c_L8 E H)))\/(NoNm K H v F/\XNn a E H v)))->sp_K7 K a vs H Q E
inductive sp_KS (K:Q4) (a:Ad) (vs:List V) (H:Hp) (Q:VK) (E:XK):Prop
 | mk:∀(p dA:AD) (m:Q11) (F:List Kp) (v:V),(vs=[.ref p,v])->(ShelfAt a H p dA m F)->(TblOk H a.t_LD lpos lq)->(((∃r∈F,v=tx r.n/\r.ds.length<=9000/\((∃c0 l0,r.l=c0::l0/\∀(t c g la2:AD) (H2:Hp),Chg [r.p,r.da] H H2->ShelfAt a H2 p dA m (F.map (Zbl r.n la2 l0 (r.ds++[(false,c0)])))->AnsS H H2 t c g la2 (Zb2 [115,116,111,111,100] l0 (c0::l0) m) (ZbT [108,97,115,116] l0 (c0::l0) m)->TblOk H2 a.t_LD lpos lq->Q (.ref t) H2)\/(r.l=[]/\XN0 a.c_L7 E H)))\/(NoNm K H v F/\XNn a E H v)))->sp_KS K a vs H Q E
inductive sp_KR (K:Q4) (a:Ad) (vs:List V) (H:Hp) (Q:VK) (E:XK):Prop
 | mk:∀(p dA:AD) (m:Q11) (F:List Kp) (v:V),(vs=[.ref p,v])->(ShelfAt a H p dA m F)->(TblOk H a.t_LD lpos lq)->(((∃r∈F,v=tx r.n/\r.ds.length<=9000/\((∃ds0 c0 l0,r.ds=ds0++[(true,c0)]/\r.l=l0++[c0]/\∀(t c g la2:AD) (H2:Hp),Chg [r.p,r.da] H H2->ShelfAt a H2 p dA m (F.map (Zbl r.n la2 l0 ds0))->AnsS H H2 t c g la2 (Zb2 [115,116,111,111,100] l0 (l0++[c0]) m) (ZbT [108,97,115,116] l0 (l0++[c0]) m)->TblOk H2 a.t_LD lpos lq->Q (.ref t) H2)\/(∃ds0 c0,r.ds=ds0++[(false,c0)]/\∀(t c g la2:AD) (H2:Hp),Chg [r.p,r.da] H H2->ShelfAt a H2 p dA m (F.map (Zbl r.n la2 (c0::r.l) ds0))->AnsS H H2 t c g la2 (ZbT [102,105,114,115,116] r.l (c0::r.l) m) (Zb2 [115,116,97,110,100,115] r.l (c0::r.l) m)->TblOk H2 a.t_LD lpos lq->Q (.ref t) H2)\/(r.ds=[]/\XN0 a.c_LM E H)))\/(NoNm K H v F/\XNn a E H v)))->sp_KR K a vs H Q E
inductive sp_KE (K:Q4) (a:Ad) (vs:List V) (H:Hp) (Q:VK) (E:XK):Prop
 | mk:∀(p q dA:AD) (l m m2:Q11) (F:List Kp),(vs=[.ref p,.ref q])->(ShelfAt a H p dA m F)->(BandA a H q l m2)->(m≠m2)->(XN0 a.c_LP E H)->sp_KE K a vs H Q E
inductive sp_LT (K:Q4) (a:Ad) (vs:List V) (H:Hp) (Q:VK) (E:XK):Prop
 | mk:∀(c:Int),(vs=[.int c,.int 5])->(∀(N:Q22) (r:AD) (H2:Hp),Same H H2->H2 r=some (.lst (N.map tx))->N.length=5->N.Nodup->(∀n∈N,isn n=true)->Q (.ref r) H2)->sp_LT K a vs H Q E
inductive sp_LU (K:Q4) (a:Ad) (vs:List V) (H:Hp) (Q:VK) (E:XK):Prop
 | mk:∀(m:Q11) (c:Int),(vs=[tx m,.int c])->(KOk m)->(TblOk H a.t_LD lpos lq)->(∀(t p la da:AD) (l:Q11) (ds:List (Bool×Nat)) (H2:Hp),SameL H H2->TblOk H2 a.t_LD lpos lq->H2 t=some (.lst [.ref p,tx l])->StripAt a.c_LY H2 p la da l m ds->l.length<=8->ds.length<=20->Nw H p->Nw H la->Nw H da->la≠t->da≠t->Q (.ref t) H2)->sp_LU K a vs H Q E
inductive sp_LJ (K:Q4) (a:Ad) (vs:List V) (H:Hp) (Q:VK) (E:XK):Prop
 | mk:∀(v:V),(vs=[v])->(BadK K H v)->(∀H2,Same H H2->Q (.bl true) H2)->sp_LJ K a vs H Q E
inductive sp_LK (K:Q4) (a:Ad) (vs:List V) (H:Hp) (Q:VK) (E:XK):Prop
 | mk:∀(p dA q:AD) (l m m2:Q11) (F:List Kp) (w:Nat) (v:V),(vs=[.ref p,.int w,v,.ref q])->(ShelfAt a H p dA m F)->(BandA a H q l m2)->(KOk m2)->(TblOk H a.t_LD lpos lq)->(((w<=5/\(∃la da ds,StripAt a.c_LY H q la da l m2 ds)/\(w=0->BadN K H v)/\NoNm K H v F/\∀e H2,Same H H2->XAny H2 e a.c_LN (fs1 "name" [v])->Q (.ref e) H2)\/(w=0/\(∃la da ds,StripAt a.c_LY H q la da l m2 ds)/\m≠m2/\(∃n,v=tx n/\n.length<=1000/\isn n=true/\∀r∈F,r.n≠n)/\∀e H2,Same H H2->XAny H2 e a.c_LP []->Q (.ref e) H2)\/(w=0/\(∃la da ds,StripAt a.c_LY H q la da l m2 ds)/\(∃r∈F,v=tx r.n)/\∀e H2,Same H H2->XAny H2 e a.c_K5 (fs1 "name" [v])->Q (.ref e) H2)\/(w=7/\m≠m2/\∀e H2,Same H H2->XAny H2 e a.c_LP []->Q (.ref e) H2)\/(w=6/\m=m2/\(∃r∈F,v=tx r.n/\r.ds.length<=9000)/\∀e H2,Same H H2->XAny H2 e a.c_LO (fs1 "word" [tx ((m++[65]).take 2)])->Q (.ref e) H2)\/(w=4/\(∃r∈F,v=tx r.n/\r.ds.length<=9000/\r.l=[])/\∀e H2,Same H H2->XAny H2 e a.c_L7 []->Q (.ref e) H2)\/(w=5/\(∃r∈F,v=tx r.n/\r.ds.length<=9000/\r.ds=[])/\∀e H2,Same H H2->XAny H2 e a.c_LM []->Q (.ref e) H2)\/(w=3/\m=m2/\(∃r∈F,v=tx r.n/\r.ds.length<=9000/\r.l.length=40)/\∀e H2,Same H H2->XAny H2 e a.c_L8 []->Q (.ref e) H2)))->sp_LK K a vs H Q E
inductive sp_L4 (K:Q4) (a:Ad) (vs:List V) (H:Hp) (Q:VK) (E:XK):Prop
 | mk:∀(e:AD) (k:Q11) (v:V),(vs=[.ref e,tx k,v])->(ThOk K H v)->(((k=[110,111]/\XAny H e a.c_LN (fs1 "name" [v]))\/(k=[116,104,101,114,101]/\XAny H e a.c_K5 (fs1 "name" [v]))))->(∀H2,Same H H2->Q (.bl true) H2)->sp_L4 K a vs H Q E
inductive sp_L5 (K:Q4) (a:Ad) (vs:List V) (H:Hp) (Q:VK) (E:XK):Prop
 | mk:∀(c:Int) (b:AD) (N:Q22),(vs=[.int c,.ref b])->(H b=some (.lst (N.map tx)))->(N.length=5)->((∀n∈N,isn n=true))->(∀v H2,Same H H2->BadN K H2 v->ThOk K H2 v->Q v H2)->sp_L5 K a vs H Q E
inductive sp_lis (K:Q4) (a:Ad) (vs:List V) (H:Hp) (Q:VK) (E:XK):Prop
 | mk:∀(p dA pT:AD) (m:Q11) (F:List Kp),(vs=[.ref p,.ref pT])->(ShelfAt a H p dA m F)->(F.length<=1000)->(TxD H pT F)->(pT≠dA)->(∀H2,Same H H2->Q (.bl true) H2)->sp_lis K a vs H Q E
inductive sp_LL (K:Q4) (a:Ad) (vs:List V) (H:Hp) (Q:VK) (E:XK):Prop
 | mk:∀(p dA q la da b:AD) (l m m2 n n4:Q11) (ds:List (Bool×Nat)) (F:List Kp) (N:Q22) (v:V),(vs=[.ref p,v,.ref b,tx n,.ref q])->(ShelfAt a H p dA m F)->(StripAt a.c_LY H q la da l m2 ds)->(KOk m2)->(m≠m2)->(TblOk H a.t_LD lpos lq)->(BadN K H v)->(ThOk K H v)->(H b=some (.lst (N.map tx)))->(N[4]?=some n4)->(isn n4=true)->((∀r∈F,r.n≠n4))->((∃r∈F,n=r.n))->(∀H2,Same H H2->Q (.bl true) H2)->sp_LL K a vs H Q E
inductive sp_L2 (K:Q4) (a:Ad) (vs:List V) (H:Hp) (Q:VK) (E:XK):Prop
 | mk:∀(p dA:AD) (m n:Q11) (F:List Kp),(vs=[.ref p,tx n,tx m])->(ShelfAt a H p dA m F)->(F.length<=900)->(TblOk H a.t_LD lpos lq)->(isn n=true)->((∀r∈F,r.n≠n))->(∀H2,Chg [dA] H H2->ShelfAt a H2 p dA m F->TblOk H2 a.t_LD lpos lq->Q (.bl true) H2)->sp_L2 K a vs H Q E
inductive sp_LQ (K:Q4) (a:Ad) (vs:List V) (H:Hp) (Q:VK) (E:XK):Prop
 | mk:∀(p dA pT:AD) (m:Q11) (F:List Kp) (r:Kp),(vs=[.ref p,.ref pT,tx r.n,tx m])->(ShelfAt a H p dA m F)->(F.length<=900)->(TxD H pT F)->(pT≠dA)->(r∈F)->(r.l.length<40)->(r.ds.length<=8000)->(TblOk H a.t_LD lpos lq)->(∀(r2:Kp) (H2:Hp),Chg [dA,r.p,r.da] H H2->r2.n=r.n->r2.l=r.l->r2.ds=r.ds->ShelfAt a H2 p dA m ((F.filter λx=>decide (x.n≠r.n))++[r2])->TxD H2 pT ((F.filter λx=>decide (x.n≠r.n))++[r2])->TblOk H2 a.t_LD lpos lq->Q (.bl true) H2)->sp_LQ K a vs H Q E
inductive sp_LB (K:Q4) (a:Ad) (vs:List V) (H:Hp) (Q:VK) (E:XK):Prop
 | mk:∀(p dA pT:AD) (m:Q11) (F:List Kp) (r:Kp),(vs=[.ref p,.ref pT,tx r.n,tx m])->(ShelfAt a H p dA m F)->(F.length<=900)->(TxD H pT F)->(pT≠dA)->(r∈F)->(r.ds.length<=8000)->(TblOk H a.t_LD lpos lq)->(∀H2,Q (.bl true) H2)->sp_LB K a vs H Q E
def spLaw (K:Q4)(tb:Str->AD×AD):Sp:=λvs H Q _=>∃(b:AD) (ns:List Int),vs=[.ref b]/\SqL K H b (ns.map V.int)/\ns.length<=63/\TblOk H (tb "in_order").2 lpos lq/\∀H2,Q (.bl true) H2
theorem Zki (p dA q la da:AD)(l m m2:Q11)(ds:List (Bool×Nat))(F:List Kp)(v:V)(h0:vs=[.ref p,v,.ref q])(h1:ShelfAt a H p dA m F)(h2:StripAt a.c_LY H q la da l m2 ds)(h3:((∃n,v=tx n/\n.length<=1000/\isn n=true/\(∀r∈F,r.n≠n)/\m=m2/\F.length<=1000/\∀(r:Kp) (H2:Hp),r.n=n->r.l=l->r.ds=ds->H r.p=none->H r.la=none->H r.da=none->KeepB dA H H2->ShelfAt a H2 p dA m (F++[r])->Q .non H2)\/(∃n,v=tx n/\n.length<=1000/\isn n=true/\(∀r∈F,r.n≠n)/\m≠m2/\XN0 a.c_LP E H)\/(BadN K H v/\XNn a E H v)\/(∃r∈F,v=tx r.n/\XNt a E H v))):sp_K6 K a vs H Q E:=⟨p,dA,q,la,da,l,m,m2,ds,F,v,h0,h1,h2,h3⟩
theorem ZpT (p dA:AD)(m:Q11)(F:List Kp)(v:V)(h0:vs=[.ref p,v])(h1:ShelfAt a H p dA m F)(h2:((∃r∈F,v=tx r.n/\∀(p2 la2 da2:AD) (H2:Hp),Same H H2->StripAt a.c_LY H2 p2 la2 da2 r.l m r.ds->H p2=none->H la2=none->H da2=none->Q (.ref p2) H2)\/(NoNm K H v F/\XNn a E H v))):sp_KK K a vs H Q E:=⟨p,dA,m,F,v,h0,h1,h2⟩
theorem ZpS (p dA:AD)(m:Q11)(F:List Kp)(v:V)(h0:vs=[.ref p,v])(h1:ShelfAt a H p dA m F)(h2:((∃r∈F,v=tx r.n/\∀H2,KeepB dA H H2->ShelfAt a H2 p dA m (F.filter λx=>decide (x.n≠r.n))->Q (.ref r.p) H2)\/(NoNm K H v F/\XNn a E H v))):sp_KV K a vs H Q E:=⟨p,dA,m,F,v,h0,h1,h2⟩
theorem ZhI (p dA:AD)(m:Q11)(F:List Kp)(v u:V)(h0:vs=[.ref p,v,u])(h1:ShelfAt a H p dA m F)(h2:TblOk H a.t_LD lpos lq)(h3:((∃r∈F,v=tx r.n/\r.ds.length<=9000/\((BadL K H u m/\XNw a E H u)\/(∃c0,u=tx [c0]/\c0∈m/\r.l.length=40/\XN0 a.c_L8 E H)))\/(NoNm K H v F/\XNn a E H v))):sp_K7 K a vs H Q E:=⟨p,dA,m,F,v,u,h0,h1,h2,h3⟩
theorem ZnT (p dA:AD)(m:Q11)(F:List Kp)(v:V)(h0:vs=[.ref p,v])(h1:ShelfAt a H p dA m F)(h2:TblOk H a.t_LD lpos lq)(h3:((∃r∈F,v=tx r.n/\r.ds.length<=9000/\((∃c0 l0,r.l=c0::l0/\∀(t c g la2:AD) (H2:Hp),Chg [r.p,r.da] H H2->ShelfAt a H2 p dA m (F.map (Zbl r.n la2 l0 (r.ds++[(false,c0)])))->AnsS H H2 t c g la2 (Zb2 [115,116,111,111,100] l0 (c0::l0) m) (ZbT [108,97,115,116] l0 (c0::l0) m)->TblOk H2 a.t_LD lpos lq->Q (.ref t) H2)\/(r.l=[]/\XN0 a.c_L7 E H)))\/(NoNm K H v F/\XNn a E H v))):sp_KS K a vs H Q E:=⟨p,dA,m,F,v,h0,h1,h2,h3⟩
theorem ZnU (p dA:AD)(m:Q11)(F:List Kp)(v:V)(h0:vs=[.ref p,v])(h1:ShelfAt a H p dA m F)(h2:TblOk H a.t_LD lpos lq)(h3:((∃r∈F,v=tx r.n/\r.ds.length<=9000/\((∃ds0 c0 l0,r.ds=ds0++[(true,c0)]/\r.l=l0++[c0]/\∀(t c g la2:AD) (H2:Hp),Chg [r.p,r.da] H H2->ShelfAt a H2 p dA m (F.map (Zbl r.n la2 l0 ds0))->AnsS H H2 t c g la2 (Zb2 [115,116,111,111,100] l0 (l0++[c0]) m) (ZbT [108,97,115,116] l0 (l0++[c0]) m)->TblOk H2 a.t_LD lpos lq->Q (.ref t) H2)\/(∃ds0 c0,r.ds=ds0++[(false,c0)]/\∀(t c g la2:AD) (H2:Hp),Chg [r.p,r.da] H H2->ShelfAt a H2 p dA m (F.map (Zbl r.n la2 (c0::r.l) ds0))->AnsS H H2 t c g la2 (ZbT [102,105,114,115,116] r.l (c0::r.l) m) (Zb2 [115,116,97,110,100,115] r.l (c0::r.l) m)->TblOk H2 a.t_LD lpos lq->Q (.ref t) H2)\/(r.ds=[]/\XN0 a.c_LM E H)))\/(NoNm K H v F/\XNn a E H v))):sp_KR K a vs H Q E:=⟨p,dA,m,F,v,h0,h1,h2,h3⟩
theorem ZpU (p q dA:AD)(l m m2:Q11)(F:List Kp)(h0:vs=[.ref p,.ref q])(h1:ShelfAt a H p dA m F)(h2:BandA a H q l m2)(h3:m≠m2)(h4:XN0 a.c_LP E H):sp_KE K a vs H Q E:=⟨p,q,dA,l,m,m2,F,h0,h1,h2,h3,h4⟩
theorem ZpV (p la da:AD)(l m:Q11)(ds:List (Bool×Nat))(v:V)(h0:vs=[.ref p,v])(h1:StripAt a.c_LY H p la da l m ds)(h2:ds.length<=9000)(h3:TblOk H a.t_LD lpos lq)(h4:((∃c0,v=tx [c0]/\c0∈m/\l.length<40/\∀(t c g la2:AD) (H2:Hp),Chg [p,da] H H2->StripAt a.c_LY H2 p la2 da (l++[c0]) m (ds++[(true,c0)])->AnsS H H2 t c g la2 (ZbT [102,105,114,115,116] l (l++[c0]) m) (Zb2 [115,116,97,110,100,115] l (l++[c0]) m)->TblOk H2 a.t_LD lpos lq->Q (.ref t) H2)\/(BadL K H v m/\XNw a E H v)\/(∃c0,v=tx [c0]/\c0∈m/\l.length=40/\XN0 a.c_L8 E H))):sp_K8 K a vs H Q E:=⟨p,la,da,l,m,ds,v,h0,h1,h2,h3,h4⟩
theorem ZnS (p dA pT:AD)(m:Q11)(F:List Kp)(h0:vs=[.ref p,.ref pT])(h1:ShelfAt a H p dA m F)(h2:F.length<=1000)(h3:TxD H pT F)(h4:pT≠dA)(h5:∀H2,Same H H2->Q (.bl true) H2):sp_lis K a vs H Q E:=⟨p,dA,pT,m,F,h0,h1,h2,h3,h4,h5⟩
theorem sz (k:Nat)(h:k<=9000):k<=sizeLine:=YAK h (by rw[sizeLine_eq];decide)
section
local macro_rules | `(tactic| walk_at "r0") => `(tactic| simp only [tSeq, tAsg, tOp, tUn, tVar, tC, Zdj, gNil, Zot, tRet, tIfS, ZmR, tB, tNot, tAnd, tOr, Zm2, ZmV, tNil, ZjQ, Zpq, Zpn, Zpp, Zpo, Zni, Zly, tCB, Zm8, ZkM, tBM, tBM0, tSl, ZmS, tNoPart, tNext, L2.start, cxK, bxK, cxPr, cxWo, suxK, ZoP, ZoO, Zif, tTry, Zna, ZkU, sIfx, hAs, hNone, unE, ZkN, ZmW, ZgP, Zpr, Znh, Zoo, Zon, Zmr, Zom, pick, Option.bind_some, Option.bind_none, Option.join_some, Option.join_none, List.map_cons, List.map_nil, List.length_cons, List.length_nil, Nat.zero_add, Nat.reduceAdd, Nat.reduceSub, List.replicate_succ, List.replicate_zero, List.cons_append, List.nil_append, List.append_nil, List.getElem?_cons_zero, List.getElem?_cons_succ, List.set_cons_zero, List.set_cons_succ, q_I, q_I0, q_U, q_T, q_b, q_var, q_var', ZlQ, ZmT, Zlv, tFld, sFld, sNo, ZkP, ZkQ, tDNewK, Znb, ZkO, ZmZ, tDIn, Zig, Zm9, Zop, tOr2, ZkR, gLst])
local macro_rules | `(tactic| walk_at "r1") => do
 let some t <-Lean.Macro.expandMacro? (<-`(tactic| walk_at "r0")) | Lean.Macro.throwUnsupported
 match (⟨t⟩:Lean.TSyntax `tactic) with
 | `(tactic| simp only[$l,*])=>let d:=⟨l.elemsAndSeps⟩;`(tactic| dsimp only[$d,*])
 | _=>Lean.Macro.throwUnsupported
theorem ZcL (h:let T:=Zav t;tSeq s T D U H):tSeq s (Zav t) D U H:=h
local macro_rules | `(tactic| walk_at "rd") => `(tactic| ((try (with_reducible refine ZcL ?_; intro)); first | (walk_at "r1"; try walk_at "r0") | walk_at "r0"))
local macro_rules | `(tactic| walk_at "sc") => `(tactic| exact ⟨rfl, rfl, rfl, by decide +kernel, rfl, by decide +kernel, by decide +kernel⟩)
local macro_rules | `(tactic| walk_at "rd?") => `(tactic| (try walk_at "rd"))
local macro_rules | `(tactic| walk_at "g") => `(tactic| (refine Zaf ?_;walk_at "rd"))
local macro_rules | `(tactic| walk_at "h") => `(tactic| (show Zav _ _ _ _;walk_at "g"))
local macro_rules | `(tactic| walk_at "k") => `(tactic| (walk_at "rd?";walk_at "g"))
local macro_rules | `(tactic| walk_at "m") => `(tactic| simp only[YAE,YAT,or_false,not_or])
theorem ZoU:FnScope ["text","letters"] ["text","letters"] (Zaj s_LC):=by walk_at "sc"
theorem Znz (T:TL K mg base a tb):FnOk P w K mg base CX0 1 a.f_LC a.d_LC ["text","letters"] (sp_LC K a):=by
 refine T.f_LC.ok ZoU (λvs H Q E h=>?_) (λBc A outer s H vs Q E hr h=>?_)
 .obtain⟨_,_,rfl,_⟩:=h;rfl
 .obtain⟨l,m,rfl,hl,q⟩:=h;refine⟨_,(Zah (Zaq (Zan (ZjD rfl) rfl T.z_all ZoC (Zaa (ZdF (N:=["sign","letters"]) (ix:=[none,some 1]) rfl (ZbF rfl) rfl (ZeI (pv 0)) (λ_ _ _ _=>(ZaN (i:=0) (show (["sign","letters"]:AJ).Nodup from by decide +kernel) rfl (Or.inl rfl) (Or.inr rfl))) (λ_ _ _ _=>ZcF) (λ_ _ _ _=>(Zbz ZhA (pv 0) (pv 1) rfl))) Zac)))),?_⟩;walk_at "rd";refine⟨l,rfl,CompRun.text (λ_=>true) (λi=>.bl (decide (l.getD i 0∈m))) hl ?_ ?_ ?_⟩
  .intro i H1 Q1 hi s1 q1;exact q1 H1 (Same.refl _)
  .intro i H1 Q1 hi _ s1 q1;walk_at "rd";exact⟨_,m,rfl,rfl,q1 H1 (Same.refl _)⟩
  .intro p H1 s1 n1 l1;refine⟨p,(List.range l.length).map (λi=>decide (l.getD i 0∈m)),rfl,?_,?_⟩
   .rw[l1,filter_all,YAu];rfl
   .rw[all_range];exact q H1 s1
theorem Zeb:FnScope ["self","word"] ["self","word"] (Zaj ZbR):=by walk_at "sc"
theorem Zed (T:TL K mg base a tb):FnOk P w K mg base CX0 1 a.ak a.au ["self","word"] (Zb5 K a.c_LO 1 (fs1 "word")):=by
 refine T.fi_LO.ok Zeb (λvs H Q E h=>?_) (λBc A outer s H vs Q E hr h=>?_)
 .obtain⟨e,r,rfl,hl,_⟩:=h;simp[hl]
 .obtain⟨e,r,rfl,hl,he,q⟩:=h;obtain⟨x,rfl⟩:∃x,r=[x]:=by match r,hl with | [x],_=>exact⟨x,rfl⟩
  refine⟨_,(Zab (ZaF (ZeJ rfl T.cV T.dO (Zaa (pv 0) (Zaa (Zar (l:=[116,104,105,115,32,105,115,32,110,111,32,119,111,114,100,32,111,102,32,116,104,101,115,101,32,107,105,110,100,115,44,32,111,114,32,104,97,115,32,116,111,111,32,109,97,110,121,32,108,101,116,116,101,114,115]) (by decide +kernel)) Zac))))
   (Zah (Zgm (pv 0) (pv 1) rfl))),?_⟩
  walk_at "rd";refine⟨e,a.c_LO,none,_,rfl,he,T.cW,(by show 1<=1000;decide),e,a.c_LO,[],rfl,.bare he,T.cW.c,T.aA,(by show 0<1000;decide),λH1 x1 k1 _=>?_⟩;exact q H1 x1 λb o hb hne=>k1 b o hb hne λd hd=>by rw[he]at hd;exact absurd hd Zlr
theorem ZoT:FnScope ["words"] ["words"] (Zaj s_LD):=by walk_at "sc"
theorem Zl3 (T:TL K mg base a tb):FnOk P w K mg base CX0 1 a.f_LD a.d_LD ["words"] (sp_LD K a):=by
 refine T.f_LD.okC T.cd_LD ZoT (λvs H Q E h=>?_) (λA outer s H vs Q E hr h=>?_)
 .obtain⟨_,_,rfl,_⟩:=h;rfl
 .obtain⟨p,ws,rfl,hp,hw,tk,q⟩:=h;refine⟨_,(Zah (Zaq (Zj8 (q:="in_order.<locals>.<lambda>") hr T.L_in_order rfl rfl T.z_sorted T.z_len (Zaa (pv 0) Zac) rfl rfl (by kernel_rfl) ⟨rfl,rfl,rfl,rfl,rfl,rfl⟩ (λ_ _ _ _ _=>.of_eq rfl)))),?_⟩;have sz:∀k:Nat,k<=1000->k<=sizeLine:=λk h=>YAK h (by rw[sizeLine_eq];decide);walk_at "rd";exact⟨p,ws,rfl,hp,λw h=>sz _ (hw w h),tk,λws' r H2 a b c=>q ws' r H2 a b c.1⟩
theorem Zo5:FnScope ["self"] ["self"] (Zaj s_KN):=by walk_at "sc"
theorem Zgp (T:TL K mg base a tb):FnOk P w K mg base CX0 1 a.aT a.cJ ["self"] (sp_KN K a):=by
 refine T.fm_KN.ok Zo5 (λvs H Q E h=>?_) (λBc A outer s H vs Q E hr h=>?_)
 .obtain⟨_,_,_,rfl,_⟩:=h;rfl
 .obtain⟨p,l,m,rfl,hp,q⟩:=h;refine⟨_,(Zah (Zaq (ZaA (K:=K) rfl (pv 0) rfl))),?_⟩;walk_at "rd";rcases hp with⟨dx,f⟩|⟨la,da,ds,⟨dx,f⟩,_⟩
  .exact⟨p,_,dx,_,_,rfl,f,T.aQ,T.ax,ZhT,q⟩
  .exact⟨p,_,dx,_,_,rfl,f,T.ac,T.ag,Zb6,q⟩
theorem Zpa:FnScope ["self"] ["self"] (Zaj s_KI):=by walk_at "sc"
theorem ZpM (T:TL K mg base a tb):FnOk P w K mg base CX0 1 a.bh a.cu ["self"] (sp_KI K a):=by
 refine T.fm_KI.ok Zpa (λvs H Q E h=>?_) (λBc A outer s H vs Q E hr h=>?_)
 .obtain⟨_,_,_,_,rfl,_⟩:=h;rfl
 .obtain⟨p,dA,m,F,rfl,hp,q⟩:=h;refine⟨_,(Zah (Zaq (ZaA (K:=K) rfl (pv 0) rfl))),?_⟩;obtain⟨dx,f⟩:=hp.fld;walk_at "rd";exact⟨p,_,dx,_,_,rfl,f,T.ah,T.aw,shK,q⟩
theorem ZoX:FnScope ["text","word"] ["text","word"] (Zaj s_L0):=by walk_at "sc"
theorem ZpJ (T:TL K mg base a tb):FnOk P w K mg base CX0 1 a.f_L0 a.d_L0 ["text","word"] (sp_L0 K a):=by
 refine T.f_L0.ok ZoX (λvs H Q E h=>?_) (λBc A outer s H vs Q E hr h=>?_)
 .obtain⟨_,_,rfl,_⟩:=h;rfl
 .obtain⟨l,x,rfl,hl,hx,q⟩:=h;refine⟨_,(Zah (Zaq (ZcG (Zbz ZdH (pv 1) (pv 0) rfl) (ZcG (Zbz Zg2 (ZaR ZcC (pv 1) (Za8 Zak) Za9) (pv 0) rfl) (ZdE (Zbz Zg2 (ZaR ZcC (pv 1) Za9 (Za8 (ZiA Zfj Zak))) (pv 0) rfl)))))),?_⟩;walk_at "rd";have sx:x.length<=sizeLine:=YAK hx (by rw[sizeLine_eq];decide);unfold Zi4 at q;refine⟨x,l,rfl,rfl,ite2 (λh1=>⟨_,rfl,x,rfl,sx,_,l,rfl,rfl,ite2 (λh2=>⟨_,rfl,x,rfl,sx,_,l,rfl,rfl,?_⟩) (λh2=>?_)⟩) (λh1=>?_)⟩
  .rw[ZgF]at h2;rw[Zjz];rw[h1,h2,YBt,YBt]at q;exact q
  .rw[ZgF]at h2;rw[h1,YBu.mpr h2,YBZ,YCE]at q;exact q
  .rw[YBu.mpr h1,YBZ]at q;exact q
theorem ZoW:FnScope ["_law_script","_law_k"] ["_law_script","_law_k"] (Zaj s_L1):=by walk_at "sc"
theorem ZeP (T:TL K mg base a tb):FnOk P w K mg base CX0 1 a.f_L1 a.d_L1 ["_law_script","_law_k"] (sp_L1 K a):=by
 refine T.f_L1.ok ZoW (λvs H Q E h=>?_) (λBc A outer s H vs Q E hr h=>?_)
 .obtain⟨_,_,_,rfl,_⟩:=h;rfl
 .obtain⟨b,ns,k,rfl,hS,hk,hk1,q⟩:=h;refine⟨_,(Zab (Za1 (Zau Znu (pv 1) (Zan (ZaM (K:=K) rfl) rfl T.z_len Zbr (Zaa (pv 0) Zac)) (ZaC _)) (Zah (Zaq (Zbj (Za5 (K:=K) rfl) (pv 0) (pv 1) (λ_ _=>rfl)))) Zax)
   (Zah (Zaq Zak))),?_⟩
  walk_at "rd";refine⟨_,_,rfl,.inl ⟨_,hS,rfl⟩,?_⟩;rw[YAD];refine ite2 (λh=>?_) (λh=>?_)
  .have h':k<ns.length:=of_decide_eq_true h;exact⟨b,_,k,_,rfl,rfl,hS,ZmH hk h',q _⟩
  .exact q _
theorem ZlI:FnScope ["_law_cell_here","_law_k","_law_number"] ["_law_cell_here","_law_k"] (Zaj s_L3):=by walk_at "sc"
theorem ZnA (T:TL K mg base a tb):FnOk P w K mg base CX0 1 a.f_L3 a.d_L3 ["_law_cell_here","_law_k"] (sp_L3 K a):=by
 refine T.f_L3.ok ZlI (λvs H Q E h=>?_) (λBc A outer s H vs Q E hr h=>?_)
 .obtain⟨_,_,rfl,_⟩:=h;rfl
 .obtain⟨c,k,rfl,q⟩:=h;refine⟨_,(Zab (Zap (i:=2) ZlI.nd rfl (Or.inl rfl) (Zat ZaS (Zat Zbt (Zat Zbt (Zat ZdI (pv 0) Zak) (Zat ZdI (pv 1) Zak)) Zak) Zak))
   (Zab (Zap (i:=2) ZlI.nd rfl (Or.inl rfl) (Zat ZaS (Zat Zbt (Zat Zbt (Zat ZdI (Zat ZaS (Zat ZdI (pv 2) (pv 2)) Zak) Zak) (Zat ZdI (pv 1) Zak)) Zak) Zak))
   (Zah (Zaq (Zat ZaS (Zat ZdI (pv 2) (pv 2)) Zak))))),?_⟩
  walk_at "rd";exact⟨.inr ⟨by decide,by decide⟩,.inr ⟨by decide,by decide⟩,by decide,cm (by decide) (by decide),by decide,.inr ⟨by decide,by decide⟩,.inr ⟨by decide,by decide⟩,by decide,cm (by decide) (by decide),by decide,q _ (YBn _ (by decide))⟩
theorem Zfr:FnScope ["_law_cell_here","_law_letters_here","_law_at","_law_left","_law_k"] ["_law_cell_here"] (Zaj s_LS):=by walk_at "sc"
theorem Zpz (T:TL K mg base a tb):FnOk P w K mg base CX0 1 a.f_LS a.d_LS ["_law_cell_here"] (sp_LS K a):=by
 refine T.f_LS.ok Zfr (λvs H Q E h=>?_) (λBc A outer s H vs Q E hr h=>?_)
 .obtain⟨_,rfl,_⟩:=h;rfl
 .obtain⟨c,rfl,q⟩:=h;refine⟨_,(Zab (Zap (i:=1) Zfr.nd rfl (Or.inl rfl) (Zar (l:=[]) (by decide +kernel)))
   (Zab (Zap (i:=2) Zfr.nd rfl (Or.inl rfl) (Zat ZaS (Zat Zbf (pv 0) Zak) Zak))
   (Zab (Zap (i:=3) Zfr.nd rfl (Or.inl rfl) (Zat Zbf (pv 0) Zak))
   (Zab (ZbB YBJ rfl (Zbp rfl T.z_range (Zaa (Zat Zbt Zak (Zat ZaS (pv 0) Zak)) Zac)) (ZaN (i:=4) Zfr.nd rfl (Or.inl rfl))
   (Zab (Zap (i:=1) Zfr.nd rfl (Or.inl rfl) (Zat Za2 (pv 1) (Zbj ZdO (Zar (l:=[97,98,99,100,101,102,103,104,105,106,107,108,109,110,111,112,113,114,115,116,117,118,119,120,121,122]) (by decide +kernel)) (pv 2) (λ_ _=>rfl))))
   (Zab (Zap (i:=2) Zfr.nd rfl (Or.inl rfl) (Zat Zbt (Zat Zbt (pv 2) Zak) (Zat ZaS (pv 3) Zak)))
   (Zah (Zap (i:=3) Zfr.nd rfl (Or.inl rfl) (Zat Zbf (pv 3) Zak))))))
   (Zah (Zaq (pv 1))))))),?_⟩
  walk_at "rd";have b1:=YBn c (show (4:Int)≠0 by decide);have b2:=YBi c (show (0:Int)<4 by decide);generalize c % 4=c4 at b1 b2;refine⟨⟨by decide,by decide⟩,by decide,⟨by decide,by decide⟩,by decide,_,rfl,by omega,by omega,ForRun.range (λi U H'=>H'=H/\∃(l:Q11) (at_ le:Int) (v4:Option V),U=[some (.int c),some (tx l),some (.int at_),some (.int le),v4]/\l.length=i/\0<=at_/\at_<=7+5*i/\(∀x∈l,97<=x/\(x:Int)<97+at_)/\(∀x∈l,x<=122)/\l.Pairwise (· < ·)) ⟨rfl,[],_,_,none,rfl,rfl,by omega,by omega,by simp,by simp,List.Pairwise.nil⟩ ?_ ?_⟩
  .rintro i U H1 hi ⟨rfl,l,at_,le,v4,rfl,hl,h0,h7,hx,hy,hp⟩;have hi4:i<4:=by omega
   have hk:at_.toNat<26:=by omega
   walk_at "rd";refine⟨LET,_,97+at_.toNat,rfl,rfl,by rw[sizeLine_eq];decide,?_,by rw[sizeLine_eq];omega,by decide,⟨by decide,by decide⟩,by trivial,l++[97+at_.toNat],_,_,_,rfl,by simp[hl],by omega,by omega,?_,?_,?_⟩
   .unfold atI ixN;rw[YAM h0,YAM (show at_<((LET.length:Nat):Int) by show at_<26;omega),YBq,Zk5 _ hk]
   .intro x hm;rcases YAV.mp hm with hm | hm
    .have:=hx x hm;omega
    .rw[YAG.mp hm];omega
   .intro x hm;rcases YAV.mp hm with hm | hm
    .exact hy x hm
    .rw[YAG.mp hm];omega
   .rw[YBF];refine⟨hp,List.pairwise_singleton _ _,λx hm y hy=>?_⟩;rw[YAG.mp hy];have:=hx x hm;omega
  .rintro U H1 ⟨rfl,l,at_,le,v4,rfl,hl,h0,h7,hx,hy,hp⟩;walk_at "rd";exact q l (Zk8 (by omega) (by omega) (λx hm=>Zme (hx x hm).1 (hy x hm)) hp) (by omega) (by omega)
theorem Zpi:FnScope ["self","text","kinds"] ["self","text","kinds"] (Zaj s_K2):=by walk_at "sc"
theorem ZnK (T:TL K mg base a tb):FnOk P w K mg base CX0 1 a.bz a.cI ["self","text","kinds"] (sp_K2 K a):=by
 refine T.fm_K2.ok Zpi (λvs H Q E h=>?_) (λBc A outer s H vs Q E hr h=>?_)
 .obtain⟨_,_,_,_,_,rfl,_⟩:=h;rfl
 .obtain⟨p,dx,C,l,m,rfl,hC,hp,q⟩:=h;refine⟨_,(Zab (Zb9 (pv 0) (pv 1) rfl)
   (Zah (Zb9 (pv 0) (pv 2) rfl))),?_⟩
  walk_at "rd";rcases hC with rfl | rfl
  .exact⟨p,a.c_LW,dx,[],rfl,hp,T.aQ,T.az,(by show 0<1000;decide),p,a.c_LW,dx,_,rfl,Zag,T.aQ,T.ax,(by show 1<1000;decide),q _ Zag (λb o e ne=>by rw[Zai ne,Zai ne];exact e)⟩
  .exact⟨p,a.c_LY,dx,[],rfl,hp,T.ac,T.aa,(by show 0<1000;decide),p,a.c_LY,dx,_,rfl,Zag,T.ac,T.ag,(by show 1<1000;decide),q _ Zag (λb o e ne=>by rw[Zai ne,Zai ne];exact e)⟩
theorem Zec:FnScope ["self","name"] ["self","name"] (Zaj ZbS):=by walk_at "sc"
theorem Zco (T:TL K mg base a tb):FnOk P w K mg base CX0 1 a.al a.av ["self","name"] (Zb5 K a.c_LN 1 (fs1 "name")):=by
 refine T.fi_LN.ok Zec (λvs H Q E h=>?_) (λBc A outer s H vs Q E hr h=>?_)
 .obtain⟨e,r,rfl,hl,_⟩:=h;simp[hl]
 .obtain⟨e,r,rfl,hl,he,q⟩:=h;obtain⟨x,rfl⟩:∃x,r=[x]:=by match r,hl with | [x],_=>exact⟨x,rfl⟩
  refine⟨_,(Zab (ZaF (ZeJ rfl T.cV T.dO (Zaa (pv 0) (Zaa (Zar (l:=[116,104,105,115,32,105,115,32,110,111,32,110,97,109,101,44,32,111,114,32,110,111,32,115,116,114,105,112,32,104,97,115,32,105,116]) (by decide +kernel)) Zac))))
   (Zah (Zgm (pv 0) (pv 1) rfl))),?_⟩
  walk_at "rd";refine⟨e,a.c_LN,none,_,rfl,he,T.bJ,(by show 1<=1000;decide),e,a.c_LN,[],rfl,.bare he,T.bJ.c,T.aB,(by show 0<1000;decide),λH1 x1 k1 _=>?_⟩;exact q H1 x1 λb o hb hne=>k1 b o hb hne λd hd=>by rw[he]at hd;exact absurd hd Zlr
theorem Zo9:FnScope ["self"] ["self"] (Zaj s_KJ):=by walk_at "sc"
theorem Zl8 (T:TL K mg base a tb):FnOk P w K mg base CX0 1 a.bo a.cy ["self"] (sp_KJ K a):=by
 refine T.fm_KJ.ok Zo9 (λvs H Q E h=>?_) (λBc A outer s H vs Q E hr h=>?_)
 .obtain⟨_,_,_,_,rfl,_⟩:=h;rfl
 .obtain⟨p,dA,m,F,rfl,hp,hF,q⟩:=h;refine⟨_,(Zah (Zaq (Zan (Zde rfl) rfl T.z_sorted Zci (Zaa (ZaA (K:=K) rfl (pv 0) rfl) Zac)))),?_⟩;obtain⟨dx,f⟩:=hp.fld;walk_at "rd";exact⟨p,_,dx,_,_,rfl,f,T.ah,T.ae,shS,dA,_,_,rfl,.inl hp.dct,Zmh F,NewL.of λr H2 s2 n2 e2=>q r H2 s2 n2 e2⟩
theorem ZcY:FnScope ["self","name"] ["self","name"] (Zaj Zbs):=by walk_at "sc"
theorem Zc2 (T:TL K mg base a tb):FnOk P w K mg base CX0 1 a.aj a.am ["self","name"] (Zb5 K a.c_K5 1 (fs1 "name")):=by
 refine T.fi_K5.ok ZcY (λvs H Q E h=>?_) (λBc A outer s H vs Q E hr h=>?_)
 .obtain⟨e,r,rfl,hl,_⟩:=h;simp[hl]
 .obtain⟨e,r,rfl,hl,he,q⟩:=h;obtain⟨x,rfl⟩:∃x,r=[x]:=by match r,hl with | [x],_=>exact⟨x,rfl⟩
  refine⟨_,(Zab (ZaF (ZeJ rfl T.cV T.dO (Zaa (pv 0) (Zaa (Zar (l:=[97,32,115,116,114,105,112,32,104,97,115,32,116,104,105,115,32,110,97,109,101,32,97,108,114,101,97,100,121]) (by decide +kernel)) Zac))))
   (Zah (Zgm (pv 0) (pv 1) rfl))),?_⟩
  walk_at "rd";refine⟨e,a.c_K5,none,_,rfl,he,T.cX,(by show 1<=1000;decide),e,a.c_K5,[],rfl,.bare he,T.cX.c,T.ay,(by show 0<1000;decide),λH1 x1 k1 _=>?_⟩;exact q H1 x1 λb o hb hne=>k1 b o hb hne λd hd=>by rw[he]at hd;exact absurd hd Zlr
theorem ZjY:FnScope ["_law_found","_law_kind","_law_thing_here","_law_names_here"] ["_law_found","_law_kind","_law_thing_here"] (Zaj s_L4):=by walk_at "sc"
theorem Zl4 (T:TL K mg base a tb):FnOk P w K mg base CX0 1 a.f_L4 a.d_L4 ["_law_found","_law_kind","_law_thing_here"] (sp_L4 K a):=by
 refine T.f_L4.ok ZjY (λvs H Q E h=>?_) (λBc A outer s H vs Q E hr h=>?_)
 .obtain⟨_,_,_,rfl,_⟩:=h;rfl
 .have Bf:=hr.units;obtain⟨e,k,v,rfl,th,hx,q⟩:=h;refine⟨_,(Zab (Zap (i:=3) ZjY.nd rfl (Or.inl rfl) (Zbm Zac))
   (Zae (Zab (Za1 (PW.pt (Zdb (Zau (ZaQ (K:=K) rfl Bf) (pv 1) (Zar (l:=[110,111]) (by decide +kernel)) (ZaC _)) (Zdb (ZaP (Zan (Zay (K:=K) rfl) rfl T.z_isinstance Zas (Zaa (pv 0) (Zaa (Zba (v:=.ref a.c_LN) rfl T.df rfl) Zac)))) (ZcZ (ZaU (ZaP (Zan (ZcT (K:=K) rfl) rfl T.z_isinstance Zas (Zaa (pv 0) (Zaa (Zcb (Zaa (Zba (v:=.ref a.c_K5) rfl T.dR rfl) (Zaa (Zba (v:=.ref a.c_LP) rfl T.cY rfl) Zac))) Zac))))))))) (Zah (Zap (i:=3) ZjY.nd rfl (Or.inl rfl) (Zbm (Zaa (ZeK (K:=K) rfl (pv 0) rfl) Zac)))) Zax)
   (Zae (Zab (Za1 (PW.pt (Zdb (Zau (ZaQ (K:=K) rfl Bf) (pv 1) (Zar (l:=[116,104,101,114,101]) (by decide +kernel)) (ZaC _)) (Zdb (ZaP (Zan (Zay (K:=K) rfl) rfl T.z_isinstance Zas (Zaa (pv 0) (Zaa (Zba (v:=.ref a.c_K5) rfl T.dR rfl) Zac)))) (ZcZ (ZaU (ZaP (Zan (ZcT (K:=K) rfl) rfl T.z_isinstance Zas (Zaa (pv 0) (Zaa (Zcb (Zaa (Zba (v:=.ref a.c_LN) rfl T.df rfl) (Zaa (Zba (v:=.ref a.c_LP) rfl T.cY rfl) Zac))) Zac))))))))) (Zah (Zap (i:=3) ZjY.nd rfl (Or.inl rfl) (Zbm (Zaa (ZeK (K:=K) rfl (pv 0) rfl) Zac)))) Zax)
   (Zae (Zab (Za1 (PW.pt (Zcv (Zau (Zk0 (K:=K) rfl Bf) (pv 3) (Zbm (Zaa (pv 2) Zac)) (ZaC _)) (ZbL (ZaU (ZaP (Zan (Zay (K:=K) rfl) rfl T.z_isinstance Zas (Zaa (pv 0) (Zaa (ZdG (v:=.ty "ValueError") rfl T.aE Ze9 rfl) Zac)))))))) (Zah (Zaq Zbw)) Zax)
   (Zae (Zah (Zaq (Zbz (ZaQ (K:=K) rfl Bf) (Zan (Zay (K:=K) rfl) rfl T.z_isinstance Zas (Zaa (Zbj (Za5 (K:=K) rfl) (pv 3) Zak (λ_ _=>rfl)) (Zaa (ZdG (v:=.ty "bool") rfl T.z_bool ZjE rfl) Zac))) (Zan (Zay (K:=K) rfl) rfl T.z_isinstance Zas (Zaa (pv 2) (Zaa (ZdG (v:=.ty "bool") rfl T.z_bool ZjE rfl) Zac))) (ZaC _)))))))))))),?_⟩
  have sz:∀k:Nat,k<=1000->k<=sizeLine:=λk h=>YAK h (by rw[sizeLine_eq];decide);have nd:=T.nd;simp only[YBw,YAE,YAT,or_false,not_or]at nd;obtain⟨⟨_,a2,a3,_,_,_,_,a8⟩,_,⟨c3,_,_,_,_,c8⟩,⟨_,_,_,_,d8⟩,_⟩:=nd;walk_at "rd";refine⟨YAx _,NewL.of λr1 H1 s1 n1 e1=>Zaf ?_⟩;walk_at "rd";rcases hx with⟨rfl,x⟩|⟨rfl,x⟩
  .have x1:=x.same s1;refine Zky ⟨true,rfl,iteT ⟨_,_,_,_,true,rfl,rfl,.exc x1 T.b8,Zbh T.bK T.bK Zcz (λ_=>rfl),iteT ⟨sz 2 (by decide),NewT.of λpt H2 s2 n2 l2=>⟨e,_,_,pt,[a.c_K5,a.c_LP],false,rfl,l2,x1.same s2,T.b8,Zen (Zbh T.bK T.bM (ZjL (YAh c3) (YAh a3)) (λz=>absurd z c3)) (Zbh T.bK T.bO (ZjL (YAh c8) (YAh a8)) (λz=>absurd z c8)),iteT ⟨e,_,_,_,rfl,x1.same s2,T.bJ.c,T.aB,Zgw,sz 1 (by decide),NewL.of λr3 H3 s3 n3 e3=>?_⟩⟩⟩⟩⟩;have x3:=(x1.same s2).same s3;have s03:=(s1.trans s2).trans s3;walk_at "h";refine Zlg (by decide) ⟨false,rfl,iteF (iteF ?_)⟩;walk_at "h";refine⟨sz 1 (by decide),NewL.of λr4 H4 s4 n4 e4=>ZiR (s4 _ _ e3) e4 th.1 ⟨false,rfl,iteF ⟨_,_,_,_,true,rfl,rfl,.exc (x3.same s4) T.b8,Zk6 T.bK (by decide +kernel) (by simp[YAZ]),iteF ?_⟩⟩⟩;show Zav _ _ _ _;refine Zaf ?_;obtain⟨T0,b0,ty,kb⟩:=(th.same (s03.trans s4)).2;walk_at "rd";refine⟨r3,_,0,_,rfl,rfl,.mk (s4 _ _ e3),rfl,_,_,_,_,b0,rfl,rfl,.ty ty,kb,_,_,_,_,b0,rfl,rfl,.ty ty,kb,.inl ⟨rfl,?_⟩⟩;rw[YAI YAC,decide_eq_true rfl];exact q H4 (s03.trans s4)
  .have x1:=x.same s1;refine Zlg (by decide) ⟨false,rfl,iteF (iteF ?_)⟩;walk_at "h";refine Zky ⟨true,rfl,iteT ⟨_,_,_,_,true,rfl,rfl,.exc x1 T.ce,Zbh T.bM T.bM Zcz (λ_=>rfl),iteT ⟨sz 2 (by decide),NewT.of λpt H2 s2 n2 l2=>⟨e,_,_,pt,[a.c_LN,a.c_LP],false,rfl,l2,x1.same s2,T.ce,Zen (Zbh T.bM T.bK (ZjL c3 (YAh a2)) (λz=>absurd z.symm c3)) (Zbh T.bM T.bO (ZjL (YAh d8) (YAh a8)) (λz=>absurd z d8)),iteT ⟨e,_,_,_,rfl,x1.same s2,T.cX.c,T.ay,Zgw,sz 1 (by decide),NewL.of λr3 H3 s3 n3 e3=>?_⟩⟩⟩⟩⟩;have x3:=(x1.same s2).same s3;have s03:=(s1.trans s2).trans s3;walk_at "h";refine⟨sz 1 (by decide),NewL.of λr4 H4 s4 n4 e4=>ZiR (s4 _ _ e3) e4 th.1 ⟨false,rfl,iteF ⟨_,_,_,_,true,rfl,rfl,.exc (x3.same s4) T.ce,Zk6 T.bM (by decide +kernel) (by simp[YAZ]),iteF ?_⟩⟩⟩;show Zav _ _ _ _;refine Zaf ?_;obtain⟨T0,b0,ty,kb⟩:=(th.same (s03.trans s4)).2;walk_at "rd";refine⟨r3,_,0,_,rfl,rfl,.mk (s4 _ _ e3),rfl,_,_,_,_,b0,rfl,rfl,.ty ty,kb,_,_,_,_,b0,rfl,rfl,.ty ty,kb,.inl ⟨rfl,?_⟩⟩;rw[YAI YAC,decide_eq_true rfl];exact q H4 (s03.trans s4)
theorem Zph:FnScope ["self"] ["self"] (Zaj s_K3):=by walk_at "sc"
theorem ZfB (T:TL K mg base a tb):FnOk P w K mg base CX0 1 a.bA a.cK ["self"] (sp_K3 K a):=by
 refine T.fm_K3.ok Zph (λvs H Q E h=>?_) (λBc A outer s H vs Q E hr h=>?_)
 .obtain⟨_,_,_,_,_,_,rfl,_⟩:=h;rfl
 .obtain⟨p,la,da,l,m,ds,rfl,hp,q⟩:=h;refine⟨_,(Zah (Zaq (ZaA (K:=K) rfl (pv 0) rfl))),?_⟩;obtain⟨dx,f⟩:=hp.fld;walk_at "rd";exact⟨p,_,dx,_,_,rfl,f,T.ac,T.aa,ZaX,q⟩
theorem Zo7:FnScope ["self"] ["self"] (Zaj s_KL):=by walk_at "sc"
theorem Zl7 (T:TL K mg base a tb):FnOk P w K mg base CX0 1 a.bB a.cN ["self"] (sp_KL K a):=by
 refine T.fm_KL.ok Zo7 (λvs H Q E h=>?_) (λBc A outer s H vs Q E hr h=>?_)
 .obtain⟨_,_,_,_,_,_,rfl,_⟩:=h;rfl
 .obtain⟨p,la,da,l,m,ds,rfl,hp,q⟩:=h;refine⟨_,(Zah (Zaq (Zbq (ZbZ (K:=K) rfl) rfl T.z_list Zc5 (Zaa (ZaA (K:=K) rfl (pv 0) rfl) Zac)))),?_⟩;obtain⟨dx,f⟩:=hp.fld;obtain⟨ts,d1,d2⟩:=hp.deed;walk_at "rd";exact⟨p,_,dx,_,_,rfl,f,T.ac,T.ad,Zby,da,_,rfl,.inl (.mk d1),λr hr=>q r ts hr d2⟩
theorem ZjX:FnScope ["_law_cell_here","_law_names_here","_law_name","_law_some"] ["_law_cell_here","_law_names_here"] (Zaj s_L5):=by walk_at "sc"
theorem ZpH (T:TL K mg base a tb):FnOk P w K mg base CX0 1 a.f_L5 a.d_L5 ["_law_cell_here","_law_names_here"] (sp_L5 K a):=by
 refine T.f_L5.ok ZjX (λvs H Q E h=>?_) (λBc A outer s H vs Q E hr h=>?_)
 .obtain⟨_,_,_,rfl,_⟩:=h;rfl
 .obtain⟨c,b,N,rfl,hb,hN,nm,q⟩:=h;obtain⟨es0_,ees0_⟩:∃es_,es_=Zp1 ((Zbc s_L5).getD 1 (.Pass ⟨0,0,0,0⟩)):=⟨_,rfl⟩;have eb_:Zbc s_L5=[(Zbc s_L5).getD 0 (.Pass ⟨0,0,0,0⟩),Zp0 es0_ ((Zbc s_L5).getD 1 (.Pass ⟨0,0,0,0⟩)),(Zbc s_L5).getD 2 (.Pass ⟨0,0,0,0⟩),(Zbc s_L5).getD 3 (.Pass ⟨0,0,0,0⟩)]:=by rw[ees0_];kernel_rfl
  rw[eb_];refine' ⟨_,(Zab (Zap (i:=2) ZjX.nd rfl (Or.inl rfl) (Zbj (Za5 (K:=K) rfl) (pv 1) Zak (λ_ _=>rfl)))
   (Zae (Zab (Zap (i:=3) ZjX.nd rfl (Or.inl rfl) (ZlW ?disp0))
   (Zae (Zab (Zap (i:=3) ZjX.nd rfl (Or.inl rfl) (Zat Zg3 (pv 3) (Zbm (Zaa (ZlX (Zj6 (pv 2) Zak ZlS) rfl rfl (by simp) (by decide)) (Zaa (Zar (l:=[97,98,99,100,101,102,103,104,105]) (by decide +kernel)) Zac)))))
   (Zae (Zah (Zaq (Zbj (Za5 (K:=K) rfl) (pv 3) (Zat ZaS (pv 0) Zak) (λ_ _=>rfl)))))))))),?_⟩
  case disp0=>
   rw[ees0_];exact(Zbg (Zar (l:=[]) (by decide +kernel)) (Zbg (Zar (l:=[65]) (by decide +kernel)) (Zbg (Zar (l:=[97,32,98]) (by decide +kernel)) (Zbg (Zar (l:=[110,105,110,101,115,105,103,110,115]) (by decide +kernel)) (Zbg (Zat Za2 (pv 2) (Zar (l:=[32]) (by decide +kernel))) (Zbg (ZiD YCT PySem.F.slot_str_upper PySem.F.type_str_upper ZiS (pv 2)) (Zbg (Zar (l:=[97,49]) (by decide +kernel)) (Zbg ZiC (Zbg Zak (Zbg Zbw (Zbg (Zbm (Zaa (pv 2) Zac)) (Zbg (Zcb (Zaa (pv 2) Zac)) ZlY))))))))))))
  obtain⟨n,N',eN⟩:∃n N',N=n::N':=by
   cases N with
   | nil=>simp at hN
   | cons n N'=>exact⟨n,N',rfl⟩
  have hn:=nm n (by rw[eN];simp);have n8:=Zce hn;have at0:atI (N.map tx) 0=some (tx n):=by rw[eN];exact Zfc (j:=0) rfl
  have ll:∀c∈n,97<=c/\c<=122:=λc hc=>Zjf hn c hc
  with_reducible refine ZcL ?_
  intro T1;walk_at "r1";refine⟨_,rfl,b,_,0,_,rfl,rfl,.mk hb,at0,?_⟩;show Zav _ _ _ _;refine Zaf ?_
  with_reducible refine ZcL ?_
  intro T2;walk_at "r1";refine⟨_,rfl,n,[32],rfl,rfl,sz _ (by show _+1<=9000;omega),_,rfl,rfl,n,rfl,rfl,by omega,ll,_,rfl,sz 1 (by decide),NewL.of λp1 H1 s1 n1 e1=>⟨_,rfl,sz 1 (by decide),NewT.of λp2 H2 s2 n2 e2=>⟨sz 12 (by decide),NewL.of λp3 H3 s3 n3 e3=>?_⟩⟩⟩;show Zav _ _ _ _;refine Zaf ?_
  with_reducible refine ZcL ?_
  intro T3;walk_at "r1";refine⟨_,rfl,λpd nd_=>⟨_,rfl,Zag,[(kTx n,.int 1)],rfl,by show (1:Nat)<=15;decide,sz 2 (by decide),NewL.of λp4 H5 s5 n5 e5=>?_⟩⟩;have s4:Same H3 (upd (upd H3 pd (.dK [])) pd (.dK (Zcp [] [(kTx n,.int 1)]))):=ZbK nd_;have d4:upd (upd H3 pd (.dK [])) pd (.dK (Zcp [] [(kTx n,.int 1)])) pd=some (.dK (Zcp [] [(kTx n,.int 1)])):=Zag;generalize upd (upd H3 pd (.dK [])) pd (.dK (Zcp [] [(kTx n,.int 1)]))=H4 at s4 d4 s5 n5;refine⟨p3,p4,_,_,rfl,rfl,s5 _ _ (s4 _ _ e3),e5,sz 14 (by decide),λp6 n6=>?_⟩;have s6:Same H5 (upd H5 p6 (.lst ([tx [],tx [65],tx [97,32,98],tx [110,105,110,101,115,105,103,110,115],tx (n++[32]),tx (List.map (λx=>x-32) n),tx [97,49],V.non,V.int 7,V.bl true,V.ref p1,V.ref p2]++[V.ref pd,tx [97,98,99,100,101,102,103,104,105]]))):=ZaE n6;have e6:upd H5 p6 (.lst ([tx [],tx [65],tx [97,32,98],tx [110,105,110,101,115,105,103,110,115],tx (n++[32]),tx (List.map (λx=>x-32) n),tx [97,49],V.non,V.int 7,V.bl true,V.ref p1,V.ref p2]++[V.ref pd,tx [97,98,99,100,101,102,103,104,105]])) p6=some (.lst ([tx [],tx [65],tx [97,32,98],tx [110,105,110,101,115,105,103,110,115],tx (n++[32]),tx (List.map (λx=>x-32) n),tx [97,49],V.non,V.int 7,V.bl true,V.ref p1,V.ref p2]++[V.ref pd,tx [97,98,99,100,101,102,103,104,105]])):=Zag;show Zav _ _ _ _;refine Zaf ?_;generalize upd H5 p6 (.lst _)=H6 at s6 e6;walk_at "r1";obtain⟨v,hv,hm⟩:=ZcU (xs:=[tx [],tx [65],tx [97,32,98],tx [110,105,110,101,115,105,103,110,115],tx (n++[32]),tx (List.map (λx=>x-32) n),tx [97,49],V.non,V.int 7,V.bl true,V.ref p1,V.ref p2,V.ref pd,tx [97,98,99,100,101,102,103,104,105]]) (i:=c % 14) (by omega) (by show _<(14:Int);omega);have s16:Same H1 H6:=((s2.trans s3).trans s4).trans (s5.trans s6);have s26:Same H2 H6:=(s3.trans s4).trans (s5.trans s6);have s46:Same H4 H6:=s5.trans s6;have tk:∀l:Q11,l.length<=1000->isn l=false->BadN K H6 (tx l)/\ThOk K H6 (tx l):=λl a b=>⟨.inl ⟨l,rfl,a,b⟩,.inl rfl,"str",false,.pl (.str _),Zi8⟩;have ot:∀v,Oth K H6 v->(Zbe v=true\/∃c,v=.ref c)->BadN K H6 v/\ThOk K H6 v:=λv o h=>⟨.inr o,h,let ⟨T,b,t,_,k,_⟩:=o;⟨T,b,t,k⟩⟩;have both:BadN K H6 v/\ThOk K H6 v:=by
   simp only[YAE,YAT,or_false]at hm;rcases hm with rfl | rfl | rfl | rfl | rfl | rfl | rfl | rfl | rfl | rfl | rfl | rfl | rfl | rfl
   .exact tk _ (by decide) (by decide)
   .exact tk _ (by decide) (by decide)
   .exact tk _ (by decide) (by decide)
   .exact tk _ (by decide) (by decide)
   .exact tk _ (by rw[YAH,YAd];omega) (Zje (c:=32) (by simp) (by decide))
   .obtain⟨x,n',en⟩:∃x n',n=x::n':=by
     cases n with
     | nil=>exact absurd hn (by decide)
     | cons x n'=>exact⟨x,n',rfl⟩
    have:=ll x (by rw[en];simp);exact tk _ (by rw[YAD];omega) (Zje (c:=x-32) (by rw[en];simp) (by omega))
   .exact tk _ (by decide) (by decide)
   .exact ot _ ZiG (.inl rfl)
   .exact ot _ ZiI (.inl rfl)
   .exact ot _ Znr (.inl rfl)
   .exact ot _ (ZiH (s16 _ _ e1) rfl) (.inr ⟨_,rfl⟩)
   .exact ot _ (ZlZ (s26 _ _ e2) rfl) (.inr ⟨_,rfl⟩)
   .exact ot _ (Znq (s46 _ _ d4)) (.inr ⟨_,rfl⟩)
   .exact tk _ (by decide) (by decide)
  refine⟨_,rfl,_,rfl,c,14,rfl,rfl,by show (0:Int)<14;decide,p6,_,_,v,rfl,rfl,.mk e6,hv,q v H6 (s1.trans s16) both.1 both.2⟩
theorem ZoS:FnScope ["thing"] ["thing"] (Zaj s_LE):=by walk_at "sc"
theorem ZpE (T:TL K mg base a tb):FnOk P w K mg base CX0 2 a.f_LE a.d_LE ["thing"] (sp_LE K a):=by
 refine T.f_LE.ok ZoS (λvs H Q E h=>?_) (λBc A outer s H vs Q E hr h=>?_)
 .obtain⟨_,rfl,_⟩:=h;rfl
 .have Bf:=hr.units;obtain⟨v,rfl,q⟩:=h;refine⟨_,(Zab (Za1 (ZaU (ZaP (Zan (Zay (K:=K) rfl) rfl T.z_isinstance Zas (Zaa (pv 0) (Zaa (ZdG (v:=.ty "str") rfl T.z_str Zln rfl) Zac))))) (Zah (Zaq Zbw)) Zax)
   (Zab (Za1 (PW.pt (Zcv (Zau Znu (Zan (ZaM (K:=K) rfl) rfl T.z_len Zbr (Zaa (pv 0) Zac)) Zak (ZaC _)) (ZbL (Zau Zl1 (Zan (ZaM (K:=K) rfl) rfl T.z_len Zbr (Zaa (pv 0) Zac)) (Zdo rfl T.c_KP) (ZaC _))))) (Zah (Zaq Zbw)) Zax)
   (Zah (Zaq (ZcG (Zal (Znz T) (hr.mono (by decide)) rfl T.m_LC T.f_LC.kp T.b_LC .nil Zao (Zaa (pv 0) (Zaa (Zg0 rfl T.c_KC) Zac))) (ZdE (Zbz (ZaQ (K:=K) rfl Bf) (Zbq (Zdf rfl) rfl T.z_list Zc5 (Zaa (pv 0) Zac)) (Zan (Zd6 rfl) rfl T.z_sorted Zci (Zaa (Zbq (Zd7 rfl) rfl T.z_set Zlo (Zaa (pv 0) Zac)) Zac)) (ZaC _)))))))),?_⟩
  walk_at "rd";rcases q with⟨l,rfl,hl,q⟩|⟨⟨T0,_,ty,kt,_⟩,q⟩
  .refine⟨_,_,_,_,true,rfl,rfl,.ty (.pl (.str _)),Zi7,iteF ?_⟩;refine⟨_,_,rfl,Zb3 hl,?_⟩;refine ite2 (λh=>iteT' ?_) (λh=>?_)
   .have h1:¬1<=l.length:=by have:=of_decide_eq_true h;omega
    have e:=q H (Same.refl _);unfold isk at e;rw[decide_eq_false h1,YBZ,YBZ,YBZ]at e;exact e
   .have h1:1<=l.length:=by have:¬((l.length:Nat):Int)<1:=λz=>h (decide_eq_true z);omega
    refine⟨_,_,rfl,Zb3 hl,?_⟩;refine ite2 (λh'=>?_) (λh'=>?_)
    .have h4:¬l.length<=4:=by have:=of_decide_eq_true h';omega
     have e:=q H (Same.refl _);unfold isk at e;rw[decide_eq_false h4,YCE,YBZ,YBZ]at e;exact e
    .have h4:l.length<=4:=by have:¬4<((l.length:Nat):Int):=λz=>h' (decide_eq_true z);omega
     refine⟨l,LET,by rw[ZiY],hl,λH2 s2=>⟨_,rfl,?_⟩⟩;refine ite2 (λha=>?_) (λha=>?_)
     .refine⟨l,rfl,hl,NewL.of λp1 H3 s3 n3 l3=>?_⟩;refine⟨signs l,by rw[signs_length];exact hl,.inl ⟨l,rfl,rfl⟩,λp4 n4=>?_⟩;refine⟨p4,ddl (signs l),rfl,Zag,YCV (ZmB l) (by omega),NewL.of λp5 H5 s5 n5 l5=>?_⟩;refine Zov (.mk ((ZaE n4).trans s5 _ _ l3)) (.mk l5) ?_;have e:=q H5 (s2.trans (s3.trans ((ZaE n4).trans s5)));unfold isk at e;rw[decide_eq_true h1,decide_eq_true h4,ha,YBt,YBt,YBt]at e;exact e
     .have e:=q H2 s2;unfold isk at e;rw[YBu.mpr ha,YCE,YBZ]at e;exact e
  .exact⟨_,_,_,_,false,rfl,rfl,.ty ty,kt,iteT q⟩
theorem ZoQ:FnScope ["thing","kinds","most"] ["thing","kinds","most"] (Zaj s_LH):=by walk_at "sc"
theorem Zl2 (T:TL K mg base a tb):FnOk P w K mg base CX0 2 a.f_LH a.d_LH ["thing","kinds","most"] (sp_LH K a):=by
 refine T.f_LH.ok ZoQ (λvs H Q E h=>?_) (λBc A outer s H vs Q E hr h=>?_)
 .obtain⟨_,_,_,rfl,_⟩:=h;rfl
 .obtain⟨v,m,most,rfl,q⟩:=h;refine⟨_,(Zah (Zaq (ZcG (Zan (Zay (K:=K) rfl) rfl T.z_isinstance Zas (Zaa (pv 0) (Zaa (ZdG (v:=.ty "str") rfl T.z_str Zln rfl) Zac))) (ZcG (Zbz Zpu (Zan (ZaM (K:=K) rfl) rfl T.z_len Zbr (Zaa (pv 0) Zac)) (pv 2) (ZaC _)) (ZdE (Zal (Znz T) (hr.mono (by decide)) rfl T.m_LC T.f_LC.kp T.b_LC .nil Zao (Zaa (pv 0) (Zaa (pv 1) Zac)))))))),?_⟩;walk_at "rd";rcases q with⟨l,rfl,hl,q⟩|⟨⟨T0,_,ty,kt,_⟩,q⟩
  .refine⟨_,_,_,_,true,rfl,rfl,.ty (.pl (.str _)),Zi7,iteT ?_⟩;refine⟨_,_,rfl,Zb3 hl,?_⟩;refine ite2 (λh=>?_) (λh=>?_)
   .refine⟨l,m,rfl,hl,λH2 s2=>?_⟩;have e:=q H2 s2;unfold isw at e;rw[h,YBt]at e;exact e
   .have e:=q H (Same.refl _);unfold isw at e;rw[YBu.mpr h,YBZ]at e;exact e
  .exact⟨_,_,_,_,false,rfl,rfl,.ty ty,kt,iteF q⟩
theorem Zpj:FnScope ["one","other"] ["one","other"] (Zaj s_K1):=by walk_at "sc"
theorem ZnL (T:TL K mg base a tb):FnOk P w K mg base (CXr P w) 2 a.f_K1 a.d_K1 ["one","other"] (sp_K1 K a):=by
 refine T.f_K1.okX Zpj (λvs H Q E h=>?_) (λBc A outer s H vs Q E hr h=>?_)
 .obtain⟨_,_,_,_,_,_,_,rfl,_⟩:=h;rfl
 .have Bf:=hr.units;obtain⟨p,q_,dA,l,m,m2,F,rfl,hp,hq,q⟩:=h;refine⟨_,(Zah (Za1 (Zau (ZbU (K:=K) rfl Bf) (Zaz (pv 0) T.ah T.cf (ZpM T) (hr.mono (by decide)) T.b_KI .nil Zao) (ZiB (Zaz (pv 1) T.aQ T.aq (Zgp T) (hr.mono (by decide)) T.bY .nil Zao) (Zaz (pv 1) T.ac T.ao (Zgp T) (hr.mono (by decide)) T.bY .nil Zao)) (ZaC _)) (Zah (Zbv Zbk rfl (Zca T.x_LP T.i_LP rfl T.cY (Zaa (Zar (l:=[116,104,101,32,107,105,110,100,115,32,97,114,101,32,110,111,116,32,116,104,101,32,115,97,109,101]) (by decide +kernel)) Zac)))) Zax)),?_⟩;have fin:∀(H':Hp),H'=H->rEqD K true (tx m) (tx m2) H' λx H'=>∃k,x=V.bl k/\if k=true then 1<=1000/\Mk0 a.c_LP H' λv H1=>∃e C d,v=V.ref e/\H1 e=some (xo e C d)/\Xm K C/\E (Value.ref C) (some e) (upd H1 e (xr e C d)) else Q V.non H':=λH' eH=>by
   subst eH;rcases q with⟨rfl,q⟩|⟨ne,x⟩
   .exact ZhG ⟨false,rfl,iteF q⟩
   .exact ZnN ne ⟨true,rfl,iteT ⟨by decide,λe he=>⟨e,_,none,rfl,Zag,T.x_LP,x e _ (ZbK he) (.bare Zag)⟩⟩⟩
  obtain⟨dx,f⟩:=hp.fld;walk_at "rd";refine⟨p,dx,_,rfl,f,shN,p,dA,m,F,rfl,hp,?_⟩;exact Zfb hq (by decide +kernel) (by decide +kernel) (by decide +kernel) (λ_=>⟨q_,l,m2,rfl,hq,fin _ rfl⟩) (λ_ _ _ _=>⟨q_,l,m2,rfl,hq,fin _ rfl⟩)
theorem ZlF:FnScope ["lesser","longer","edges","size"] ["lesser","longer"] (Zaj s_LZ):=by walk_at "sc"
theorem Znw (T:TL K mg base a tb):FnOk P w K mg base CX0 2 a.f_LZ a.d_LZ ["lesser","longer"] (sp_LZ K a):=by
 refine T.f_LZ.ok ZlF (λvs H Q E h=>?_) (λBc A outer s H vs Q E hr h=>?_)
 .obtain⟨_,_,rfl,_⟩:=h;rfl
 .obtain⟨s_,L,rfl,hL,ex,tk,q⟩:=h;refine⟨_,(Zab (Zap (i:=2) ZlF.nd rfl (Or.inl rfl) (Zbm Zac))
   (Zae (Zab (ZbB YBJ rfl (Ziz rfl T.z_range (Zaa Zak (Zaa (Zat Zbt (Zan (ZaM (K:=K) rfl) rfl T.z_len Zbr (Zaa (pv 1) Zac)) Zak) Zac))) (ZaN (i:=3) ZlF.nd rfl (Or.inl rfl))
   (Zab (ZaF (Zfv YBh YCK YCJ ZbM (pv 2) (Zaa (ZaR ZcC (pv 1) Za9 (Za8 (pv 3))) Zac)))
   (Zah (ZaF (Zfv YBh YCK YCJ ZbM (pv 2) (Zaa (ZaR ZcC (pv 1) (Za8 (Zat Znt (Zan (ZaM (K:=K) rfl) rfl T.z_len Zbr (Zaa (pv 1) Zac)) (pv 3))) Za9) Zac))))))
   (Zae (Zah (Zaq (Zal (Zl3 T) (hr.mono (by decide)) rfl T.c5 T.f_LD.kp T.dL .nil Zao (Zaa (Zan (Zdk rfl) rfl T.z_sorted Zci (Zaa (Zbq (Zd7 rfl) rfl T.z_set Zlo (Zaa (ZdF (N:=["word","lesser"]) (ix:=[none,some 0]) rfl (ZbF rfl) rfl (ZbC (K:=K) rfl (pv 2)) (λ_ _ _ _=>(ZaN (i:=0) (show (["word","lesser"]:AJ).Nodup from by decide +kernel) rfl (Or.inl rfl) (Or.inr rfl))) (λ_ _ _ _=>(ZeH (Zau ZdH (pv 0) (pv 1) rfl))) (λ_ _ _ _=>(pv 0))) Zac)) Zac)) Zac)))))))),?_⟩
  walk_at "rd";refine⟨YAx _,NewL.of λpe H1 s1 ne le=>?_⟩;walk_at "g";refine⟨_,_,rfl,Zb3 (by omega),_,_,rfl,⟨by decide,by decide,by omega,by omega⟩,?_⟩;have ej:((L.length:Int)+1-1).toNat=L.length:=by omega
  rw[ej];refine ForRun.range (λi U H'=>∃v3,U=[some (tx s_),some (tx L),some (.ref pe),v3]/\Same H H'/\H' pe=some (.lst ((Za4 L i).map tx))) ⟨_,rfl,s1,le⟩ ?_ ?_
  .rintro i U H2 hi ⟨v3,rfl,s2,h2⟩;have el:=ZcP L i;have e1:(1+(i:Int))=((i+1:Nat):Int):=by omega
   have e2:(L.length:Int)-(1+(i:Int))=((L.length-(i+1):Nat):Int):=by omega
   walk_at "rd";refine⟨.inl ⟨rfl,_,.mk h2⟩,_,rfl,L,rfl,sz _ (by omega),pe,_,_,rfl,rfl,h2,by rw[YAD];exact sz _ (by omega),.inl ⟨rfl,_,.mk Zag⟩,_,_,rfl,Zb3 (by omega),_,rfl,L,rfl,sz _ (by omega),pe,_,_,rfl,rfl,Zag,by rw[YAH,YAD];exact sz _ (by rw[YAd];omega),_,rfl,?_,?_⟩
   .exact same_upd3 (same_upd3 s2 ne) ne
   .rw[Zag,e1,Zdd,<-e1,e2,ZbY,Zeu,YAy,YAr];rfl
  .rintro U H2 ⟨v3,rfl,s2,h2⟩;walk_at "k";have el:=ZcP L L.length;refine⟨pe,rfl,⟨_,.mk h2⟩,CompRun.listL (xs:=(Za4 L L.length).map tx) (λi=>!infB ((Za4 L L.length).getD i []) s_) (λi=>tx ((Za4 L L.length).getD i [])) (by rw[YAD];omega) (.mk h2) ?_ ?_ ?_⟩
   .intro i H3 Q3 hi s3 q3;rw[YAD]at hi;rw[ZdV hi];walk_at "rd";exact⟨_,_,rfl,rfl,q3 H3 (Same.refl _)⟩
   .intro i H3 Q3 hi _ s3 q3;rw[YAD]at hi;rw[ZdV hi];walk_at "rd";exact q3 H3 (Same.refl _)
   .intro p3 H3 s3 n3 l3;have eh:((List.range ((Za4 L L.length).map tx).length).filter λi=>!infB ((Za4 L L.length).getD i []) s_).map (λi=>tx ((Za4 L L.length).getD i []))=((Za4 L L.length).filter λv=>!infB v s_).map tx:=by rw[YAD,<-Zet (λv=>!infB v s_) [] (Za4 L L.length),YAu];rfl
    rw[eh]at l3;have fl:=YBB (λv=>!infB v s_) (Za4 L L.length);generalize hF:(Za4 L L.length).filter (λv=>!infB v s_)=F0 at l3 fl;have mF:∀w,w∈F0↔Frs s_ L w:=λw=>by rw[<-hF,YBT,ZfG,Zjk ex,Bool.not_eq_true',Zhb]
    have dl:=Zp2 F0;refine⟨F0,by omega,.inr ⟨p3,rfl,.mk l3⟩,λp4 n4=>⟨p4,_,rfl,Zag,sz _ (by omega),NewL.of λp5 H5 s5 n5 l5=>?_⟩⟩;have s25:Same H H5:=s2.trans (s3.trans ((ZaE n4).trans s5));have pm0:=ZaI (ddl F0);refine⟨p5,_,rfl,l5,λw hw=>?_,tk.same s25,λws r H6 pm pw sl tk6 nr lr=>?_⟩
    .have:=((mF w).mp (Zgr.mp (pm0.mem_iff.mp hw))).1.len;omega
    .refine q ws r H6 (Zcy pm pw (pm0.nodup_iff.mpr (ZiP F0))) (λw=>?_) (λb o e t=>sl _ _ (s25 _ _ e) t) tk6 ((Nw.of nr).same s25) lr;rw[pm.mem_iff,pm0.mem_iff,Zgr,mF]
theorem Zdi:FnScope ["_law_way","_law_cell_here","_law_kinds_here","_law_size","_law_found","_law_left","_law_k","_law_number","_law_at","_law_letter"] ["_law_way","_law_cell_here","_law_kinds_here","_law_size"] (Zaj s_LI):=by walk_at "sc"
theorem ZpD (T:TL K mg base a tb):FnOk P w K mg base CX0 2 a.f_LI a.d_LI ["_law_way","_law_cell_here","_law_kinds_here","_law_size"] (sp_LI K a):=by
 refine T.f_LI.ok Zdi (λvs H Q E h=>?_) (λBc A outer s H vs Q E hr h=>?_)
 .obtain⟨_,_,_,_,rfl,_⟩:=h;rfl
 .have Bf:=hr.units;obtain⟨w_,c,m,n,rfl,hm,h4,hn,q⟩:=h;refine⟨_,(Zab (Zap (i:=4) Zdi.nd rfl (Or.inl rfl) (Zar (l:=[]) (by decide +kernel)))
   (Zab (Zap (i:=5) Zdi.nd rfl (Or.inl rfl) (pv 1))
   (Zab (ZbB YBJ rfl (Zbp rfl T.z_range (Zaa (pv 3) Zac)) (ZaN (i:=6) Zdi.nd rfl (Or.inl rfl))
   (Zab (Zap (i:=7) Zdi.nd rfl (Or.inl rfl) (pv 5))
   (Zab (Za1 (PW.pt (Zcv (Zau (ZaQ (K:=K) rfl Bf) (Zat ZaS (pv 0) Zak) Zak (ZaC _)) (ZbL (Zau (Zej (K:=K) rfl) (pv 5) (Zcb (Zaa Zak (Zaa (ZiA Zfj Zak) Zac))) rfl)))) (Zah (Zap (i:=7) Zdi.nd rfl (Or.inl rfl) (Zal (ZnA T) (hr.mono (by decide)) rfl T.m_L3 T.f_L3.kp T.b_L3 .nil Zao (Zaa (pv 1) (Zaa (Zat Zbt Zak (pv 6)) Zac))))) Zax)
   (Zab (Zap (i:=4) Zdi.nd rfl (Or.inl rfl) (Zat Za2 (pv 4) (Zbj ZdO (pv 2) (Zat ZaS (pv 7) (Zan (ZaM (K:=K) rfl) rfl T.z_len Zbr (Zaa (pv 2) Zac))) (λ_ _=>rfl))))
   (Zah (Zap (i:=5) Zdi.nd rfl (Or.inl rfl) (Zat Zbf (pv 5) (Zan (ZaM (K:=K) rfl) rfl T.z_len Zbr (Zaa (pv 2) Zac)))))))))
   (Zab (Za1 (PW.pt (Zdb (Zau (ZaQ (K:=K) rfl Bf) (Zat ZaS (Zat Zbf (pv 0) Zak) Zak) Zak (ZaC _)) (ZcZ (Zau Zl1 (pv 3) Zak (ZaC _))))) (Zab (Zap (i:=8) Zdi.nd rfl (Or.inl rfl) (Zat ZaS (Zat Zbf (pv 0) Zak) (pv 3)))
   (Zab (Zap (i:=4) Zdi.nd rfl (Or.inl rfl) (ZaR ZcC (Zat ZiK (ZaR ZcC (pv 4) Za9 (Za8 (Zat Zbt Zak (Zat ZaS (Zat Zbf (pv 0) Zak) Zak)))) (pv 3)) Za9 (Za8 (pv 3))))
   (Zab (Zap (i:=9) Zdi.nd rfl (Or.inl rfl) (Zbj ZdO (pv 2) (Zat ZaS (Zat Zbf (pv 0) Zak) (Zan (ZaM (K:=K) rfl) rfl T.z_len Zbr (Zaa (pv 2) Zac))) (λ_ _=>rfl)))
   (Zah (Za1 (Zau (ZaQ (K:=K) rfl Bf) (Zat ZaS (Zat Zbf (pv 0) Zak) Zak) Zak (ZaC _)) (Zah (Zap (i:=4) Zdi.nd rfl (Or.inl rfl) (Zat Za2 (Zat Za2 (ZaR ZcC (pv 4) Za9 (Za8 (pv 8))) (pv 9)) (ZaR ZcC (pv 4) (Za8 (Zat Zbt (pv 8) Zak)) Za9)))) Zax))))) Zax)
   (Zah (Zaq (pv 4))))))),?_⟩
  walk_at "rd";have hM:m.length<=1000:=by omega
  have sz:m.length<=sizeLine:=YAK hM (by rw[sizeLine_eq];decide);have pm:(0:Int)<m.length:=by omega
  have at_:∀x:Int,∃v,atI m (x % m.length)=some v/\v∈m:=λx=>ZcU (YBn _ (by omega)) (YBi _ pm);refine⟨_,rfl,by omega,by omega,ForRun.range (λi U H'=>Same H H'/\∃(f:Q11) (le:Int) (v6 v7:Option V),U=[some (.int w_),some (.int c),some (tx m),some (.int (n:Nat)),some (tx f),some (.int le),v6,v7,none,none]/\f.length=i/\∀x∈f,x∈m) ⟨Same.refl _,[],c,none,none,rfl,rfl,λx hx=>by cases hx⟩ ?_ ?_⟩
  .rintro i U H1 hi ⟨s1,f,le,v6,v7,rfl,hf,hfm⟩;have sf:f.length+1<=sizeLine:=by rw[sizeLine_eq];omega
   have cd:CDiv le m.length:=⟨pm,by omega⟩;have mem:∀ {v:Nat},v∈m->∀x∈f++[v],x∈m:=λhv x hx=>(YAV.mp hx).elim (hfm x) λh=>by rw[YAG.mp h];exact hv
   walk_at "rd";refine⟨by decide,.inl ⟨rfl,_,rfl,ite2 (λh=>iteT' ?_) (λh=>⟨by rw[sizeLine_eq];decide,NewT.of λp2 H2 s2 n2 l2=>⟨p2,_,rfl,.inr (.mk l2),rfl,rfl,_,rfl,ite2 (λh=>?_) (λh=>?_)⟩⟩)⟩⟩
   .refine⟨_,_,rfl,λr hr=>?_⟩;walk_at "rd";obtain⟨c1,hc1,hm1⟩:=at_ r;exact⟨_,_,rfl,Zb3 hM,pm,m,_,c1,rfl,rfl,sz,hc1,sf,_,_,rfl,Zb3 hM,cd,s1,_,_,_,_,rfl,by simp[hf],mem hm1⟩
   .refine⟨_,_,rfl,λr hr=>?_⟩;walk_at "rd";obtain⟨c1,hc1,hm1⟩:=at_ r;exact⟨_,_,rfl,Zb3 hM,pm,m,_,c1,rfl,rfl,sz,hc1,sf,_,_,rfl,Zb3 hM,cd,s1.trans s2,_,_,_,_,rfl,by simp[hf],mem hm1⟩
   .obtain⟨c1,hc1,hm1⟩:=at_ le;exact⟨_,_,rfl,Zb3 hM,pm,m,_,c1,rfl,rfl,sz,hc1,sf,_,_,rfl,Zb3 hM,cd,s1.trans s2,_,_,_,_,rfl,by simp[hf],mem hm1⟩
  .rintro U H1 ⟨s1,f,le,v6,v7,rfl,hf,hfm⟩;rw[YCc]at hf;walk_at "rd";refine⟨⟨by decide,by decide⟩,by decide,.inl ⟨rfl,_,rfl,ite2 (λh=>ite2 (λh2=>?_) (λh2=>q f H1 hf hfm s1)) (λh=>iteF (q f H1 hf hfm s1))⟩⟩;have hn0:0<n:=by have:=of_decide_eq_true h2;omega
   obtain⟨c1,hc1,hm1⟩:=at_ (w_/2000);have cl:=Zex f none (some (1+w_/6 % 4));obtain⟨g1,g2⟩:=fill (e:=1+w_/6 % 4) hn0 hf hfm (by omega);have gl:(repT (cut f none (some (1+w_/6 % 4))) (n:Nat)).length<=60*60:=by rw[ZgW,YCc];exact Nat.mul_le_mul hn (by omega)
   have m0:=YBn (w_/24) (show ((n:Nat):Int)≠0 by omega);have m1:=YBi (w_/24) (show (0:Int)<(n:Nat) by omega);refine⟨⟨by decide,by decide⟩,by omega,⟨by decide,by decide⟩,by decide,_,rfl,f,rfl,by rw[sizeLine_eq];omega,_,_,rfl,rfl,by omega,by omega,by omega,_,rfl,_,rfl,by rw[sizeLine_eq];omega,⟨by decide,by decide⟩,_,_,rfl,Zb3 hM,pm,m,_,c1,rfl,rfl,sz,hc1,⟨by decide,by decide⟩,by decide,.inl ⟨rfl,_,rfl,ite2 (λh3=>?_) (λh3=>q _ H1 g1 g2 s1)⟩⟩;generalize cut (repT (cut f none (some (1+w_/6 % 4))) (n:Nat)) none (some ((n:Nat):Int))=g at g1 g2;obtain⟨k1,k2⟩:=put1 (c:=c1) (i:=w_/24 % (n:Nat)) g1 g2 hm1 m0 m1;have e1:=k1;rw[YAH,YAH,YAd]at e1;refine⟨_,rfl,g,rfl,by rw[sizeLine_eq];omega,by rw[sizeLine_eq];omega,_,rfl,g,rfl,by rw[sizeLine_eq];omega,by rw[sizeLine_eq,YAH,YAd];omega,q _ H1 k1 k2 s1⟩
theorem Zfq:FnScope ["_law_cell_here","_law_many","_law_size","_law_at","_law_base","_law_first","_law_names_here","_law_k","_law_letter"] ["_law_cell_here","_law_many"] (Zaj s_LT):=by walk_at "sc"
theorem Zpy (T:TL K mg base a tb):FnOk P w K mg base CX0 2 a.f_LT a.d_LT ["_law_cell_here","_law_many"] (sp_LT K a):=by
 refine T.f_LT.ok Zfq (λvs H Q E h=>?_) (λBc A outer s H vs Q E hr h=>?_)
 .obtain⟨_,rfl,_⟩:=h;rfl
 .obtain⟨c,rfl,q⟩:=h;refine⟨_,(Zab (Zap (i:=2) Zfq.nd rfl (Or.inl rfl) (Zat Zbt Zak (Zat ZaS (pv 0) Zak)))
   (Zae (Zab (Zap (i:=3) Zfq.nd rfl (Or.inl rfl) (Zat ZaS (Zat Zbf (pv 0) Zak) (pv 2)))
   (Zae (Zab (Zgo (i:=4) (N:=["_law_k","_law_cell_here"]) (ix:=[none,some 0]) rfl Zfq.nd rfl rfl rfl (ZbF rfl) rfl (Zbp rfl T.z_range (Zaa (pv 2) Zac)) (λ_ _ _ _=>(ZaN (i:=0) (show (["_law_k","_law_cell_here"]:AJ).Nodup from by decide +kernel) rfl (Or.inl rfl) (Or.inr rfl))) (λ_ _ _ _=>ZcF) (λ_ _ _ _=>(Zbj ZdO (Zar (l:=[97,98,99,100,101,102,103,104,105,106,107,108,109,110,111,112,113,114,115,116,117,118,119,120,121,122]) (by decide +kernel)) (Zat ZaS (Zal (ZnA T) (hr.mono (by decide)) rfl T.m_L3 T.f_L3.kp T.b_L3 .nil Zao (Zaa (pv 1) (Zaa (pv 0) Zac))) Zak) (λ_ _=>rfl))))
   (Zae (Zab (Zap (i:=5) Zfq.nd rfl (Or.inl rfl) (Zat ZaS (Zat Zbf (pv 0) Zak) Zak))
   (Zae (Zab (Zap (i:=6) Zfq.nd rfl (Or.inl rfl) (Zbm Zac))
   (Zae (Zab (ZbB YBJ rfl (Zbp rfl T.z_range (Zaa (pv 1) Zac)) (ZaN (i:=7) Zfq.nd rfl (Or.inl rfl))
   (Zab (Zap (i:=8) Zfq.nd rfl (Or.inl rfl) (Zbj ZdO (Zar (l:=[97,98,99,100,101,102,103,104,105,106,107,108,109,110,111,112,113,114,115,116,117,118,119,120,121,122]) (by decide +kernel)) (Zat ZaS (Zat Zbt (pv 5) (Zat ZdI Zak (pv 7))) Zak) (λ_ _=>rfl)))
   (Zae (Zah (ZaF (Zfv YBh YCK YCJ ZbM (pv 6) (Zaa (Zfv YCT PySem.F.slot_str_join PySem.F.type_str_join ZiT (Zar (l:=[]) (by decide +kernel)) (Zaa (Zat Zg3 (Zat Zg3 (ZaR (ZeE (K:=K) rfl) (pv 4) Za9 (Za8 (pv 3))) (Zbm (Zaa (pv 8) Zac))) (ZaR (ZeE (K:=K) rfl) (pv 4) (Za8 (Zat Zbt (pv 3) Zak)) Za9)) Zac)) Zac)))))))
   (Zae (Zah (Zaq (pv 6))))))))))))))),?_⟩
  walk_at "rd";obtain⟨S,eS,S1,S8⟩:∃S:Nat,1+c % 8=(S:Int)/\1<=S/\S<=8:=⟨(1+c % 8).toNat,by omega,by omega,by omega⟩;refine⟨by decide,Zaf ?_⟩;rw[eS];walk_at "rd";obtain⟨A0,eA,hA⟩:∃A0:Nat,c/8 % (S:Int)=(A0:Int)/\A0<S:=by have h0:=YBn (c/8) (show (S:Int)≠0 by omega);have h1:=YBi (c/8) (show (0:Int)<S by omega);exact⟨(c/8 % (S:Int)).toNat,by omega,by omega⟩
  refine⟨⟨by decide,by decide⟩,by omega,Zaf ?_⟩;rw[eA];walk_at "rd";refine⟨_,rfl,by omega,by omega,CompRun.invR (by omega) (λacc i ys H'=>Same H H'/\H' acc=some (.lst ys)/\∃bs:Q11,bs.length=i/\(∀x∈bs,x∈LET)/\ys=bs.map λx=>tx [x]) (λacc na=>⟨ZaE na,Zag,[],rfl,λx h=>(by cases h),rfl⟩) ?_ ?_⟩
  .rintro acc i ys H' Q' na hi hl ⟨s',ea,bs,bl,bL,rfl⟩ q';walk_at "rd";refine⟨_,_,rfl,λr hr=>?_⟩;obtain⟨x,hx,xm⟩:=ZcU (xs:=LET) (i:=r % 26) (YBn _ (by decide)) (YBi _ (by decide));walk_at "rd?";refine⟨by decide,LET,_,x,rfl,rfl,sz 26 (by decide),hx,q' _ H' ea ⟨same_upd3 s' na,Zag,bs++[x],by rw[YAH,bl];rfl,λy hy=>?_,by rw[YAy];rfl⟩⟩;rcases YAV.mp hy with z | z
   .exact bL y z
   .rw[YAG.mp z];exact xm
  .rintro B ys H1 nB lB ⟨s1,eB,bs,bl,bL,rfl⟩;walk_at "h";obtain⟨f,ef,hf⟩:∃f:Nat,c/64 % 26=(f:Int)/\f<26:=⟨(c/64 % 26).toNat,by omega,by omega⟩;refine⟨⟨by decide,by decide⟩,by decide,Zaf ?_⟩;rw[ef];walk_at "rd";refine⟨YAx _,NewL.of λpn H2 s2 n2 e2=>Zaf ?_⟩;have eB2:=s2 _ _ eB;have npn:H pn=none:=s1.free n2;walk_at "rd";refine⟨5,rfl,by decide,by decide,ForRun.range (λi U H'=>∃v7 v8,U=[some (.int c),some (.int 5),some (.int (S:Nat)),some (.int (A0:Nat)),some (.ref B),some (.int (f:Nat)),some (.ref pn),v7,v8]/\Same H H'/\H' B=some (.lst (bs.map λx=>tx [x]))/\H' pn=some (.lst (((List.range i).map (nmAt bs A0 f)).map tx))) ⟨_,_,rfl,s1.trans s2,eB2,e2⟩ ?_ ?_⟩
   .rintro i U H3 hi ⟨v7,v8,rfl,s3,eB3,e3⟩;walk_at "rd";have e26:((f:Int)+5*(0+(i:Int))) % 26=(((f+5*i) % 26:Nat):Int):=by omega
    rw[e26];refine⟨.inl ⟨by decide,by decide⟩,by decide,LET,_,97+(f+5*i) % 26,rfl,rfl,sz 26 (by decide),Zfc (ZiZ (Nat.mod_lt _ (by decide))),Zaf ?_⟩;walk_at "rd";have eg:(bs.map λx=>tx [x])=(signs bs).map tx:=by unfold signs;rw[YAu];rfl
    have eg1:∀l:Q11,(l.map λx=>tx [x])=(signs l).map tx:=λl=>by unfold signs;rw[YAu];rfl
    refine⟨.inl ⟨rfl,_,.mk e3⟩,rfl,_,rfl,B,_,rfl,.mk eB3,λp1 n1=>⟨sz 1 (by decide),NewL.of λp2 H5 s5 n5 e5=>⟨p1,p2,_,_,rfl,rfl,s5 _ _ Zag,e5,?_,λp6 n6=>?_⟩⟩⟩
    .rw[ZcS,Zdd,YAa,YAD];exact sz _ (by show _+1<=9000;omega)
    have s6:Same H3 (upd H5 p6 (.lst (cutV (bs.map λx=>tx [x]) none (some ((A0:Nat):Int))++[tx [97+(f+5*i) % 26]]))):=((ZaE n1).trans s5).trans (ZaE n6);have e6:upd H5 p6 (.lst (cutV (bs.map λx=>tx [x]) none (some ((A0:Nat):Int))++[tx [97+(f+5*i) % 26]])) p6=some (.lst ((signs (bs.take A0)++[[97+(f+5*i) % 26]]).map tx)):=by rw[Zag,ZcS,Zdd,<-List.map_take,eg1,YAy];rfl
    generalize upd H5 p6 (.lst (cutV (bs.map λx=>tx [x]) none (some ((A0:Nat):Int))++[tx [97+(f+5*i) % 26]]))=H6 at s6 e6;refine⟨_,rfl,B,_,rfl,.mk (s6 _ _ eB3),λp7 n7=>⟨p6,p7,(signs (bs.take A0)++[[97+(f+5*i) % 26]]).map tx,_,rfl,rfl,?_,Zag,?_,λp8 n8=>⟨[],p8,signs (bs.take A0)++[[97+(f+5*i) % 26]]++signs (bs.drop (A0+1)),rfl,rfl,?_,?_,?_⟩⟩⟩
    .rw[Zai (Zad e6 n7)];exact e6
    .rw[ZcS,show ((A0:Int)+1)=((A0+1:Nat):Int) by omega,ZbY,YAD,YAH,YAk,YAD];unfold signs;rw[YAD,YAa,YAd];exact sz _ (by omega)
    .rw[Zag,ZcS,show ((A0:Int)+1)=((A0+1:Nat):Int) by omega,ZbY,<-List.map_drop,eg1,YAy (l₂:=signs _)]
    .rw[YCo,Nat.mul_zero,YAy,YAy,List.sum_append,List.sum_append,Zik,Zik,YAa,YAk];show _+1+_+0<=16777216;omega
    .have s8:Same H3 (upd (upd H6 p7 (.lst (cutV (bs.map λx=>tx [x]) (some ((A0:Int)+1)) none))) p8 (.lst ((signs (bs.take A0)++[[97+(f+5*i) % 26]]).map tx++cutV (bs.map λx=>tx [x]) (some ((A0:Int)+1)) none))):=(s6.trans (ZaE n7)).trans (ZaE n8);generalize upd (upd H6 p7 (.lst (cutV (bs.map λx=>tx [x]) (some ((A0:Int)+1)) none))) p8 (.lst ((signs (bs.take A0)++[[97+(f+5*i) % 26]]).map tx++cutV (bs.map λx=>tx [x]) (some ((A0:Int)+1)) none))=H8 at s8;have ne:B≠pn:=λz=>by rw[z,n2]at eB;cases eB
     refine⟨pn,_,_,rfl,rfl,s8 _ _ e3,by rw[YAD,YAD,YBd];exact YAn (show i<9000 by omega) (sz 9000 (YAS _)),_,_,rfl,same_upd3 (s3.trans s8) npn,by rw[Zai ne];exact s8 _ _ eB3,?_⟩;rw[Zag,Ze2,List.flatten_append,List.flatten_append,ZgQ,ZgQ,YCL,YAy,YAy];rfl
   .rintro U H3 ⟨v7,v8,rfl,s3,eB3,e3⟩;walk_at "k";refine q _ pn H3 s3 e3 (by rw[YAD,YBd];rfl) Zkg λn hn=>?_;obtain⟨k,_,rfl⟩:=YAt.mp hn;exact ZpQ (by omega) (by omega) bL
theorem ZlL:FnScope ["self","text","came","went","gone","kept"] ["self","text","came","went"] (Zaj s_KF):=by walk_at "sc"
theorem ZnI (T:TL K mg base a tb):FnOk P w K mg base CX0 2 a.bH a.cT ["self","text","came","went"] (sp_KF K a):=by
 refine T.fm_KF.ok ZlL (λvs H Q E h=>?_) (λBc A outer s H vs Q E hr h=>?_)
 .obtain⟨_,_,_,_,_,_,_,_,_,_,_,_,_,_,rfl,_⟩:=h;rfl
 .obtain⟨p,la,da,c,g,l,l2,m,old,new,ys,zs,rc,rg,rfl,hp,hla,hc,rwc,hg,rwg,ho,hn,nd,mc,mg_,lo,lc,lg,wo,wn,tk,q⟩:=h;refine⟨_,(Zae (Zab (Zap (i:=4) ZlL.nd rfl (Or.inr rfl) (ZdF (N:=["told"]) (ix:=[none]) rfl (ZbF rfl) rfl (ZbC (K:=K) rfl (pv 3)) (λ_ _ _ _=>(ZaN (i:=0) (show (["told"]:AJ).Nodup from by decide +kernel) rfl (Or.inl rfl) (Or.inr rfl))) (λ_ _ _ _=>ZcF) (λ_ _ _ _=>(Zbj (ZeX (K:=K) rfl) (pv 0) Zak (λ_ _=>rfl)))))
   (Zae (Zab (Zgo (i:=5) (N:=["word","gone"]) (ix:=[none,some 4]) rfl ZlL.nd rfl rfl rfl (ZbF rfl) rfl (ZbC (K:=K) rfl (ZaA (K:=K) rfl (pv 0) rfl)) (λ_ _ _ _=>(ZaN (i:=0) (show (["word","gone"]:AJ).Nodup from by decide +kernel) rfl (Or.inl rfl) (Or.inr rfl))) (λ_ _ _ _=>(ZeH (Zau (ZeO (K:=K) rfl) (pv 0) (pv 1) rfl))) (λ_ _ _ _=>(pv 0)))
   (Zae (Zab (Zb9 (pv 0) (Zal (Zl3 T) (hr.mono (by decide)) rfl T.c5 T.f_LD.kp T.dL .nil Zao (Zaa (Zat Zg3 (pv 5) (ZdF (N:=["told"]) (ix:=[none]) rfl (ZbF rfl) rfl (ZbC (K:=K) rfl (pv 2)) (λ_ _ _ _=>(ZaN (i:=0) (show (["told"]:AJ).Nodup from by decide +kernel) rfl (Or.inl rfl) (Or.inr rfl))) (λ_ _ _ _=>ZcF) (λ_ _ _ _=>(Zbj (ZeX (K:=K) rfl) (pv 0) Zak (λ_ _=>rfl))))) Zac)) rfl)
   (Zae (Zab (Zb9 (pv 0) (pv 1) rfl)
   (Zah (Zaq (Zcb (Zaa (pv 2) (Zaa (pv 3) Zac))))))))))))),?_⟩
  have sz:∀k:Nat,k<=30000->k<=sizeLine:=λk h=>YAK h (by rw[sizeLine_eq];decide);obtain⟨dx,f⟩:=hp;walk_at "rd";walk_at "g";have zl:=rwg.1;have yl:=rwc.1;refine⟨g,rfl,⟨_,.mk hg⟩,CompRun.listL (xs:=zs) (λ_=>true) (λi=>tx ((rg.map (·.1)).getD i [])) (by omega) (.mk hg) (λi H' Q' _ _ q=>q H' (Same.refl _)) ?_ ?_⟩
  .intro i H1 Q1 hi _ s1 q1;obtain⟨t,u,e1,e2⟩:=ZgV rwg hi;rw[e1];walk_at "rd";exact⟨t,_,_,_,rfl,rfl,.mk (s1 _ _ e2),atI0,q1 H1 (Same.refl _)⟩
  .intro pg H1 s1 n1 l1;rw[ZjA zl]at l1;walk_at "g";refine⟨p,_,dx,_,_,rfl,s1 _ _ f,T.ac,T.af,ZgT,la,rfl,⟨_,.mk (s1 _ _ hla)⟩,CompRun.listL (xs:=old.map tx) (λi=>!decide (old.getD i []∈rg.map (·.1))) (λi=>tx (old.getD i [])) (by rw[YAD];omega) (.mk (s1 _ _ hla)) ?_ ?_ ?_⟩
   .intro i H2 Q2 hi s2 q2;rw[YAD]at hi;rw[ZdV hi];walk_at "rd";refine⟨pg,_,rfl,.inl (.mk (s2 _ _ l1)),rfl,Zcf _,_,rfl,?_⟩;rw[YAM rfl,Zlb];exact q2 H2 (Same.refl _)
   .intro i H2 Q2 hi _ s2 q2;rw[YAD]at hi;rw[ZdV hi];walk_at "rd";exact q2 H2 (Same.refl _)
   .intro pk H2 s2 n2 l2k;have eh:((List.range (old.map tx).length).filter λi=>!decide (old.getD i []∈rg.map (·.1))).map (λi=>tx (old.getD i []))=(old.filter λv=>!decide (v∈rg.map (·.1))).map tx:=by rw[YAD,<-Zet (λv=>!decide (v∈rg.map (·.1))) [] old,YAu];rfl
    have e2:(old.filter λv=>!decide (v∈rg.map (·.1)))=old.filter λv=>decide (v∉rg.map (·.1)):=by congr 1;funext v;rw[decide_not]
    rw[eh,e2]at l2k;have fl:=YBB (λv=>decide (v∉rg.map (·.1))) old;generalize hk:old.filter (λv=>decide (v∉rg.map (·.1)))=kept at l2k fl;have s02:=s1.trans s2;walk_at "g";refine⟨c,rfl,⟨_,.mk (s02 _ _ hc)⟩,CompRun.listL (xs:=ys) (λ_=>true) (λi=>tx ((rc.map (·.1)).getD i [])) (by omega) (.mk (s02 _ _ hc)) (λi H' Q' _ _ q=>q H' (Same.refl _)) ?_ ?_⟩
    .intro i H3 Q3 hi _ s3 q3;obtain⟨t,u,e1,e2⟩:=ZgV rwc hi;rw[e1];walk_at "rd";exact⟨t,_,_,_,rfl,rfl,.mk ((s02.trans s3) _ _ e2),atI0,q3 H3 (Same.refl _)⟩
    .intro pc H3 s3 n3 l3;rw[ZjA yl]at l3;rw[Zni];refine⟨_,_,s3 _ _ l2k,l3,by rw[YAD,YAD,YAD];exact sz _ (by omega),NewL.of λpw H4 s4 n4 l4=>?_⟩;have s04:Same H H4:=s02.trans (s3.trans s4);rw[<-YAy]at l4;refine⟨pw,_,rfl,l4,λw hw=>?_,tk.same s04,λws r H5 pm pw5 sl tk5 nr lr=>?_⟩
     .rcases YAV.mp hw with h | h
      .rw[<-hk]at h;exact wo w (YBT.mp h).1
      .exact wn w ((mc w).mp h).1
     .rw[<-hk]at pm;have en:=Zml ho hn mc nd mg_ pm pw5;rw[en]at lr;have f5:=sl _ _ (s04 _ _ f) rfl;refine⟨p,_,dx,_,rfl,f5,T.ac,T.af,(by show 4<1000;decide),?_⟩;rw[show putF (Str.ofString "own_lacking") (.ref r) (sF l m la da)=sF l m r da from Zip];walk_at "g";refine⟨p,_,dx,_,rfl,Zag,T.ac,T.aa,(by show 4<1000;decide),sz _ (by decide),NewT.of λt H7 s7 n7 l7=>?_⟩;rw[show putF (Str.ofString "own_text") (tx l2) (sF l m r da)=sF l2 m r da from Zio]at s7;have nrp:p≠r:=Zad (s04 _ _ f) nr;refine q t r H7 ?_ ⟨dx,s7 _ _ Zag⟩ ((Nw.of nr).same s04) (s7 _ _ (by rw[Zai (YAh nrp),Zai (YAh nrp)];exact lr)) l7 ?_
      .exact s04.chg.trans (sl.chg.trans ((Chg.upd (by simp)).trans ((Chg.upd (by simp)).trans s7.chg)))
      .exact((tk5.upd f5 rfl rfl).upd Zag rfl rfl).same s7
theorem Zpd:FnScope ["thing","kinds"] ["thing","kinds"] (Zaj s_K9):=by walk_at "sc"
theorem ZpP (T:TL K mg base a tb):FnOk P w K mg base CX0 3 a.f_K9 a.d_K9 ["thing","kinds"] (sp_K9 K a):=by
 refine T.f_K9.ok Zpd (λvs H Q E h=>?_) (λBc A outer s H vs Q E hr h=>?_)
 .obtain⟨_,_,rfl,_⟩:=h;rfl
 .have Bf:=hr.units;obtain⟨v,m,rfl,q⟩:=h;refine⟨_,(Zah (Zaq (ZcG (Zal (Zl2 T) (hr.mono (by decide)) rfl T.dG T.f_LH.kp T.dH .nil Zao (Zaa (pv 0) (Zaa (pv 1) (Zaa Zak Zac)))) (ZdE (Zbz (ZaQ (K:=K) rfl Bf) (Zan (ZaM (K:=K) rfl) rfl T.z_len Zbr (Zaa (pv 0) Zac)) Zak (ZaC _)))))),?_⟩;walk_at "rd";rcases q with⟨l,rfl,hl,q⟩|⟨o,q⟩
  .refine⟨_,m,1,rfl,.inl ⟨l,rfl,hl,λH1 s1=>⟨_,rfl,ite2 (λh=>?_) (λh=>?_)⟩⟩⟩
   .refine⟨_,_,rfl,Zb3 hl,.inl ⟨rfl,?_⟩⟩;have e:=q H1 s1;unfold isl at e;rw[h,YBt]at e;rw[YAI YAC];simpa using e
   .have e:=q H1 s1;unfold isl at e;rw[YBu.mpr h,YBZ]at e;exact e
  .exact⟨_,m,1,rfl,.inr ⟨o,_,rfl,iteF q⟩⟩
theorem Zpk:FnScope ["thing"] ["thing"] (Zaj s_K0):=by walk_at "sc"
theorem Zl9 (T:TL K mg base a tb):FnOk P w K mg base (CXr P w) 3 a.f_K0 a.d_K0 ["thing"] (sp_K0 K a):=by
 refine T.f_K0.okX Zpk (λvs H Q E h=>?_) (λBc A outer s H vs Q E hr h=>?_)
 .obtain⟨_,rfl,_⟩:=h;rfl
 .obtain⟨v,rfl,q⟩:=h;refine⟨_,(Zah (Za1 (ZaU (ZaP (Zal (ZpE T) (hr.mono (by decide)) rfl T.m_LE T.f_LE.kp T.b_LE .nil Zao (Zaa (pv 0) Zac)))) (Zah (Zbv Zbk rfl (Zca T.x_LF T.i_LF rfl T.m_LF (Zaa (Zar (l:=[107,105,110,100,115,32,97,114,101,32,111,110,101,32,116,111,32,102,111,117,114,32,117,110,108,105,107,101,32,115,109,97,108,108,32,108,101,116,116,101,114,115,44,32,114,105,115,105,110,103]) (by decide +kernel)) Zac)))) Zax)),?_⟩;walk_at "rd";have up:∀H1,Same H H1->XNk a E H->(1<=1000/\Mk0 a.c_LF H1 λv H1=>∃e C d,v=.ref e/\H1 e=some (xo e C d)/\Xm K C/\E (.ref C) (some e) (upd H1 e (xr e C d))):=λH1 s1 z=>
   ⟨by decide,λe he=>⟨e,_,none,rfl,Zag,T.x_LF,z e _ (s1.trans (ZbK he)) (.bare Zag)⟩⟩
  rcases q with⟨l,rfl,hl,hk,q⟩|⟨⟨l,rfl,hl,hk⟩ | o,q⟩
  .exact⟨_,rfl,.inl ⟨l,rfl,hl,λH2 s2=>⟨_,rfl,by rw[hk];exact iteF (q H2 s2)⟩⟩⟩
  .exact⟨_,rfl,.inl ⟨l,rfl,hl,λH2 s2=>⟨_,rfl,by rw[hk];exact iteT (up H2 s2 q)⟩⟩⟩
  .exact⟨_,rfl,.inr ⟨o,_,rfl,iteT (up H (Same.refl _) q)⟩⟩
theorem ZoV:FnScope ["thing","kinds","most"] ["thing","kinds","most"] (Zaj s_LA):=by walk_at "sc"
theorem ZpG (T:TL K mg base a tb):FnOk P w K mg base CX0 3 a.f_LA a.d_LA ["thing","kinds","most"] (sp_LA K a):=by
 refine T.f_LA.ok ZoV (λvs H Q E h=>?_) (λBc A outer s H vs Q E hr h=>?_)
 .obtain⟨_,_,_,rfl,_⟩:=h;rfl
 .obtain⟨l,m,most,rfl,hl,hw,q⟩:=h;refine⟨_,(Zah (Za1 (ZaU (ZaP (Zal (Zl2 T) (hr.mono (by decide)) rfl T.dG T.f_LH.kp T.dH .nil Zao (Zaa (pv 0) (Zaa (pv 1) (Zaa (pv 2) Zac)))))) (Zah Zj5) Zax)),?_⟩;walk_at "rd";refine⟨_,m,most,rfl,.inl ⟨l,rfl,hl,λH2 s2=>⟨_,rfl,?_⟩⟩⟩;rw[hw,YCv];exact iteF (q H2 s2)
theorem ZoR:FnScope ["thing"] ["thing"] (Zaj s_LG):=by walk_at "sc"
theorem Zka (T:TL K mg base a tb):FnOk P w K mg base CX0 3 a.f_LG a.d_LG ["thing"] (sp_LG K a):=by
 refine T.f_LG.ok ZoR (λvs H Q E h=>?_) (λBc A outer s H vs Q E hr h=>?_)
 .obtain⟨_,rfl,_⟩:=h;rfl
 .have Bf:=hr.units;obtain⟨v,rfl,q⟩:=h;refine⟨_,(Zah (Zaq (ZcG (Zal (Zl2 T) (hr.mono (by decide)) rfl T.dG T.f_LH.kp T.dH .nil Zao (Zaa (pv 0) (Zaa (Zg0 rfl T.c_KC) (Zaa (Zdo rfl T.c_KD) Zac)))) (ZdE (Zbz (ZiJ (K:=K) rfl Bf) (pv 0) (Zar (l:=[]) (by decide +kernel)) (ZaC _)))))),?_⟩;walk_at "rd";rw[ZiY];rcases q with⟨n,rfl,hn,q⟩|⟨o,q⟩
  .refine⟨_,LET,8,rfl,.inl ⟨n,rfl,hn,λH2 s2=>⟨_,rfl,ite2 (λh=>?_) (λh=>?_)⟩⟩⟩
   .refine .inl (.inl ⟨rfl,?_⟩);rw[YAM rfl,Zcs];have e:=q H2 s2;unfold isn at e;rw[h,YBt,decide_not]at e;exact e
   .have e:=q H2 s2;unfold isn at e;rw[YBu.mpr h,YBZ]at e;exact e
  .exact⟨_,LET,8,rfl,.inr ⟨o,_,rfl,iteF q⟩⟩
theorem Zm3:FnScope ["lesser","longer","reason","word"] ["lesser","longer","reason"] (Zaj s_LR):=by walk_at "sc"
theorem Zny (T:TL K mg base a tb):FnOk P w K mg base CX0 3 a.f_LR a.d_LR ["lesser","longer","reason"] (sp_LR K a):=by
 refine T.f_LR.ok Zm3 (λvs H Q E h=>?_) (λBc A outer s H vs Q E hr h=>?_)
 .obtain⟨_,_,_,_,rfl,_⟩:=h;rfl
 .obtain⟨s_,L,rs,m,rfl,hL,ex,hm,hrise,tk,q⟩:=h;refine⟨_,(Zab (Zap (i:=3) Zm3.nd rfl (Or.inl rfl) (Zbj (Za5 (K:=K) rfl) (Zal (Znw T) (hr.mono (by decide)) rfl T.m_LZ T.f_LZ.kp T.b_LZ .nil Zao (Zaa (pv 0) (Zaa (pv 1) Zac))) Zak (λ_ _=>rfl)))
   (Zah (Zaq (Zbm (Zaa (Zcb (Zaa (pv 3) (Zaa (Zcb (Zaa (pv 2) (Zaa (ZkZ (K:=K) rfl YCT PySem.F.slot_str_find PySem.F.type_str_find Zg7 (pv 1) (Zaa (pv 3) Zac)) Zac))) Zac))) Zac))))),?_⟩
  walk_at "rd";refine⟨s_,L,rfl,hL,ex,tk,λF r H1 pw mF sl tk1 nr lr=>?_⟩;walk_at "rd?";obtain⟨w0,F',rfl⟩:∃w0 F',F=w0::F':=by
   have:L∈F:=(mF L).mpr ⟨Inf.refl L,λz=>by have:=z.len;have:=ex.len;omega⟩;cases F with
   | nil=>cases this
   | cons x F'=>exact⟨x,F',rfl⟩
  have f0:=(mF w0).mp YAg;have hmn:∀w,Frs s_ L w->¬BefW w w0:=λw hw hb=>by
   rcases YAE.mp ((mF w).mpr hw) with rfl | h
   .exact Zdt hb
   .exact Zga hb ((YBC.mp pw).1 w h)
  have eF:=Zkw ex hm hrise f0 hmn;refine⟨r,_,_,_,rfl,rfl,.mk lr,atI0,rfl,L,w0,rfl,rfl,λk hk=>⟨sz _ (by decide),NewT.of λt1 H2 s2 n2 l2=>⟨sz _ (by decide),NewT.of λt2 H3 s3 n3 l3=>⟨sz _ (by decide),NewL.of λp4 H4 s4 n4 l4=>?_⟩⟩⟩⟩;have ek:k=((fpl L w0:Nat):Int):=by
   rcases hk with⟨_,no⟩|⟨i,rfl,at_,mn⟩
   .exact absurd f0.1 no
   .rw[Zlf at_ mn]
  have s14:=s2.trans (s3.trans s4);refine q [.ref t2] p4 H4 (sl.trans s14.l) (tk1.same s14) ((((Nw.of n4).same s3).same s2).l sl) l4 ?_;subst ek;unfold Zb2;rw[eF];refine⟨rfl,λi y hy=>?_⟩
  match i,hy with
  | 0,hy=>
   cases hy;exact⟨_,rfl,t2,t1,rfl,s4 _ _ l3,(s3.trans s4) _ _ l2⟩
theorem Zhx:FnScope ["lesser","longer","kinds","reason","found","shorter","told","letter","word"] ["lesser","longer","kinds","reason"] (Zaj s_LV):=by walk_at "sc"
theorem Znx (T:TL K mg base a tb):FnOk P w K mg base CX0 3 a.f_LV a.d_LV ["lesser","longer","kinds","reason"] (sp_LV K a):=by
 refine T.f_LV.ok Zhx (λvs H Q E h=>?_) (λBc A outer s H vs Q E hr h=>?_)
 .obtain⟨_,_,_,_,rfl,_⟩:=h;rfl
 .have hu1:=ZaG hr;obtain⟨s_,L,rs,m,rfl,hL,ex,hm,hrise,m4,tk,q⟩:=h;refine⟨_,(Zab (Zap (i:=4) Zhx.nd rfl (Or.inr rfl) ZeL)
   (Zae (Zab (ZbB YBJ rfl (ZbC (K:=K) rfl (Zal (Znw T) (hr.mono (by decide)) rfl T.m_LZ T.f_LZ.kp T.b_LZ .nil Zao (Zaa (pv 0) (Zaa (pv 1) Zac)))) (ZaN (i:=5) Zhx.nd rfl (Or.inl rfl))
   (Zab (Zap (i:=6) Zhx.nd rfl (Or.inl rfl) (Zcb (Zaa (pv 3) (Zaa (pv 5) (Zaa (ZkZ (K:=K) rfl YCT PySem.F.slot_str_find PySem.F.type_str_find Zg7 (pv 1) (Zaa (pv 5) Zac)) Zac)))))
   (Zah (ZbB YBJ rfl (ZeI (pv 2)) (ZaN (i:=7) Zhx.nd rfl (Or.inl rfl))
   (Zah (ZbB YBJ rfl (ZbC (K:=K) rfl (Zbm (Zaa (Zat Za2 (pv 5) (pv 7)) (Zaa (Zat Za2 (pv 7) (pv 5)) Zac)))) (ZaN (i:=8) Zhx.nd rfl (Or.inl rfl))
   (Zah (Za1 (ZaP (Zal (ZpJ T) (hr.mono (by decide)) rfl T.m_L0 T.f_L0.kp T.b_L0 .nil Zao (Zaa (pv 1) (Zaa (pv 8) Zac)))) (Zae (Zah (Zgn hu1 (pv 4) (pv 8) (pv 6) rfl))) Zax))))))))
   (Zah (Zaq (ZdF (N:=["word","found"]) (ix:=[none,some 4]) rfl (ZbF rfl) rfl (ZbC (K:=K) rfl (Zal (Zl3 T) (hr.mono (by decide)) rfl T.c5 T.f_LD.kp T.dL .nil Zao (Zaa (Zbq (ZhY rfl) rfl T.z_list Zc5 (Zaa (pv 4) Zac)) Zac))) (λ_ _ _ _=>(ZaN (i:=0) (show (["word","found"]:AJ).Nodup from by decide +kernel) rfl (Or.inl rfl) (Or.inr rfl))) (λ_ _ _ _=>ZcF) (λ_ _ _ _=>(Zcb (Zaa (pv 0) (Zaa (ZeM hu1 (pv 1) (pv 0) (λ_ _=>rfl)) Zac)))))))))),?_⟩
  walk_at "rd";intro pd hpd;walk_at "g";have s0:Same H (upd H pd (.dK [])):=ZaE hpd;have h0:upd H pd (.dK []) pd=some (.dK []):=Zag;generalize upd H pd (.dK [])=H0 at s0 h0;refine⟨s_,L,rfl,hL,ex,tk.same s0,λF pF H1 pw mF sl tk1 nF lF=>?_⟩;have d1:=sl _ _ h0 rfl;have nFd:pd≠pF:=λz=>by rw[z,lF]at d1;cases d1
  have FL:F.length<=82:=by have nd:F.Nodup:=ZcH pw;have hs:∀w∈F,w∈Za4 L L.length:=λw hw=>ZfG.mpr ((Zjk ex).mp ((mF w).mp hw)).1;have:=ZdJ F _ nd hs;rw[ZcP]at this;omega
  refine⟨pF,rfl,⟨_,.mk lF⟩,ForRun.list (xs:=F.map tx) (λi U H'=>∃v5 v6 v7 v8 kvs ws,U=[some (tx s_),some (tx L),some (tx m),some (tx rs),some (.ref pd),v5,v6,v7,v8]/\(∀b o,H1 b=some o->b≠pd->H' b=some o)/\H' pd=some (.dK kvs)/\DI H' s_ L rs (λw=>∃sh∈F.take i,∃c∈m,w=sh++[c]\/w=c::sh) kvs ws/\kvs.length<=i*8) ⟨_,_,_,_,[],[],rfl,λb o e _=>e,d1,⟨rfl,by simp,λw=>by simp,by simp⟩,by simp⟩ (λi U H' _ ⟨_,_,_,_,_,_,_,k',_⟩=>.mk (k' _ _ lF (YAh nFd))) ?_ ?_⟩
  .rintro i x U H2 hx ⟨v5,v6,v7,v8,kvs,ws,rfl,k2,d2,i2,n2⟩;obtain⟨sh,hsh,rfl⟩:∃sh,F[i]?=some sh/\x=tx sh:=by
    rw[YAi]at hx;cases e:F[i]? with
    | none=>rw[e]at hx;cases hx
    | some sh=>rw[e]at hx;exact⟨sh,rfl,(Option.some.inj hx).symm⟩
   have fsh:=(mF sh).mp (YAq hsh);have shl:=fsh.1.len;have hi:i<F.length:=(YAj.mp hsh).1;walk_at "rd";refine⟨rfl,L,sh,rfl,rfl,λr hr=>⟨sz _ (by decide),NewT.of λt1 H3 s3 n3 l3=>?_⟩⟩;have er:r=((fpl L sh:Nat):Int):=by
    rcases hr with⟨_,no⟩|⟨i,rfl,at_,mn⟩
    .exact absurd fsh.1 no
    .rw[Zlf at_ mn]
   subst er;have d3:=s3 _ _ d2;refine⟨m,rfl,ForRun.text (λj U H'=>∃v7 v8 kvs ws,U=[some (tx s_),some (tx L),some (tx m),some (tx rs),some (.ref pd),some (tx sh),some (.ref t1),v7,v8]/\(∀b o,H1 b=some o->b≠pd->H' b=some o)/\H' t1=some (.tup [tx rs,tx sh,.int ((fpl L sh:Nat):Int)])/\H' pd=some (.dK kvs)/\DI H' s_ L rs (λw=>(∃sh∈F.take i,∃c∈m,w=sh++[c]\/w=c::sh)\/∃c∈m.take j,w=sh++[c]\/w=c::sh) kvs ws/\kvs.length<=i*8+2*j) ⟨_,_,_,_,rfl,λb o e nb=>s3 _ _ (k2 b o e nb),l3,d3,i2.grow (λb us e=>s3 _ _ e) (λw _=>by simp),by omega⟩ ?_ ?_⟩
   .rintro j c U H4 hc ⟨v7,v8,kvs,ws,rfl,k4,t4,d4,i4,n4⟩;have hcm:c∈m:=YAq hc;have hj:j<m.length:=(YAj.mp hc).1;walk_at "rd";refine⟨sz _ (by omega),sz _ (by omega),sz _ (by decide),NewL.of λpl H5 s5 n5 l5=>?_⟩;have nl:pd≠pl:=Zad d4 n5;refine⟨pl,rfl,⟨_,.mk l5⟩,ForRun.list (xs:=[tx (sh++[c]),tx (c::sh)]) (λk U H'=>∃v8 kvs ws,U=[some (tx s_),some (tx L),some (tx m),some (tx rs),some (.ref pd),some (tx sh),some (.ref t1),some (tx [c]),v8]/\(∀b o,H1 b=some o->b≠pd->H' b=some o)/\H' t1=some (.tup [tx rs,tx sh,.int ((fpl L sh:Nat):Int)])/\H' pl=some (.lst [tx (sh++[c]),tx (c::sh)])/\H' pd=some (.dK kvs)/\DI H' s_ L rs (λw=>((∃sh∈F.take i,∃c∈m,w=sh++[c]\/w=c::sh)\/∃c∈m.take j,w=sh++[c]\/w=c::sh)\/w∈[sh++[c],c::sh].take k) kvs ws/\kvs.length<=i*8+2*j+k) ⟨_,_,_,rfl,λb o e nb=>s5 _ _ (k4 b o e nb),s5 _ _ t4,l5,s5 _ _ d4,i4.grow (λb us e=>s5 _ _ e) (λw _=>by simp),by omega⟩ (λk U H' _ ⟨_,_,_,_,_,_,l',_⟩=>.mk l') ?_ ?_⟩
    .rintro k y U H6 hy ⟨v8,kvs,ws,rfl,k6,t6,l6,d6,i6,n6⟩;obtain⟨z,hz,rfl,ez⟩:∃z,[sh++[c],c::sh][k]?=some z/\y=tx z/\(z=sh++[c]\/z=c::sh):=by
      match k,hy with
      | 0,hy=>cases hy;exact⟨_,rfl,rfl,.inl rfl⟩
      | 1,hy=>cases hy;exact⟨_,rfl,rfl,.inr rfl⟩
     have zl:z.length=sh.length+1:=by rcases ez with rfl | rfl<;>simp
     have zne:z≠[]:=λe=>by rw[e]at zl;simp at zl
     have hk:k<2:=(YAj.mp hz).1;walk_at "rd";refine⟨L,z,rfl,by omega,by omega,_,rfl,?_⟩;have tkS:∀w,w∈[sh++[c],c::sh].take (k+1)↔(w∈[sh++[c],c::sh].take k\/w=z):=λw=>by rw[Zdx hz,YAV,YAG]
     cases hb:Zi4 L z with
     | false=>
      have nm:¬Miss L z:=λh=>by rw[(ZfM zne).mpr h]at hb;cases hb
      refine iteF ⟨_,kvs,ws,rfl,k6,t6,l6,d6,i6.grow (λ_ _ e=>e) (λw mw=>?_),by omega⟩;rw[tkS];constructor
      .rintro (h | h)
       .exact .inl h
       .exact .inr (.inl h)
      .rintro (h | h | h)
       .exact .inl h
       .exact .inr h
       .exact absurd (h▸mw) nm
     | true=>
      have mz:=(ZfM zne).mp hb;refine iteT ?_;walk_at "g";have es:shOf s_ z=sh:=Zns ex fsh ez mz;obtain⟨ws',i7⟩:=i6.put (x:=z) (b:=t1) mz (by rw[es];exact t6);have np:pd≠pl:=λe=>by rw[e,l6]at d6;cases d6
      have nt:t1≠pd:=λe=>by rw[e,d6]at t6;cases t6
      have lp:=ZbV kvs (kTx z) (.ref t1);refine⟨pd,_,rfl,DPut.k (k:=kTx z) d6 (YAn (show _<9000 by omega) (sz 9000 (YAS _))),_,putK kvs (kTx z) (.ref t1),ws',rfl,λb o e nb=>by rw[Zai nb];exact k6 b o e nb,by rw[Zai nt];exact t6,by rw[Zai (YAh np)];exact l6,Zag,i7.grow (λb us e=>?_) (λw _=>?_),by omega⟩
      .rw[Zai (λe2=>by rw[e2,d6]at e;cases e)];exact e
      .rw[tkS];constructor
       .rintro ((h | h) | h)
        .exact .inl h
        .exact .inr (.inl h)
        .exact .inr (.inr h)
       .rintro (h | h | h)
        .exact .inl (.inl h)
        .exact .inl (.inr h)
        .exact .inr h
    .rintro U H6 ⟨v8,kvs,ws,rfl,k6,t6,l6,d6,i6,n6⟩;refine⟨_,_,kvs,ws,rfl,k6,t6,d6,i6.grow (λ_ _ e=>e) (λw _=>?_),by simp at n6;omega⟩;rw[Zdx hc];simp only[YAV,YAG];constructor
     .rintro ((h | ⟨d,hd,h⟩) | h)
      .exact .inl h
      .exact .inr ⟨d,.inl hd,h⟩
      .exact .inr ⟨c,.inr rfl,by simpa using h⟩
     .rintro (h | ⟨d,hd | rfl,h⟩)
      .exact .inl (.inl h)
      .exact .inl (.inr ⟨d,hd,h⟩)
      .exact .inr (by simpa using h)
   .rintro U H4 ⟨v7,v8,kvs,ws,rfl,k4,t4,d4,i4,n4⟩;refine⟨_,_,_,_,kvs,ws,rfl,k4,d4,i4.grow (λ_ _ e=>e) (λw _=>?_),by omega⟩;rw[YDC,Zdx hsh];simp only[YAV,YAG];constructor
    .rintro (⟨s',hs,h⟩ | h)
     .exact⟨s',.inl hs,h⟩
     .exact⟨sh,.inr rfl,h⟩
    .rintro⟨s',hs | rfl,h⟩
     .exact .inl ⟨s',hs,h⟩
     .exact .inr h
  .rintro U H2 ⟨v5,v6,v7,v8,kvs,ws,rfl,k2,d2,i2,n2⟩;walk_at "rd";rw[YAD,YDC]at i2;have e3:kvs.map (λp=>kV p.1)=ws.map tx:=by
    have:kvs.map (λp=>kV p.1)=(kvs.map (·.1)).map kV:=by rw[YAu];rfl
    rw[this,i2.keys,YAu];rfl
   refine⟨pd,kvs,rfl,.inl d2,NewL.of λp3 H3 s3 n3 l3=>?_⟩;rw[e3]at l3;have mws:∀w,w∈ws↔w∈opnL s_ L m:=λw=>by
    rw[i2.mem,ZeS,<-Zl0 ex hm];constructor
    .rintro⟨ms,sh,h1,c,h2,h3⟩;exact⟨sh,c,(mF sh).mp h1,h2,h3,ms⟩
    .rintro⟨sh,c,h1,h2,h3,ms⟩;exact⟨ms,sh,(mF sh).mpr h1,c,h2,h3⟩
   have tk2:=ZjN tk1 k2 d1 rfl rfl;refine⟨p3,ws,rfl,l3,λw hw=>?_,tk2.same s3,λws' r H4 pm pw4 sl4 tk4 nr lr=>?_⟩
   .have:=((i2.mem w).mp hw).1.init.len;rw[YBQ]at this;omega
   .have ew:ws'=opnL s_ L m:=ZbI (Zcy pm pw4 i2.nd) ((ZaZ hrise).filter _) λw=>by rw[pm.mem_iff,mws]
    subst ew;have d4:=sl4 _ _ (s3 _ _ d2) rfl;have ol:(opnL s_ L m).length<=9000:=by have:=pm.length_eq;have e5:=congrArg List.length e3;rw[YAD,YAD]at e5;rw[YAD]at n2;omega
    refine⟨r,rfl,⟨_,.mk lr⟩,CompRun.tups (xs:=(opnL s_ L m).map tx) (λi vs=>∃w b,(opnL s_ L m)[i]?=some w/\vs=[tx w,.ref b]/\valV kvs (kTx w)=some (.ref b)) (by rw[YAD];omega) (.mk lr) ?_ ?_⟩
    .intro i H5 Q5 hi s5 q5;rw[YAD]at hi;rw[ZdV hi];have hw:(opnL s_ L m)[i]?=some ((opnL s_ L m).getD i []):=by rw[YAY,YAN hi];rfl
     obtain⟨b,hv,_⟩:=i2.val _ ((mws _).mpr (YAq hw));walk_at "rd";have dg:=DGet.k (k:=kTx ((opnL s_ L m).getD i [])) (s5 _ _ d4);rw[hv]at dg;refine⟨pd,_,rfl,dg,sz _ (by decide),NewT.of λt6 H6 s6 n6 l6=>q5 t6 _ H6 s6 l6 ⟨_,b,hw,rfl,hv⟩⟩
    .intro p5 ys H5 s5 n5 l5 yl hys;have n4':Nw H p5:=((((Nw.of n5).l sl4).same s3).chg (S:=[pd]) (H:=H1) (λb o e nb _=>k2 b o e (by simpa using nb)) (λb hb=>by obtain rfl:=YAG.mp hb;exact⟨_,d2,rfl⟩)).l (s0.l.trans sl);refine q ys p5 H5 (λb o e t=>?_) (tk4.same s5) n4' l5 ⟨?_,λi y hy=>?_⟩
     .have nb:b≠pd:=Zad e hpd;exact s5 _ _ (sl4 _ _ (s3 _ _ (k2 _ _ (sl _ _ (s0 _ _ e) t) nb)) t)
     .unfold ZbT;rw[YAD,yl,YAD]
     .obtain⟨t,vs,rfl,ht,w,b,hw,rfl,hv⟩:=hys i y hy;obtain⟨b',hv',hb'⟩:=i2.val w ((mws w).mpr (YAq hw));obtain rfl:b=b':=by rw[hv]at hv';injection hv' with e;injection e
      refine⟨_,by unfold ZbT;rw[YAi,hw];rfl,t,b,rfl,ht,s5 _ _ (sl4 _ _ (s3 _ _ hb') rfl)⟩
theorem Zpb:FnScope ["self","strip","ranks","name","share","ahead"] ["self","strip"] (Zaj s_KE):=by walk_at "sc"
theorem ZpN (T:TL K mg base a tb):FnOk P w K mg base (CXr P w) 3 a.bw a.cH ["self","strip"] (sp_KE K a):=by
 refine T.fm_KE.okX Zpb (λvs H Q E h=>?_) (λBc A outer s H vs Q E hr h=>?_)
 .obtain⟨_,_,_,_,_,_,_,rfl,_⟩:=h;rfl
 .obtain⟨p,q_,dA,l,m,m2,F,rfl,hp,hq,nm,q⟩:=h;refine⟨_,(Zab (ZaF (Zal (ZnL T) (hr.mono (by decide)) rfl T.m_K1 T.f_K1.kp T.b_K1 .nil Zbn (Zaa (pv 0) (Zaa (pv 1) Zac))))
   (Zab Zj5
   (Zab Zj5
   (Zah Zj5)))),?_⟩
  walk_at "rd";exact⟨p,q_,dA,l,m,m2,F,rfl,hp,hq,.inr ⟨nm,q⟩⟩
theorem Zo6:FnScope ["thing","kinds"] ["thing","kinds"] (Zaj s_KM):=by walk_at "sc"
theorem ZpL (T:TL K mg base a tb):FnOk P w K mg base (CXr P w) 4 a.f_KM a.d_KM ["thing","kinds"] (sp_KM K a):=by
 refine T.f_KM.okX Zo6 (λvs H Q E h=>?_) (λBc A outer s H vs Q E hr h=>?_)
 .obtain⟨_,_,rfl,_⟩:=h;rfl
 .obtain⟨v,m,rfl,q⟩:=h;refine⟨_,(Zah (Za1 (ZaU (ZaP (Zal (ZpP T) (hr.mono (by decide)) rfl T.m_K9 T.f_K9.kp T.b_K9 .nil Zao (Zaa (pv 0) (Zaa (pv 1) Zac))))) (Zah (Zbv Zbk rfl (Zdn T.cW T.i_LO T.eG (Zed T) (hr.mono (by decide)) T.b_LO Zao rfl T.m_LO (Zaa (pv 0) Zac)))) Zax)),?_⟩;walk_at "rd";have up:∀H1,Same H H1->XNw a E H v->(1<=1000/\MkI (Zb5 K a.c_LO 1 (fs1 (Str.ofString "word"))) E0 a.c_LO [v] H1 λv H1=>∃e C d,v=.ref e/\H1 e=some (xo e C d)/\Xm K C/\E (.ref C) (some e) (upd H1 e (xr e C d))):=λH1 s1 z=>
   ⟨by decide,MkI.of rfl λe H2 s2 n2 x2=>by obtain⟨d,hd,hx⟩:=ZcD x2;exact⟨e,_,d,rfl,hd,T.cW,z e _ (s1.trans (same_upd3 s2 n2)) hx⟩⟩
  rcases q with⟨l,rfl,hl,hk,q⟩|⟨⟨l,rfl,hl,hk⟩ | o,q⟩
  .exact⟨_,_,rfl,.inl ⟨l,rfl,hl,λH2 s2=>⟨_,rfl,by rw[hk];exact iteF (q H2 s2)⟩⟩⟩
  .exact⟨_,_,rfl,.inl ⟨l,rfl,hl,λH2 s2=>⟨_,rfl,by rw[hk];exact iteT (up H2 s2 q)⟩⟩⟩
  .exact⟨_,_,rfl,.inr ⟨o,_,rfl,iteT (up H (Same.refl _) q)⟩⟩
theorem ZlJ:FnScope ["self","longer","came","went"] ["self","longer"] (Zaj s_KY):=by walk_at "sc"
theorem ZnB (T:TL K mg base a tb):FnOk P w K mg base CX0 4 a.bF a.cR ["self","longer"] (sp_KY K a):=by
 refine T.fm_KY.ok ZlJ (λvs H Q E h=>?_) (λBc A outer s H vs Q E hr h=>?_)
 .obtain⟨_,_,_,_,_,_,rfl,_⟩:=h;rfl
 .obtain⟨p,la,da,s_,L,m,rfl,hp,hla,hL,ex,hm,ok,tk,q⟩:=h;refine⟨_,(Zae (Zab (Zap (i:=2) ZlJ.nd rfl (Or.inl rfl) (Zal (Znx T) (hr.mono (by decide)) rfl T.m_LV T.f_LV.kp T.b_LV .nil Zao (Zaa (ZaA (K:=K) rfl (pv 0) rfl) (Zaa (pv 1) (Zaa (ZaA (K:=K) rfl (pv 0) rfl) (Zaa (Zar (l:=[102,105,114,115,116]) (by decide +kernel)) Zac))))))
   (Zae (Zab (Zap (i:=3) ZlJ.nd rfl (Or.inl rfl) (Zal (Zny T) (hr.mono (by decide)) rfl T.m_LR T.f_LR.kp T.b_LR .nil Zao (Zaa (ZaA (K:=K) rfl (pv 0) rfl) (Zaa (pv 1) (Zaa (Zar (l:=[115,116,97,110,100,115]) (by decide +kernel)) Zac)))))
   (Zae (Zah (Zaq (ZaB (pv 0) T.ac T.bW (ZnI T) (hr.mono (by decide)) T.b_KF .nil Zao (Zaa (pv 1) (Zaa (pv 2) (Zaa (pv 3) Zac))))))))))),?_⟩
  obtain⟨dx,f⟩:=hp;have m4:=ok.m4;walk_at "rd";walk_at "g";refine⟨p,_,dx,_,_,rfl,f,T.ac,T.aa,ZaX,p,_,dx,_,_,rfl,f,T.ac,T.ag,Zb6,?_⟩;refine⟨s_,L,_,m,rfl,by omega,ex,hm,ok.rise,m4,tk,λys c H1 sl1 tk1 n1 l1 r1=>?_⟩;walk_at "g";have f1:=sl1 _ _ f rfl;refine⟨p,_,dx,_,_,rfl,f1,T.ac,T.aa,ZaX,?_⟩;refine⟨s_,L,_,m,rfl,by omega,ex,hm,ok.rise,tk1,λzs g H2 sl2 tk2 n2 l2 r2=>?_⟩;walk_at "g";have f2:=sl2 _ _ f1 rfl;have l12:=sl2 _ _ l1 rfl;have la2:=sl2 _ _ (sl1 _ _ hla rfl) rfl;have sl02:=sl1.trans sl2;have ncg:c≠g:=n2.ne l1 rfl;refine⟨p,dx,_,rfl,f2,sN,p,la,da,c,g,s_,L,m,ZaK s_ m,ZaK L m,ys,zs,_,_,rfl,⟨dx,f2⟩,la2,l12,r1.l sl2,l2,r2,ZaZ ok.rise,ZaZ ok.rise,?_,?_,?_,?_,?_,?_,?_,?_,tk2,?_⟩
  .rw[Zb7];exact ZcH ((ZaZ ok.rise).filter _)
  .intro w;rw[Zb7,ZeS]
  .intro w;rw[Zb8,ZeT]
  .exact YAK (ZbN m4 (by have:=ex.len;omega)) (by decide)
  .rw[<-YAD (f:=(·.1)),Zb7];exact YAK (YBB _ _) (YAK (ZbN m4 (by omega)) (by decide))
  .rw[<-YAD (f:=(·.1)),Zb8];exact YAK (YBB _ _) (YAK (ZbN m4 (by have:=ex.len;omega)) (by decide))
  .intro w hw;have:=ZcN (by have:=ex.len;omega) hw;omega
  .intro w hw;have:=ZcN hL hw;omega
  .intro t la3 H3 ch3 f3 nl3 e3 t3 tk3;have np:∀us,H2 p≠some (.tup us):=λus z=>by rw[f2]at z;cases z
   have ncp:p≠c:=n1.ne f rfl;have ngp:p≠g:=n2.ne f1 rfl;refine q t c g la3 H3 (sl02.chg.trans ch3) f3 e3 ⟨t3,⟨ys,ch3 _ _ l12 (by simpa using YAh ncp) rfl,(r1.l sl2).chg ch3 (λb hb us=>by rw[YAG.mp hb];exact np us)⟩,⟨zs,ch3 _ _ l2 (by simpa using YAh ngp) rfl,r2.chg ch3 (λb hb us=>by rw[YAG.mp hb];exact np us)⟩,n1,n2.l sl1,nl3.l sl02,ncg,nl3.ne l12 rfl,nl3.ne l2 rfl⟩ tk3
theorem ZoY:FnScope ["self","kinds"] ["self","kinds"] (Zaj s_KZ):=by walk_at "sc"
theorem Zkb (T:TL K mg base a tb):FnOk P w K mg base CX0 4 a.aV a.cM ["self","kinds"] (sp_KZ K a):=by
 refine T.fm_KZ.ok ZoY (λvs H Q E h=>?_) (λBc A outer s H vs Q E hr h=>?_)
 .obtain⟨_,_,_,rfl,_⟩:=h;rfl
 .obtain⟨p,dx,m,rfl,hp,kok,q⟩:=h;refine⟨_,(Zab (ZaF (Zal (Zl9 T) (hr.mono (by decide)) rfl T.dI T.f_K0.kp T.dJ .nil ZaL (Zaa (pv 1) Zac)))
   (Zae (Zab (ZaF (Zg1 rfl T.m_L6 T.dm (ZnK T) (hr.mono (by decide)) T.dE T.b_K2 .nil Zao (Zaa (pv 0) (Zaa (Zar (l:=[]) (by decide +kernel)) (Zaa (pv 1) Zac)))))
   (Zae (Zab (Zb9 (pv 0) (Zbq (Zdf rfl) rfl T.z_list Zc5 (Zaa (pv 1) Zac)) rfl)
   (Zae (Zah (Zb9 (pv 0) (Zbm Zac) rfl)))))))),?_⟩
  walk_at "rd";have m4:=kok.m4;refine⟨_,rfl,.inl ⟨m,rfl,by omega,kok.k,λH1 s1=>?_⟩⟩;walk_at "h";refine⟨p,dx,_,[],m,rfl,.inr rfl,s1 _ _ hp,λH2 f2 k2=>?_⟩;walk_at "h";refine⟨m,rfl,by omega,NewL.of λla H3 s3 n3 l3=>?_⟩;have f3:=s3 _ _ f2;refine⟨p,_,dx,_,rfl,f3,T.ac,T.af,(by show 2<1000;decide),?_⟩;walk_at "g";refine⟨YAx _,NewL.of λda H4 s4 n4 l4=>?_⟩;have nla:p≠la:=Zad f2 n3;have kr:=kok.kinds;have f4:=s4 _ _ (Zag (H:=H3) (a:=p) (o:=.ins a.c_LY dx (putF (Str.ofString "own_lacking") (.ref la) (putF "own_kinds" (tx m) (putF "own_text" (tx []) [])))));have l4':upd H3 p (.ins a.c_LY dx (putF (Str.ofString "own_lacking") (.ref la) (putF "own_kinds" (tx m) (putF "own_text" (tx []) [])))) la=some (.lst ((signs m).map tx)):=by rw[Zai (YAh nla)];exact l3
  have nda:p≠da:=Zad Zag n4;have ned:la≠da:=Zad l4' n4;have n3':H3 da=none:=by rw[Zai (YAh nda)]at n4;exact n4
  have back:∀b,b≠p->H2 b=none->H b=none:=λb hb e=>by
   cases z:H1 b with
   | none=>exact s1.free z
   | some o=>rw[k2 b o z hb]at e;cases e
  refine⟨p,_,dx,_,rfl,f4,T.ac,T.ad,(by show 3<1000;decide),q la da _ ⟨⟨dx,?_⟩,?_,⟨[],?_,rfl,λi y h=>by simp at h⟩,.nil,kr,ned⟩ (back la (YAh nla) n3) (back da (YAh nda) (s3.free n3')) λb o hb nb=>?_⟩
  .rw[Zag];exact congrArg (λz=>some (HO.ins a.c_LY dx z)) ZkT
  .rw[Zai (YAh nla),Zkn kr.rise];exact s4 _ _ l4'
  .rw[Zai (YAh nda)];exact l4
  .rw[Zai nb];exact s4 _ _ (by rw[Zai nb];exact s3 _ _ (k2 _ _ (s1 _ _ hb) nb))
theorem ZlK:FnScope ["self","lesser","came","went"] ["self","lesser"] (Zaj s_KH):=by walk_at "sc"
theorem ZnG (T:TL K mg base a tb):FnOk P w K mg base CX0 4 a.bG a.cS ["self","lesser"] (sp_KH K a):=by
 refine T.fm_KH.ok ZlK (λvs H Q E h=>?_) (λBc A outer s H vs Q E hr h=>?_)
 .obtain⟨_,_,_,_,_,_,rfl,_⟩:=h;rfl
 .obtain⟨p,la,da,s_,L,m,rfl,hp,hla,hL,ex,hm,ok,tk,q⟩:=h;refine⟨_,(Zab (Zap (i:=2) ZlK.nd rfl (Or.inl rfl) (Zal (Zny T) (hr.mono (by decide)) rfl T.m_LR T.f_LR.kp T.b_LR .nil Zao (Zaa (pv 1) (Zaa (ZaA (K:=K) rfl (pv 0) rfl) (Zaa (Zar (l:=[115,116,111,111,100]) (by decide +kernel)) Zac)))))
   (Zab (Zap (i:=3) ZlK.nd rfl (Or.inl rfl) (Zal (Znx T) (hr.mono (by decide)) rfl T.m_LV T.f_LV.kp T.b_LV .nil Zao (Zaa (pv 1) (Zaa (ZaA (K:=K) rfl (pv 0) rfl) (Zaa (ZaA (K:=K) rfl (pv 0) rfl) (Zaa (Zar (l:=[108,97,115,116]) (by decide +kernel)) Zac))))))
   (Zah (Zaq (ZaB (pv 0) T.ac T.bW (ZnI T) (hr.mono (by decide)) T.b_KF .nil Zao (Zaa (pv 1) (Zaa (pv 2) (Zaa (pv 3) Zac)))))))),?_⟩
  obtain⟨dx,f⟩:=hp;have m4:=ok.m4;walk_at "rd";refine⟨p,_,dx,_,_,rfl,f,T.ac,T.aa,ZaX,?_⟩;refine⟨s_,L,_,m,rfl,by omega,ex,hm,ok.rise,tk,λys c H1 sl1 tk1 n1 l1 r1=>?_⟩;walk_at "rd?";have f1:=sl1 _ _ f rfl;refine⟨p,_,dx,_,_,rfl,f1,T.ac,T.aa,ZaX,p,_,dx,_,_,rfl,f1,T.ac,T.ag,Zb6,?_⟩;refine⟨s_,L,_,m,rfl,by omega,ex,hm,ok.rise,m4,tk1,λzs g H2 sl2 tk2 n2 l2 r2=>?_⟩;walk_at "rd?";have f2:=sl2 _ _ f1 rfl;have l12:=sl2 _ _ l1 rfl;have la2:=sl2 _ _ (sl1 _ _ hla rfl) rfl;have sl02:=sl1.trans sl2;have ncg:c≠g:=n2.ne l1 rfl;refine⟨p,dx,_,rfl,f2,sN,p,la,da,c,g,L,s_,m,ZaK L m,ZaK s_ m,ys,zs,_,_,rfl,⟨dx,f2⟩,la2,l12,r1.l sl2,l2,r2,ZaZ ok.rise,ZaZ ok.rise,?_,?_,?_,?_,?_,?_,?_,?_,tk2,?_⟩
  .rw[Zb8];exact ZcH ((ZaZ ok.rise).filter _)
  .intro w;rw[Zb8,ZeT]
  .intro w;rw[Zb7,ZeS]
  .exact YAK (ZbN m4 (by omega)) (by decide)
  .rw[<-YAD (f:=(·.1)),Zb8];exact YAK (YBB _ _) (YAK (ZbN m4 (by have:=ex.len;omega)) (by decide))
  .rw[<-YAD (f:=(·.1)),Zb7];exact YAK (YBB _ _) (YAK (ZbN m4 (by omega)) (by decide))
  .intro w hw;have:=ZcN hL hw;omega
  .intro w hw;have:=ZcN (by have:=ex.len;omega) hw;omega
  .intro t la3 H3 ch3 f3 nl3 e3 t3 tk3;have np:∀us,H2 p≠some (.tup us):=λus z=>by rw[f2]at z;cases z
   have ncp:p≠c:=n1.ne f rfl;have ngp:p≠g:=n2.ne f1 rfl;refine q t c g la3 H3 (sl02.chg.trans ch3) f3 e3 ⟨t3,⟨ys,ch3 _ _ l12 (by simpa using YAh ncp) rfl,(r1.l sl2).chg ch3 (λb hb us=>by rw[YAG.mp hb];exact np us)⟩,⟨zs,ch3 _ _ l2 (by simpa using YAh ngp) rfl,r2.chg ch3 (λb hb us=>by rw[YAG.mp hb];exact np us)⟩,n1,n2.l sl1,nl3.l sl02,ncg,nl3.ne l12 rfl,nl3.ne l2 rfl⟩ tk3
theorem Zo0:FnScope ["self","name"] ["self","name"] (Zaj s_KU):=by walk_at "sc"
theorem ZiM (T:TL K mg base a tb):FnOk P w K mg base (CXr P w) 4 a.bp a.cz ["self","name"] (sp_KU K a):=by
 refine T.fm_KU.okX Zo0 (λvs H Q E h=>?_) (λBc A outer s H vs Q E hr h=>?_)
 .obtain⟨_,_,_,_,_,rfl,_⟩:=h;rfl
 .have hu1:=ZaG hr;obtain⟨p,dA,m,F,v,rfl,hp,q⟩:=h;refine⟨_,(Zab (Za1 (PW.pt (Zcv (ZaU (ZaP (Zal (Zka T) (hr.mono (by decide)) rfl T.c6 T.f_LG.kp T.de .nil Zao (Zaa (pv 1) Zac)))) (ZbL (ZkW (ZiF hu1 (pv 1) (ZaA (K:=K) rfl (pv 0) rfl)))))) (Zah (Zbv Zbk rfl (Zdn T.bJ T.dQ T.dh (Zco T) (hr.mono (by decide)) T.b_LN Zao rfl T.df (Zaa (pv 1) Zac)))) Zax)
   (Zah (Zaq (ZeM hu1 (ZaA (K:=K) rfl (pv 0) rfl) (pv 1) (λ_ _=>rfl))))),?_⟩
  have up:∀H1,Same H H1->XNn a E H v->(1<=1000/\MkI (Zb5 K a.c_LN 1 (fs1 (Str.ofString "name"))) E0 a.c_LN [v] H1 λv H1=>∃e C d,v=.ref e/\H1 e=some (xo e C d)/\Xm K C/\E (.ref C) (some e) (upd H1 e (xr e C d))):=λH1 s1 z=>
   ⟨by decide,MkI.of rfl λe H2 s2 n2 x2=>by obtain⟨d,hd,hx⟩:=ZcD x2;exact⟨e,_,d,rfl,hd,T.bJ,z e _ (s1.trans (same_upd3 s2 n2)) hx⟩⟩
  obtain⟨dx,f⟩:=hp.fld;walk_at "rd";rcases q with⟨r,hr,rfl,q⟩|⟨(⟨n,rfl,hn,hk⟩ | o) | ⟨n,rfl,hn,hk,nf⟩,x⟩
  .have hk:=hp.nm r hr;have g:=Zi6 hp.ap hr;refine⟨_,rfl,.inl ⟨r.n,rfl,by have:=Zce hk;omega,λH2 s2=>⟨_,rfl,?_⟩⟩⟩;rw[hk,YCv];refine iteF ⟨p,_,dx,_,_,rfl,s2 _ _ f,T.ah,T.ae,shS,dA,_,rfl,.inl ⟨_,kTx r.n,.inl (s2 _ _ hp.dct),rfl,rfl⟩,?_⟩;rw[g];exact iteF ⟨p,_,dx,_,_,rfl,s2 _ _ f,T.ah,T.ae,shS,dA,_,rfl,.inl ⟨_,kTx r.n,.inl (s2 _ _ hp.dct),rfl,g.symm⟩,q H2 s2⟩
  .exact⟨_,rfl,.inl ⟨n,rfl,hn,λH2 s2=>⟨_,rfl,by rw[hk];exact iteT (iteT' (up H2 s2 x))⟩⟩⟩
  .exact⟨_,rfl,.inr ⟨o,_,rfl,iteT (iteT' (up H (Same.refl _) x))⟩⟩
  .refine⟨_,rfl,.inl ⟨n,rfl,hn,λH2 s2=>⟨_,rfl,?_⟩⟩⟩;rw[hk,YCv];refine iteF ⟨p,_,dx,_,_,rfl,s2 _ _ f,T.ah,T.ae,shS,dA,_,rfl,.inl ⟨_,kTx n,.inl (s2 _ _ hp.dct),rfl,rfl⟩,?_⟩;rw[Zmg nf];exact iteT (up H2 s2 x)
theorem Zpc:FnScope ["self","name"] ["self","name"] (Zaj s_KA):=by walk_at "sc"
theorem ZpO (T:TL K mg base a tb):FnOk P w K mg base (CXr P w) 4 a.bi a.cw ["self","name"] (sp_KA K a):=by
 refine T.fm_KA.okX Zpc (λvs H Q E h=>?_) (λBc A outer s H vs Q E hr h=>?_)
 .obtain⟨_,_,_,_,_,rfl,_⟩:=h;rfl
 .have hu1:=ZaG hr;obtain⟨p,dA,m,F,v,rfl,hp,q⟩:=h;refine⟨_,(Zab (Za1 (ZaU (ZaP (Zal (Zka T) (hr.mono (by decide)) rfl T.c6 T.f_LG.kp T.de .nil Zao (Zaa (pv 1) Zac)))) (Zah (Zbv Zbk rfl (Zdn T.bJ T.dQ T.dh (Zco T) (hr.mono (by decide)) T.b_LN Zao rfl T.df (Zaa (pv 1) Zac)))) Zax)
   (Zae (Zah (Za1 (ZkW (Znp hu1 (pv 1) (ZaA (K:=K) rfl (pv 0) rfl))) (Zah (Zbv Zbk rfl (Zdn T.cX T.i_K5 T.eI (Zc2 T) (hr.mono (by decide)) T.b_K5 Zao rfl T.dR (Zaa (pv 1) Zac)))) Zax)))),?_⟩
  have up:∀H1,Same H H1->XNn a E H v->(1<=1000/\MkI (Zb5 K a.c_LN 1 (fs1 (Str.ofString "name"))) E0 a.c_LN [v] H1 λv H1=>∃e C d,v=.ref e/\H1 e=some (xo e C d)/\Xm K C/\E (.ref C) (some e) (upd H1 e (xr e C d))):=λH1 s1 z=>
   ⟨by decide,MkI.of rfl λe H2 s2 n2 x2=>by obtain⟨d,hd,hx⟩:=ZcD x2;exact⟨e,_,d,rfl,hd,T.bJ,z e _ (s1.trans (same_upd3 s2 n2)) hx⟩⟩
  have up2:∀H1,Same H H1->XNt a E H v->(1<=1000/\MkI (Zb5 K a.c_K5 1 (fs1 (Str.ofString "name"))) E0 a.c_K5 [v] H1 λv H1=>∃e C d,v=.ref e/\H1 e=some (xo e C d)/\Xm K C/\E (.ref C) (some e) (upd H1 e (xr e C d))):=λH1 s1 z=>
   ⟨by decide,MkI.of rfl λe H2 s2 n2 x2=>by obtain⟨d,hd,hx⟩:=ZcD x2;exact⟨e,_,d,rfl,hd,T.cX,z e _ (s1.trans (same_upd3 s2 n2)) hx⟩⟩
  obtain⟨dx,f⟩:=hp.fld;walk_at "rd";have good:∀n,v=tx n->n.length<=1000->isn n=true->(∀H2,Same H H2->if (valV (kpKV F) (kTx n)).isSome=true then 1<=1000/\MkI (Zb5 K a.c_K5 1 (fs1 (Str.ofString "name"))) E0 a.c_K5 [v] H2 λv H1=>∃e C d,v=.ref e/\H1 e=some (xo e C d)/\Xm K C/\E (.ref C) (some e) (upd H1 e (xr e C d)) else Q .non H2)->sp_LG K a [v] H (λx H1=>∃c,x=V.bl c/\if (!c)=true then 1<=1000/\MkI (Zb5 K a.c_LN 1 (fs1 (Str.ofString "name"))) E0 a.c_LN [v] H1 λv H1=>∃e C d,v=V.ref e/\H1 e=some (xo e C d)/\Xm K C/\E (Value.ref C) (some e) (upd H1 e (xr e C d)) else Zav (tIfS (tB (tDIn (tVar 1) (tFld K (tVar 0) (Str.ofString "own_strips")))) (Zif K E (Zid a.c_K5 (Zb5 K a.c_K5 1 (fs1 (Str.ofString "name"))) E0 (ZjQ (tVar 1) tNil))) tNext) { nx:=λx H'=>Q V.non H',rt:=Q } [some (V.ref p),some v] H1) E0:=λn e hn hk k=>by subst e;refine⟨_,rfl,.inl ⟨n,rfl,hn,λH2 s2=>⟨_,rfl,?_⟩⟩⟩;rw[hk,YCv];refine iteF (Zaf ?_);walk_at "rd";exact⟨p,_,dx,_,_,rfl,s2 _ _ f,T.ah,T.ae,shS,dA,_,rfl,.inl ⟨_,kTx n,.inl (s2 _ _ hp.dct),rfl,rfl⟩,k H2 s2⟩
  rcases q with⟨n,rfl,hn,hk,nf,q⟩|⟨⟨n,rfl,hn,hk⟩ | o,x⟩|⟨r,hr,rfl,x⟩
  .exact good n rfl hn hk λH2 s2=>by rw[Zmg nf];exact iteF (q H2 s2)
  .exact⟨_,rfl,.inl ⟨n,rfl,hn,λH2 s2=>⟨_,rfl,by rw[hk];exact iteT (up H2 s2 x)⟩⟩⟩
  .exact⟨_,rfl,.inr ⟨o,_,rfl,iteT (up H (Same.refl _) x)⟩⟩
  .have hk:=hp.nm r hr;exact good r.n rfl (by have:=Zce hk;omega) hk λH2 s2=>by rw[Zi6 hp.ap hr];exact iteT (up2 H2 s2 x)
theorem Zo1:FnScope ["self","kinds"] ["self","kinds"] (Zaj s_KT):=by walk_at "sc"
theorem ZnD (T:TL K mg base a tb):FnOk P w K mg base (CXr P w) 4 a.aS a.cq ["self","kinds"] (sp_KT K a):=by
 refine T.fm_KT.okX Zo1 (λvs H Q E h=>?_) (λBc A outer s H vs Q E hr h=>?_)
 .obtain⟨_,_,_,rfl,_⟩:=h;rfl
 .obtain⟨p,dx,u,rfl,hp,q⟩:=h;refine⟨_,(Zab (ZaF (Zal (Zl9 T) (hr.mono (by decide)) rfl T.dI T.f_K0.kp T.dJ .nil Zbn (Zaa (pv 1) Zac)))
   (Zae (Zab (Zb9 (pv 0) (pv 1) rfl)
   (Zae (Zah (Zb9 (pv 0) ZeL rfl)))))),?_⟩
  walk_at "rd";rcases q with⟨m,rfl,kok,q⟩|⟨bk,x⟩
  .have m4:=kok.m4;refine⟨_,rfl,.inl ⟨m,rfl,by omega,kok.k,λH1 s1=>?_⟩⟩;walk_at "h";refine⟨p,_,dx,_,rfl,s1 _ _ hp,T.ah,T.aw,(by show 0<1000;decide),Zaf ?_⟩;have f2:upd H1 p (.ins a.c_LX dx (putF (Str.ofString "own_kinds") (tx m) [])) p=some (.ins a.c_LX dx (putF "own_kinds" (tx m) [])):=Zag;have k2:∀b o,H b=some o->b≠p->upd H1 p (.ins a.c_LX dx (putF (Str.ofString "own_kinds") (tx m) [])) b=some o:=λb o e n=>by rw[Zai n];exact s1 _ _ e
   generalize upd H1 p (.ins a.c_LX dx (putF (Str.ofString "own_kinds") (tx m) []))=H2 at f2 k2;walk_at "rd";intro dA nA;have nd:p≠dA:=Zad f2 nA;refine⟨p,_,dx,_,rfl,by rw[Zai nd];exact f2,T.ah,T.ae,(by show 1<1000;decide),q dA _ ⟨⟨dx,Zag⟩,by rw[Zai (YAh nd),Zag];rfl,λr hr=>(by cases hr),λr hr=>(by cases hr),.nil,kok⟩ ?_ λb o e n=>?_⟩
   .cases e:H dA with
    | none=>rfl
    | some o=>rw[k2 _ _ e (YAh nd)]at nA;cases nA
   .rw[Zai n,Zai (Zad (k2 _ _ e n) nA)];exact k2 _ _ e n
  .exact⟨_,rfl,.inr ⟨bk,x⟩⟩
theorem Zo4:FnScope ["self","text","kinds"] ["self","text","kinds"] (Zaj s_KQ):=by walk_at "sc"
theorem ZpK (T:TL K mg base a tb):FnOk P w K mg base CX0 4 a.aU a.cL ["self","text","kinds"] (sp_KQ K a):=by
 refine T.fm_KQ.ok Zo4 (λvs H Q E h=>?_) (λBc A outer s H vs Q E hr h=>?_)
 .obtain⟨_,_,_,_,rfl,_⟩:=h;rfl
 .obtain⟨p,dx,l,m,rfl,hp,ok,q⟩:=h;refine⟨_,(Zab (ZaF (Zal (Zl9 T) (hr.mono (by decide)) rfl T.dI T.f_K0.kp T.dJ .nil ZaL (Zaa (pv 2) Zac)))
   (Zab (ZaF (Zal (ZpG T) (hr.mono (by decide)) rfl T.m_LA T.f_LA.kp T.b_LA .nil Zao (Zaa (pv 1) (Zaa (pv 2) (Zaa (Zdo rfl T.c_KB) Zac)))))
   (Zah (ZaF (Zg1 rfl T.m_L6 T.dm (ZnK T) (hr.mono (by decide)) T.dE T.b_K2 .nil Zao (Zaa (pv 0) (Zaa (pv 1) (Zaa (pv 2) Zac)))))))),?_⟩
  walk_at "rd";have m4:=ok.m4;have l40:=ok.l40;refine⟨_,rfl,.inl ⟨m,rfl,by omega,ok.k,λH1 s1=>?_⟩⟩;walk_at "rd?";refine⟨l,m,40,rfl,by omega,Zoh ok,λH2 s2=>?_⟩;walk_at "rd?";exact⟨p,dx,_,l,m,rfl,.inl rfl,s1.trans s2 _ _ hp,λH3 r k=>q H3 ⟨dx,r⟩ λb o e ne=>k b o (s1.trans s2 _ _ e) ne⟩
theorem Zpe:FnScope ["self","letter"] ["self","letter"] (Zaj s_K8):=by walk_at "sc"
theorem ZhD (T:TL K mg base a tb):FnOk P w K mg base (CXr P w) 5 a.bC a.cO ["self","letter"] (sp_K8 K a):=by
 refine T.fm_K8.okX Zpe (λvs H Q E h=>?_) (λBc A outer s H vs Q E hr h=>?_)
 .obtain⟨_,_,_,_,_,_,_,rfl,_⟩:=h;rfl
 .obtain⟨p,la,da,l,m,ds,v,rfl,hp,hd,tk,q⟩:=h;refine⟨_,(Zae (Zab (ZaF (Zal (ZpL T) (hr.mono (by decide)) rfl T.m_KM T.f_KM.kp T.b_KM .nil Zbn (Zaa (pv 1) (Zaa (ZaA (K:=K) rfl (pv 0) rfl) Zac))))
   (Zab (Za1 (Zau Zpv (Zan (ZaM (K:=K) rfl) rfl T.z_len Zbr (Zaa (ZaA (K:=K) rfl (pv 0) rfl) Zac)) (Zdo rfl T.c_KB) (ZaC _)) (Zae (Zah (Zbv Zbk rfl (Zca T.x_L8 T.i_L8 rfl T.m_L8 (Zaa (Zar (l:=[116,104,101,32,115,116,114,105,112,32,104,97,115,32,102,111,114,116,121,32,108,101,116,116,101,114,115]) (by decide +kernel)) Zac))))) Zax)
   (Zae (Zab (ZaF (Zfv YBh YCK YCJ ZbM (ZaA (K:=K) rfl (pv 0) rfl) (Zaa (Zcb (Zaa (Zar (l:=[112,117,116]) (by decide +kernel)) (Zaa (pv 1) Zac))) Zac)))
   (Zah (Zaq (ZaB (pv 0) T.ac T.bU (ZnB T) (hr.mono (by decide)) T.b_KY .nil Zao (Zaa (Zat Za2 (ZaA (K:=K) rfl (pv 0) rfl) (pv 1)) Zac))))))))),?_⟩
  have sz:∀k:Nat,k<=30000->k<=sizeLine:=λk h=>YAK h (by rw[sizeLine_eq];decide);obtain⟨⟨dx,f⟩,hk,⟨ts,d1,d2⟩,run,ok,nld⟩:=id hp;have m4:=ok.m4;have l40:=run.len;have tl:=d2.1;have npd:p≠da:=λz=>by rw[z,d1]at f;cases f
  walk_at "rd";walk_at "g";refine⟨p,_,dx,_,_,rfl,f,T.ac,T.ag,Zb6,?_⟩;rcases q with⟨c0,rfl,hc,hl,q⟩|⟨bl,x⟩|⟨c0,rfl,hc,hl,x⟩
  .refine⟨_,m,rfl,.inl ⟨[c0],rfl,by simp,Zjg hc,λH1 s1=>?_⟩⟩;walk_at "rd?";refine⟨p,_,dx,_,_,rfl,s1 _ _ f,T.ac,T.aa,ZaX,_,_,rfl,Zb3 (by omega),?_⟩;rw[decide_eq_false (by omega)];refine iteF ?_;walk_at "g";refine⟨p,_,dx,_,_,rfl,s1 _ _ f,T.ac,T.ad,Zby,.inl ⟨rfl,_,.mk (s1 _ _ d1)⟩,sz _ (by decide),NewT.of λtd H2 s2 n2 l2=>?_⟩;have s02:=s1.trans s2;refine⟨da,_,_,rfl,rfl,s02 _ _ d1,by rw[tl];exact sz _ (by omega),?_⟩;have c3:Chg [da] H (upd H2 da (.lst (ts++[.ref td]))):=s02.chg.trans (Chg.upd (by simp));have d3:upd H2 da (.lst (ts++[.ref td])) da=some (.lst (ts++[.ref td])):=Zag;have t3:upd H2 da (.lst (ts++[.ref td])) td=some (.tup (Zf1 (true,c0))):=by rw[Zai (λz=>by rw[z,s02 _ _ d1]at l2;cases l2)];exact l2
   have tk3:=(tk.same s02).upd (o':=.lst (ts++[.ref td])) (s02 _ _ d1) rfl rfl;generalize upd H2 da (.lst (ts++[.ref td]))=H3 at c3 d3 t3 tk3;have e3:DeedsA H3 (ts++[.ref td]) (ds++[(true,c0)]):=(d2.chg c3 (λb hb us z=>by rw[YAG.mp hb,d1]at z;cases z)).snoc t3;have f3:=c3 _ _ f (by simpa using npd) rfl;have k3:=c3 _ _ hk (by simpa using nld) rfl;have r3:=run.put hc hl;refine⟨p,dx,_,rfl,f3,sN,p,_,dx,_,_,rfl,f3,T.ac,T.aa,ZaX,l,[c0],rfl,rfl,sz _ (by rw[YAd];omega),?_⟩;refine⟨p,la,da,l,l++[c0],m,rfl,⟨dx,f3⟩,k3,r3.len,.inl ⟨c0,rfl⟩,r3.mem,ok,tk3,λt c g la2 H4 ch f4 l4 an tk4=>?_⟩;obtain⟨q1,q2,q3⟩:=Zdp hp c3 d3 e3 ch f4 l4 an r3;exact q t c g la2 H4 q1 q2 q3 tk4
  .exact⟨_,m,rfl,.inr ⟨bl,x⟩⟩
  .refine⟨_,m,rfl,.inl ⟨[c0],rfl,by simp,Zjg hc,λH1 s1=>?_⟩⟩;walk_at "rd?";refine⟨p,_,dx,_,_,rfl,s1 _ _ f,T.ac,T.aa,ZaX,_,_,rfl,Zb3 (by omega),?_⟩;rw[decide_eq_true (by omega)];refine iteT ?_;walk_at "g";exact⟨by decide,λe he=>⟨e,_,none,rfl,Zag,T.x_L8,x e _ (s1.trans (ZbK he)) (.bare Zag)⟩⟩
theorem ZoZ:FnScope ["self"] ["self"] (Zaj s_KX):=by walk_at "sc"
theorem Zl5 (T:TL K mg base a tb):FnOk P w K mg base (CXr P w) 5 a.bD a.cP ["self"] (sp_KX K a):=by
 refine T.fm_KX.okX ZoZ (λvs H Q E h=>?_) (λBc A outer s H vs Q E hr h=>?_)
 .obtain⟨_,_,_,_,_,_,rfl,_⟩:=h;rfl
 .have Bf:=hr.units;obtain⟨p,la,da,l,m,ds,rfl,hp,hd,tk,q⟩:=h;refine⟨_,(Zae (Zab (Za1 (Zau (ZaQ (K:=K) rfl Bf) (ZaA (K:=K) rfl (pv 0) rfl) (Zar (l:=[]) (by decide +kernel)) (ZaC _)) (Zah (Zbv Zbk rfl (Zca T.x_L7 T.i_L7 rfl T.m_L7 (Zaa (Zar (l:=[116,104,101,32,115,116,114,105,112,32,104,97,115,32,110,111,32,108,101,116,116,101,114]) (by decide +kernel)) Zac)))) Zax)
   (Zae (Zab (ZaF (Zfv YBh YCK YCJ ZbM (ZaA (K:=K) rfl (pv 0) rfl) (Zaa (Zcb (Zaa (Zar (l:=[100,114,111,112]) (by decide +kernel)) (Zaa (Zbj ZdO (ZaA (K:=K) rfl (pv 0) rfl) Zak (λ_ _=>rfl)) Zac))) Zac)))
   (Zah (Zaq (ZaB (pv 0) T.ac T.bV (ZnG T) (hr.mono (by decide)) T.b_KH .nil Zao (Zaa (ZaR ZcC (ZaA (K:=K) rfl (pv 0) rfl) (Za8 Zak) Za9) Zac)))))))),?_⟩
  have sz:∀k:Nat,k<=30000->k<=sizeLine:=λk h=>YAK h (by rw[sizeLine_eq];decide);obtain⟨⟨dx,f⟩,hk,⟨ts,d1,d2⟩,run,ok,nld⟩:=id hp;have m4:=ok.m4;have l40:=run.len;have tl:=d2.1;have npd:p≠da:=λz=>by rw[z,d1]at f;cases f
  walk_at "rd";walk_at "g";refine⟨p,_,dx,_,_,rfl,f,T.ac,T.aa,ZaX,.inl ⟨rfl,?_⟩⟩;rw[YAI YAC,Zcs];rcases q with⟨c0,l0,rfl,q⟩|⟨rfl,x⟩
  .rw[decide_eq_false (by simp)];refine⟨_,rfl,iteF ?_⟩;walk_at "g";refine⟨p,_,dx,_,_,rfl,f,T.ac,T.ad,Zby,.inl ⟨rfl,_,.mk d1⟩,p,_,dx,_,_,rfl,f,T.ac,T.aa,ZaX,c0::l0,0,c0,rfl,rfl,sz _ (by omega),atI0,sz _ (by decide),NewT.of λtd H2 s2 n2 l2=>?_⟩;refine⟨da,_,_,rfl,rfl,s2 _ _ d1,by rw[tl];exact sz _ (by omega),?_⟩;have c3:Chg [da] H (upd H2 da (.lst (ts++[.ref td]))):=s2.chg.trans (Chg.upd (by simp));have d3:upd H2 da (.lst (ts++[.ref td])) da=some (.lst (ts++[.ref td])):=Zag;have t3:upd H2 da (.lst (ts++[.ref td])) td=some (.tup (Zf1 (false,c0))):=by rw[Zai (λz=>by rw[z,s2 _ _ d1]at l2;cases l2)];exact l2
   have tk3:=(tk.same s2).upd (o':=.lst (ts++[.ref td])) (s2 _ _ d1) rfl rfl;generalize upd H2 da (.lst (ts++[.ref td]))=H3 at c3 d3 t3 tk3;have e3:DeedsA H3 (ts++[.ref td]) (ds++[(false,c0)]):=(d2.chg c3 (λb hb us z=>by rw[YAG.mp hb,d1]at z;cases z)).snoc t3;have f3:=c3 _ _ f (by simpa using npd) rfl;have k3:=c3 _ _ hk (by simpa using nld) rfl;refine⟨p,dx,_,rfl,f3,sN,p,_,dx,_,_,rfl,f3,T.ac,T.aa,ZaX,_,rfl,c0::l0,rfl,sz _ (by omega),?_⟩;rw[ZgF];refine⟨p,la,da,l0,c0::l0,m,rfl,⟨dx,f3⟩,k3,l40,.inr ⟨c0,rfl⟩,run.mem,ok,tk3,λt c g la2 H4 ch f4 l4 an tk4=>?_⟩;obtain⟨q1,q2,q3⟩:=Zdp hp c3 d3 e3 ch f4 l4 an run.drop;exact q t c g la2 H4 q1 q2 q3 tk4
  .rw[decide_eq_true rfl];refine⟨_,rfl,iteT ?_⟩;exact⟨by decide,λe he=>⟨e,_,none,rfl,Zag,T.x_L7,x e _ (ZbK he) (.bare Zag)⟩⟩
theorem Zm5:FnScope ["self","name","strip"] ["self","name"] (Zaj s_KV):=by walk_at "sc"
theorem Zl6 (T:TL K mg base a tb):FnOk P w K mg base (CXr P w) 5 a.br a.cB ["self","name"] (sp_KV K a):=by
 refine T.fm_KV.okX Zm5 (λvs H Q E h=>?_) (λBc A outer s H vs Q E hr h=>?_)
 .obtain⟨_,_,_,_,_,rfl,_⟩:=h;rfl
 .obtain⟨p,dA,m,F,v,rfl,hp,q⟩:=h;refine⟨_,(Zab (Zap (i:=2) Zm5.nd rfl (Or.inl rfl) (ZaB (pv 0) T.ah T.aN (ZiM T) (hr.mono (by decide)) T.cZ .nil Zbn (Zaa (pv 1) Zac)))
   (Zae (Zab (ZaF (Zj9 (ZaA (K:=K) rfl (pv 0) rfl) (pv 1) ⟨rfl,rfl,rfl,rfl⟩))
   (Zae (Zah (Zaq (pv 2))))))),?_⟩
  obtain⟨dx,f⟩:=hp.fld;walk_at "rd";refine⟨p,dx,_,rfl,f,shN,p,dA,m,F,v,rfl,hp,?_⟩;rcases q with⟨r,hr,rfl,q⟩ | x
  .refine .inl ⟨r,hr,rfl,λH1 s1=>?_⟩;have g:=Zi6 hp.ap hr;walk_at "h";have d1:=s1 _ _ hp.dct;obtain⟨k1,k2⟩:=hp.take (n:=r.n) s1;refine⟨p,_,dx,_,_,rfl,s1 _ _ f,T.ah,T.ae,shS,dA,rfl,.inl ⟨_,.inl d1⟩,_,kTx r.n,_,d1,rfl,g,Zaf ?_⟩;walk_at "rd";exact q _ k2 k1
  .exact .inr x
theorem Zm4:FnScope ["self","deed"] ["self"] (Zaj s_KW):=by walk_at "sc"
theorem ZnC (T:TL K mg base a tb):FnOk P w K mg base (CXr P w) 5 a.bE a.cQ ["self"] (sp_KW K a):=by
 refine T.fm_KW.okX Zm4 (λvs H Q E h=>?_) (λBc A outer s H vs Q E hr h=>?_)
 .obtain⟨_,_,_,_,_,_,rfl,_⟩:=h;rfl
 .have Bf:=hr.units;obtain⟨p,la,da,l,m,ds,rfl,hp,hd,tk,q⟩:=h;refine⟨_,(Zae (Zab (Za1 (Zau (ZaQ (K:=K) rfl Bf) (Zan (ZaM (K:=K) rfl) rfl T.z_len Zbr (Zaa (ZaA (K:=K) rfl (pv 0) rfl) Zac)) Zak (ZaC _)) (Zah (Zbv Zbk rfl (Zca T.x_LM T.i_LM rfl T.m_LM (Zaa (Zar (l:=[116,104,101,114,101,32,105,115,32,110,111,32,100,101,101,100,32,116,104,97,116,32,115,116,97,110,100,115]) (by decide +kernel)) Zac)))) Zax)
   (Zae (Zab (Zap (i:=1) Zm4.nd rfl (Or.inl rfl) (ZiD YBh PySem.F.slot_list_pop PySem.F.type_list_pop ZnQ (ZaA (K:=K) rfl (pv 0) rfl)))
   (Zae (Zab (Za1 (Zau (ZaQ (K:=K) rfl Bf) (Zbj (ZeX (K:=K) rfl) (pv 1) Zak (λ_ _=>rfl)) (Zar (l:=[112,117,116]) (by decide +kernel)) (ZaC _)) (Zah (Zaq (ZaB (pv 0) T.ac T.bV (ZnG T) (hr.mono (by decide)) T.b_KH .nil Zao (Zaa (ZaR ZcC (ZaA (K:=K) rfl (pv 0) rfl) Za9 (Za8 (ZiA Zfj Zak))) Zac)))) Zax)
   (Zah (Zaq (ZaB (pv 0) T.ac T.bU (ZnB T) (hr.mono (by decide)) T.b_KY .nil Zao (Zaa (Zat Za2 (Zbj (ZeX (K:=K) rfl) (pv 1) Zak (λ_ _=>rfl)) (ZaA (K:=K) rfl (pv 0) rfl)) Zac)))))))))),?_⟩
  have sz:∀k:Nat,k<=30000->k<=sizeLine:=λk h=>YAK h (by rw[sizeLine_eq];decide);obtain⟨⟨dx,f⟩,hk,⟨ts,d1,d2⟩,run,ok,nld⟩:=id hp;have m4:=ok.m4;have l40:=run.len;have tl:=d2.1;have npd:p≠da:=λz=>by rw[z,d1]at f;cases f
  walk_at "rd";walk_at "g";refine⟨p,_,dx,_,_,rfl,f,T.ac,T.ad,Zby,_,_,rfl,.inl ⟨_,.mk d1,rfl⟩,.inl ⟨rfl,?_⟩⟩;rw[YAI YAC];have pop:∀(ds0:List (Bool×Nat)) (d:Bool×Nat),ds=ds0++[d]->∃ts' td,ts=ts'++[.ref td]/\H td=some (.tup (Zf1 d))/\DeedsA H ts' ds0:=λds0 d e=>(e▸d2).init;have ne0:ds≠[]->decide (V.int ((ts.length:Nat):Int)=V.int 0)=false:=λh=>decide_eq_false λe=>by injection e with e;rw[tl]at e;exact h (YCp.mp (by omega))
  have go:∀(ds0:List (Bool×Nat)) (d:Bool×Nat),ds=ds0++[d]->∃td H3 ts',Chg [da] H H3/\H3 da=some (.lst ts')/\DeedsA H3 ts' ds0/\H3 td=some (.tup (Zf1 d))/\TblOk H3 a.t_LD lpos lq/\ts[ts.length-1]?=some (.ref td)/\upd H da (.lst ts.dropLast)=H3:=λds0 d e=>by
   obtain⟨ts',td,rfl,h1,h2⟩:=pop ds0 d e;refine⟨td,_,ts',Chg.upd (by simp),by rw[Zag,YCe],?_,?_,tk.upd d1 rfl rfl,by simp,rfl⟩
   .exact h2.chg (S:=[da]) (Chg.upd (by simp)) (λb hb us z=>by rw[YAG.mp hb,d1]at z;cases z)
   .rw[Zai (λz=>by rw[z,d1]at h1;cases h1)];exact h1
  rcases q with⟨ds0,c0,l0,e0,rfl,q⟩|⟨ds0,c0,e0,q⟩|⟨rfl,x⟩
  .rw[ne0 (by rw[e0];simp)];refine⟨_,rfl,iteF ?_⟩;walk_at "g";obtain⟨td,H3,ts',c3,d3,e3,t3,tk3,hy,eH⟩:=go ds0 (true,c0) e0;refine⟨p,_,dx,_,_,rfl,f,T.ac,T.ad,Zby,.inl ⟨rfl,_,.mk d1⟩,da,_,_,rfl,rfl,d1,hy,?_⟩;rw[eH];walk_at "g";have f3:=c3 _ _ f (by simpa using npd) rfl;have k3:=c3 _ _ hk (by simpa using nld) rfl;have run0:Run m ds0 l0:=by
    obtain⟨ds1,c1,⟨e1,l1,e2,r1⟩|⟨e1,_⟩⟩:=run.last (by rw[e0];simp)
    .rw[e0]at e1;have e3:=List.append_inj' e1 rfl;have e4:=List.append_inj' e2 rfl;rw[e3.1,e4.1];exact r1
    .rw[e0]at e1;have e3:=(List.append_inj' e1 rfl).2;cases e3
   refine⟨td,_,_,_,rfl,rfl,.mk t3,atI0,.inl ⟨rfl,true,?_,iteT ?_⟩⟩
   .rw[YAI YAC];exact congrArg V.bl (decide_eq_true rfl)
   .refine⟨p,dx,_,rfl,f3,sN,p,_,dx,_,_,rfl,f3,T.ac,T.aa,ZaX,_,rfl,l0++[c0],rfl,sz _ (by omega),?_⟩;rw[Zjz,YCe];refine⟨p,la,da,l0,l0++[c0],m,rfl,⟨dx,f3⟩,k3,l40,.inl ⟨c0,rfl⟩,run.mem,ok,tk3,λt c g la2 H4 ch f4 l4 an tk4=>?_⟩;obtain⟨q1,q2,q3⟩:=Zdp hp c3 d3 e3 ch f4 l4 an run0;exact q t c g la2 H4 q1 q2 q3 tk4
  .rw[ne0 (by rw[e0];simp)];refine⟨_,rfl,iteF ?_⟩;walk_at "g";obtain⟨td,H3,ts',c3,d3,e3,t3,tk3,hy,eH⟩:=go ds0 (false,c0) e0;refine⟨p,_,dx,_,_,rfl,f,T.ac,T.ad,Zby,.inl ⟨rfl,_,.mk d1⟩,da,_,_,rfl,rfl,d1,hy,?_⟩;rw[eH];walk_at "g";have f3:=c3 _ _ f (by simpa using npd) rfl;have k3:=c3 _ _ hk (by simpa using nld) rfl;have run0:Run m ds0 (c0::l):=by
    obtain⟨ds1,c1,⟨e1,l1,e2,r1⟩|⟨e1,r1⟩⟩:=run.last (by rw[e0];simp)
    .rw[e0]at e1;have e3:=(List.append_inj' e1 rfl).2;cases e3
    .rw[e0]at e1;have e3:=List.append_inj' e1 rfl;have e4:=e3.2;injection e4 with e4 _;injection e4 with _ e4;rw[e3.1,e4];exact r1
   have l41:=run0.len;rw[YAl]at l41;refine⟨td,_,_,_,rfl,rfl,.mk t3,atI0,.inl ⟨rfl,false,?_,iteF ?_⟩⟩
   .rw[YAI YAC];exact congrArg V.bl (show decide (tx DROP=tx [112,117,116])=false by rw[Zcs];decide)
   .refine⟨p,dx,_,rfl,f3,sN,td,_,_,_,rfl,rfl,.mk t3,rfl,p,_,dx,_,_,rfl,f3,T.ac,T.aa,ZaX,[c0],l,rfl,rfl,sz _ (by rw[YAd];omega),?_⟩;refine⟨p,la,da,l,c0::l,m,rfl,⟨dx,f3⟩,k3,run0.len,.inr ⟨c0,rfl⟩,run0.mem,ok,tk3,λt c g la2 H4 ch f4 l4 an tk4=>?_⟩;obtain⟨q1,q2,q3⟩:=Zdp hp c3 d3 e3 ch f4 l4 an run0;exact q t c g la2 H4 q1 q2 q3 tk4
  .have tz:ts.length=0:=by rw[tl];rfl
   rw[tz];refine⟨_,rfl,?_⟩;rw[show decide (V.int ((0:Nat):Int)=V.int 0)=true from decide_eq_true rfl];exact iteT ⟨by decide,λe he=>⟨e,_,none,rfl,Zag,T.x_LM,x e _ (ZbK he) (.bare Zag)⟩⟩
theorem Zhy:FnScope ["_law_kinds_here","_law_cell_here","_law_strip_here","_law_text","_law_letter","_law_many","_law_k"] ["_law_kinds_here","_law_cell_here"] (Zaj s_LU):=by walk_at "sc"
theorem Zpx (T:TL K mg base a tb):FnOk P w K mg base CX0 6 a.f_LU a.d_LU ["_law_kinds_here","_law_cell_here"] (sp_LU K a):=by
 refine T.f_LU.ok Zhy (λvs H Q E h=>?_) (λBc A outer s H vs Q E hr h=>?_)
 .obtain⟨_,_,rfl,_⟩:=h;rfl
 .obtain⟨m,c,rfl,kok,tk,q⟩:=h;refine⟨_,(Zab (Zap (i:=2) Zhy.nd rfl (Or.inl rfl) (Zc0 T.aR (Zkb T) (hr.mono (by decide)) rfl T.bZ T.dF .nil Zao (Zaa (pv 0) Zac)))
   (Zae (Zab (Zap (i:=3) Zhy.nd rfl (Or.inl rfl) (Zal (ZpD T) (hr.mono (by decide)) rfl T.m_LI T.f_LI.kp T.b_LI .nil Zao (Zaa (Zat Zbf (pv 1) Zak) (Zaa (Zat Zbf (pv 1) Zak) (Zaa (pv 0) (Zaa (Zat ZaS (pv 1) Zak) Zac))))))
   (Zae (Zab (ZbB YBJ rfl (ZeI (pv 3)) (ZaN (i:=4) Zhy.nd rfl (Or.inl rfl))
   (Zah (ZaF (ZaB (pv 2) T.ac T.aM (ZhD T) (hr.mono (by decide)) T.b7 .nil ZaL (Zaa (pv 4) Zac)))))
   (Zae (Zab (Zap (i:=5) Zhy.nd rfl (Or.inl rfl) (Zan (ZjB rfl) rfl T.z_min ZoB (Zaa (Zan (ZaM (K:=K) rfl) rfl T.z_len Zbr (Zaa (pv 3) Zac)) (Zaa (Zat ZaS (Zat Zbf (pv 1) Zak) Zak) Zac))))
   (Zae (Zab (ZbB YBJ rfl (Zbp rfl T.z_range (Zaa (pv 5) Zac)) (ZaN (i:=6) Zhy.nd rfl (Or.inl rfl))
   (Zah (ZaF (Zaz (pv 2) T.ac T.a9 (Zl5 T) (hr.mono (by decide)) T.eD .nil ZaL))))
   (Zae (Zah (Zaq (Zbm (Zaa (pv 2) (Zaa (ZaR ZcC (pv 3) (Za8 (pv 5)) Za9) Zac))))))))))))))),?_⟩
  have m1:=kok.m1;have m4:=kok.m4;walk_at "rd";intro p dx np ndx ne;refine⟨p,dx,m,rfl,Zag,kok,λla0 da H1 at1 nla nda k1=>⟨rfl,?_⟩⟩;have s1:Same H H1:=λb o e=>k1 b o (by rw[Zai (Zad e np),Zai (Zad e ndx)];exact e) (Zad e np);have tk1:=tk.same s1;have fr:∀ {b:AD},upd (upd H dx (.own p)) p (.ins a.c_LY dx []) b=none->H b=none:=λ{b} z=>by
   cases e:H b with
   | none=>rfl
   | some o=>rw[Zai (Zad e np),Zai (Zad e ndx),e]at z;cases z
  have nda0:=fr nda;have nla0:=fr nla;have keepL:∀ {H' H'':Hp},SameL H H'->Chg [p,da] H' H''->SameL H H'':=λsl ch bb o e t=>ch _ _ (sl _ _ e t) (by
   walk_at "m";refine⟨λz=>?_,λz=>?_⟩
   .rw[z,np]at e;cases e
   .rw[z,nda0]at e;cases e) t
  walk_at "h";obtain⟨N,eN,hN⟩:∃N:Nat,c % 9=(N:Int)/\N<=8:=⟨(c % 9).toNat,by omega,by omega⟩;rw[eN];refine⟨⟨by decide,by decide⟩,⟨by decide,by decide⟩,by decide,_,_,m,N,rfl,m1,m4,by omega,λl H2 ll lm s2=>?_⟩;have at2:=at1.same s2;have tk2:=tk1.same s2;have s02:=s1.trans s2;walk_at "h";refine⟨l,rfl,ForRun.text (λi U H'=>∃v4 la ds,U=[some (tx m),some (.int c),some (.ref p),some (tx l),v4,none,none]/\StripAt a.c_LY H' p la da (l.take i) m ds/\ds.length<=i/\TblOk H' a.t_LD lpos lq/\SameL H H'/\Nw H la) ⟨_,la0,[],rfl,by rw[List.take_zero];exact at2,YAS _,tk2,s02.l,Nw.of nla0⟩ ?_ ?_⟩
  .rintro i x U H3 hx ⟨v4,la,ds,rfl,at3,dl,tk3,sl3,nw3⟩;have hi:i<l.length:=(YAj.mp hx).1;obtain⟨dx3,f3⟩:=id at3.fld;walk_at "rd";refine⟨p,dx3,_,rfl,f3,sN,p,la,da,_,m,ds,_,rfl,at3,by omega,tk3,.inl ⟨x,rfl,lm x (YAq hx),by rw[YAa];omega,λt c g la2 H4 q1 q2 q3 q4=>⟨_,la2,ds++[(true,x)],rfl,?_,by rw[YAH];exact YCA dl,q4,keepL sl3 q1,q3.nl.l sl3⟩⟩⟩;rw[List.take_add_one,hx];exact q2
  .rintro U H3 ⟨v4,la,ds,rfl,at3,dl,tk3,sl3,nw3⟩;rw[YDC]at at3;walk_at "k";obtain⟨M,eM,hM⟩:∃M:Nat,(if c/9 % 3<(l.length:Nat) then c/9 % 3 else ((l.length:Nat):Int))=(M:Int)/\M<=l.length:=by
    by_cases z:c/9 % 3<(l.length:Nat)
    .rw[YAM z];exact⟨(c/9 % 3).toNat,by omega,by omega⟩
    .rw[YAI z];exact⟨l.length,rfl,YAS _⟩
   refine⟨_,_,rfl,Zb3 (by omega),⟨by decide,by decide⟩,by decide,_,_,rfl,?_⟩;show Zav _ _ _ _;refine Zaf ?_;rw[eM];walk_at "rd";refine⟨_,rfl,by omega,by omega,?_⟩;rw[show ((M:Nat):Int).toNat=M by omega];refine ForRun.range (λi U H'=>∃v6 la ds,U=[some (tx m),some (.int c),some (.ref p),some (tx l),v4,some (.int (M:Nat)),v6]/\StripAt a.c_LY H' p la da (l.drop i) m ds/\ds.length<=10+i/\TblOk H' a.t_LD lpos lq/\SameL H H'/\Nw H la) ⟨_,la,ds,rfl,at3,by omega,tk3,sl3,nw3⟩ ?_ ?_
   .rintro i U H4 hi ⟨v6,la,ds,rfl,at4,dl4,tk4,sl4,nw4⟩;obtain⟨dx4,f4⟩:=id at4.fld;rw[YCD (show i<l.length by omega)]at at4;walk_at "rd";exact⟨p,dx4,_,rfl,f4,sN,p,la,da,_,m,ds,rfl,at4,by omega,tk4,.inl ⟨_,_,rfl,λt c g la2 H5 q1 q2 q3 q4=>⟨_,la2,_,rfl,q2,by rw[YAH];exact YCA dl4,q4,keepL sl4 q1,q3.nl.l sl4⟩⟩⟩
   .rintro U H4 ⟨v6,la,ds,rfl,at4,dl4,tk4,sl4,nw4⟩;walk_at "k";refine⟨_,rfl,l,rfl,sz _ (by omega),sz _ (by decide),NewL.of λt H5 s5 n5 e5=>?_⟩;rw[ZbY]at e5;have at5:=at4.same s5;obtain⟨_,⟨_,x2⟩,_,x3⟩:=Zaw at4;exact q t p la da _ ds H5 (sl4.trans s5.l) (tk4.same s5) e5 at5 (by rw[YAk];omega) (by omega) (Nw.of np) nw4 (Nw.of nda0) (Zad x2 n5) (Zad x3 n5)
theorem Zo2:FnScope ["self","name"] ["self","name"] (Zaj s_KS):=by walk_at "sc"
theorem ZnE (T:TL K mg base a tb):FnOk P w K mg base (CXr P w) 6 a.bu a.cF ["self","name"] (sp_KS K a):=by
 refine T.fm_KS.okX Zo2 (λvs H Q E h=>?_) (λBc A outer s H vs Q E hr h=>?_)
 .obtain⟨_,_,_,_,_,rfl,_⟩:=h;rfl
 .obtain⟨p,dA,m,F,v,rfl,hp,tk,q⟩:=h;refine⟨_,(Zah (Zaq (Zaz (ZaB (pv 0) T.ah T.aN (ZiM T) (hr.mono (by decide)) T.cZ .nil Zbn (Zaa (pv 1) Zac)) T.ac T.a9 (Zl5 T) (hr.mono (by decide)) T.eD .nil Zbn))),?_⟩;obtain⟨dx,f⟩:=hp.fld;walk_at "rd";refine⟨p,dx,_,rfl,f,shN,p,dA,m,F,v,rfl,hp,?_⟩;rcases q with⟨r,hr,rfl,hd,q⟩ | x
  .refine .inl ⟨r,hr,rfl,λH1 s1=>?_⟩;have st:=(hp.str r hr).same s1;obtain⟨dy,g⟩:=id st.fld;refine⟨r.p,dy,_,rfl,g,sN,r.p,r.la,r.da,r.l,m,r.ds,rfl,st,hd,tk.same s1,?_⟩;rcases q with⟨c0,l0,el,q⟩|⟨el,x⟩
   .refine .inl ⟨c0,l0,el,λt c g la2 H2 c2 st2 an tk2=>q t c g la2 H2 (s1.chg.trans c2) ?_ (Zc7 an s1) tk2⟩;exact hp.moved hr (s1.chg.trans c2) st2 (Zc7 an s1).nl
   .exact .inr ⟨el,x.same s1⟩
  .exact .inr x
theorem Zm6:FnScope ["self","twin"] ["self"] (Zaj s_KG):=by walk_at "sc"
theorem ZnH (T:TL K mg base a tb):FnOk P w K mg base CX0 6 a.bI a.cU ["self"] (sp_KG K a):=by
 refine T.fm_KG.ok Zm6 (λvs H Q E h=>?_) (λBc A outer s H vs Q E hr h=>?_)
 .obtain⟨_,_,_,_,_,_,rfl,_⟩:=h;rfl
 .obtain⟨p,la,da,l,m,ds,rfl,hp,q⟩:=h;refine⟨_,(Zab (Zap (i:=1) Zm6.nd rfl (Or.inl rfl) (Zc0 T.aR (Zkb T) (hr.mono (by decide)) rfl T.bZ T.dF .nil Zao (Zaa (ZaA (K:=K) rfl (pv 0) rfl) Zac)))
   (Zae (Zab (Zb9 (pv 1) (ZaA (K:=K) rfl (pv 0) rfl) rfl)
   (Zae (Zab (Zb9 (pv 1) (Zbq (ZbZ (K:=K) rfl) rfl T.z_list Zc5 (Zaa (ZaA (K:=K) rfl (pv 0) rfl) Zac)) rfl)
   (Zae (Zab (Zb9 (pv 1) (Zbq (ZbZ (K:=K) rfl) rfl T.z_list Zc5 (Zaa (ZaA (K:=K) rfl (pv 0) rfl) Zac)) rfl)
   (Zae (Zah (Zaq (pv 1))))))))))),?_⟩
  obtain⟨⟨dx,f⟩,hk,⟨ts,d1,d2⟩,run,ok,nld⟩:=id hp;walk_at "rd";refine⟨p,_,dx,_,_,rfl,f,T.ac,T.ag,Zb6,λx dx2 nx ndx ne=>?_⟩;refine⟨x,dx2,m,rfl,Zag,Zi9 ok,λla2 da2 H2 at2 nla nda k2=>⟨rfl,?_⟩⟩;have s2:Same H H2:=λb o e=>k2 b o (by rw[Zai (Zad e nx),Zai (Zad e ndx)];exact e) (Zad e nx);obtain⟨dx3,f2⟩:=at2.fld;have npx:p≠x:=Zad f nx;walk_at "g";refine⟨p,_,dx,_,_,rfl,s2 _ _ f,T.ac,T.aa,ZaX,x,_,dx3,_,rfl,f2,T.ac,T.aa,(by show 4<1000;decide),?_⟩;rw[show putF (Str.ofString "own_text") (tx l) (sF [] m la2 da2)=sF l m la2 da2 from Zio];have s3:Same H (upd H2 x (.ins a.c_LY dx3 (sF l m la2 da2))):=same_upd3 s2 nx;have f3:upd H2 x (.ins a.c_LY dx3 (sF l m la2 da2)) x=some (.ins a.c_LY dx3 (sF l m la2 da2)):=Zag;generalize upd H2 x (.ins a.c_LY dx3 (sF l m la2 da2))=H3 at s3 f3;walk_at "g";refine⟨p,_,dx,_,_,rfl,s3 _ _ f,T.ac,T.af,ZgT,la,_,rfl,.inl (.mk (s3 _ _ hk)),λl4 n4=>?_⟩;have s4:Same H3 (upd H3 l4 (.lst ((ZaK l m).map tx))):=ZaE n4;have e4:upd H3 l4 (.lst ((ZaK l m).map tx)) l4=some (.lst ((ZaK l m).map tx)):=Zag;generalize upd H3 l4 (.lst ((ZaK l m).map tx))=H4 at s4 e4;have nx4:x≠l4:=Zad f3 n4;refine⟨x,_,dx3,_,rfl,s4 _ _ f3,T.ac,T.af,(by show 4<1000;decide),?_⟩;rw[show putF (Str.ofString "own_lacking") (.ref l4) (sF l m la2 da2)=sF l m l4 da2 from Zip];have s5:Same H (upd H4 x (.ins a.c_LY dx3 (sF l m l4 da2))):=same_upd3 (s3.trans s4) nx;have f5:upd H4 x (.ins a.c_LY dx3 (sF l m l4 da2)) x=some (.ins a.c_LY dx3 (sF l m l4 da2)):=Zag;have e5:upd H4 x (.ins a.c_LY dx3 (sF l m l4 da2)) l4=some (.lst ((ZaK l m).map tx)):=by rw[Zai (YAh nx4)];exact e4
  generalize upd H4 x (.ins a.c_LY dx3 (sF l m l4 da2))=H5 at s5 f5 e5;walk_at "g";refine⟨p,_,dx,_,_,rfl,s5 _ _ f,T.ac,T.ad,Zby,da,_,rfl,.inl (.mk (s5 _ _ d1)),λl6 n6=>?_⟩;have s6:Same H5 (upd H5 l6 (.lst ts)):=ZaE n6;have e6:upd H5 l6 (.lst ts) l6=some (.lst ts):=Zag;generalize upd H5 l6 (.lst ts)=H6 at s6 e6;have nx6:x≠l6:=Zad f5 n6;have n46:l4≠l6:=Zad e5 n6;refine⟨x,_,dx3,_,rfl,s6 _ _ f5,T.ac,T.ad,(by show 4<1000;decide),?_⟩;rw[show putF (Str.ofString "own_deeds") (.ref l6) (sF l m l4 da2)=sF l m l4 l6 from Zj0];walk_at "g";have s7:Same H (upd H6 x (.ins a.c_LY dx3 (sF l m l4 l6))):=same_upd3 (s5.trans s6) nx;refine q x l4 l6 _ s7 ⟨⟨dx3,Zag⟩,?_,⟨ts,?_,d2.chg s7.chg (S:=[]) (by simp)⟩,run,ok,n46⟩ nx (s3.free n4) (s5.free n6)
  .rw[Zai (YAh nx4)];exact s6 _ _ e5
  .rw[Zai (YAh nx6)];exact e6
theorem Zpf:FnScope ["self","name","letter"] ["self","name","letter"] (Zaj s_K7):=by walk_at "sc"
theorem ZnJ (T:TL K mg base a tb):FnOk P w K mg base (CXr P w) 6 a.bt a.cE ["self","name","letter"] (sp_K7 K a):=by
 refine T.fm_K7.okX Zpf (λvs H Q E h=>?_) (λBc A outer s H vs Q E hr h=>?_)
 .obtain⟨_,_,_,_,_,_,rfl,_⟩:=h;rfl
 .obtain⟨p,dA,m,F,v,u,rfl,hp,tk,q⟩:=h;refine⟨_,(Zah (Zaq (ZaB (ZaB (pv 0) T.ah T.aN (ZiM T) (hr.mono (by decide)) T.cZ .nil Zbn (Zaa (pv 1) Zac)) T.ac T.aM (ZhD T) (hr.mono (by decide)) T.b7 .nil Zbn (Zaa (pv 2) Zac)))),?_⟩;obtain⟨dx,f⟩:=hp.fld;walk_at "rd";refine⟨p,dx,_,rfl,f,shN,p,dA,m,F,v,rfl,hp,?_⟩;rcases q with⟨r,hr,rfl,hd,q⟩ | x
  .refine .inl ⟨r,hr,rfl,λH1 s1=>?_⟩;have st:=(hp.str r hr).same s1;obtain⟨dy,g⟩:=id st.fld;refine⟨r.p,dy,_,rfl,g,sN,r.p,r.la,r.da,r.l,m,r.ds,u,rfl,st,hd,tk.same s1,.inr ?_⟩;rcases q with⟨bl,x⟩|⟨c0,rfl,hc,hl,x⟩
   .exact .inl ⟨bl.same s1,x.same s1⟩
   .exact .inr ⟨c0,rfl,hc,hl,x.same s1⟩
  .exact .inr x
theorem Zo3:FnScope ["self","name"] ["self","name"] (Zaj s_KR):=by walk_at "sc"
theorem ZnF (T:TL K mg base a tb):FnOk P w K mg base (CXr P w) 6 a.bv a.cG ["self","name"] (sp_KR K a):=by
 refine T.fm_KR.okX Zo3 (λvs H Q E h=>?_) (λBc A outer s H vs Q E hr h=>?_)
 .obtain⟨_,_,_,_,_,rfl,_⟩:=h;rfl
 .obtain⟨p,dA,m,F,v,rfl,hp,tk,q⟩:=h;refine⟨_,(Zah (Zaq (Zaz (ZaB (pv 0) T.ah T.aN (ZiM T) (hr.mono (by decide)) T.cZ .nil Zbn (Zaa (pv 1) Zac)) T.ac T.bT (ZnC T) (hr.mono (by decide)) T.b_KW .nil Zbn))),?_⟩;obtain⟨dx,f⟩:=hp.fld;walk_at "rd";refine⟨p,dx,_,rfl,f,shN,p,dA,m,F,v,rfl,hp,?_⟩;rcases q with⟨r,hr,rfl,hd,q⟩ | x
  .refine .inl ⟨r,hr,rfl,λH1 s1=>?_⟩;have st:=(hp.str r hr).same s1;obtain⟨dy,g⟩:=id st.fld;refine⟨r.p,dy,_,rfl,g,sN,r.p,r.la,r.da,r.l,m,r.ds,rfl,st,hd,tk.same s1,?_⟩;rcases q with⟨ds0,c0,l0,ed,el,q⟩|⟨ds0,c0,ed,q⟩|⟨ed,x⟩
   .exact .inl ⟨ds0,c0,l0,ed,el,λt c g la2 H2 c2 st2 an tk2=>q t c g la2 H2 (s1.chg.trans c2) (hp.moved hr (s1.chg.trans c2) st2 (Zc7 an s1).nl) (Zc7 an s1) tk2⟩
   .exact .inr (.inl ⟨ds0,c0,ed,λt c g la2 H2 c2 st2 an tk2=>q t c g la2 H2 (s1.chg.trans c2) (hp.moved hr (s1.chg.trans c2) st2 (Zc7 an s1).nl) (Zc7 an s1) tk2⟩)
   .exact .inr (.inr ⟨ed,x.same s1⟩)
  .exact .inr x
theorem ZjW:FnScope ["_law_bad","_law_found","e"] ["_law_bad"] (Zaj s_LJ):=by walk_at "sc"
theorem ZpC (T:TL K mg base a tb):FnOk P w K mg base CX0 6 a.f_LJ a.d_LJ ["_law_bad"] (sp_LJ K a):=by
 refine T.f_LJ.ok ZjW (λvs H Q E h=>?_) (λBc A outer s H vs Q E hr h=>?_)
 .obtain⟨_,rfl,_⟩:=h;rfl
 .obtain⟨v,rfl,bk,q⟩:=h;refine⟨_,(Zab (Zap (i:=1) ZjW.nd rfl (Or.inl rfl) Zbw)
   (Zae (Zab (ZkX rfl rfl (ZaT (Zbu (Zj7 T.bP (ZnD T) (hr.mono (by decide)) rfl T.m_LX T.b_KT .nil (Zaa (pv 0) Zac)))) (Znk (i:=2) (λ_=>hr.hd) rfl T.cV ZjW.nd rfl rfl (λ_=>(Zah (Zap (i:=1) ZjW.nd rfl (Or.inl rfl) (Zan (Zay (K:=K) rfl) rfl T.z_isinstance Zas (Zaa (pv 2) (Zaa (Zba (v:=.ref a.c_LF) rfl T.m_LF rfl) Zac)))))) ZkY))
   (Zae (Zah (Zaq (pv 1))))))),?_⟩
  walk_at "rd";walk_at "g";intro x dx nx ndx ne;have sm:Same H (upd (upd H dx (.own x)) x (.ins a.c_LX dx [])):=λb o e=>by rw[Zai (Zad e nx),Zai (Zad e ndx)];exact e
  refine⟨x,dx,v,rfl,Zag,.inr ⟨bk.same sm,λe H2 s2 hx=>⟨e,_,rfl,rfl,true,Zcg T.dS T.bd (by simp[YAZ]) (by simp[YAZ]),iteT ?_⟩⟩⟩;refine⟨_,_,_,_,true,rfl,rfl,.exc hx T.eK,Zbh T.dS T.dS Zcz (λ_=>rfl),?_⟩;walk_at "k";exact q H2 (sm.trans s2)
theorem Zo8:FnScope ["self","name"] ["self","name"] (Zaj s_KK):=by walk_at "sc"
theorem ZfA (T:TL K mg base a tb):FnOk P w K mg base (CXr P w) 7 a.bq a.cA ["self","name"] (sp_KK K a):=by
 refine T.fm_KK.okX Zo8 (λvs H Q E h=>?_) (λBc A outer s H vs Q E hr h=>?_)
 .obtain⟨_,_,_,_,_,rfl,_⟩:=h;rfl
 .obtain⟨p,dA,m,F,v,rfl,hp,q⟩:=h;refine⟨_,(Zah (Zaq (Zaz (ZaB (pv 0) T.ah T.aN (ZiM T) (hr.mono (by decide)) T.cZ .nil Zbn (Zaa (pv 1) Zac)) T.ac T.bX (ZnH T) (hr.mono (by decide)) T.b_KG .nil Zao))),?_⟩;obtain⟨dx,f⟩:=hp.fld;walk_at "rd";refine⟨p,dx,_,rfl,f,shN,p,dA,m,F,v,rfl,hp,?_⟩;rcases q with⟨r,hr,rfl,q⟩ | x
  .refine .inl ⟨r,hr,rfl,λH1 s1=>?_⟩;have st:=(hp.str r hr).same s1;obtain⟨dy,g⟩:=id st.fld;exact⟨r.p,dy,_,rfl,g,sN,r.p,r.la,r.da,r.l,m,r.ds,rfl,st,λp2 la2 da2 H2 s2 st2 n1 n2 n3=>q p2 la2 da2 H2 (s1.trans s2) st2 (s1.free n1) (s1.free n2) (s1.free n3)⟩
  .exact .inr x
theorem Zpg:FnScope ["self","name","strip"] ["self","name","strip"] (Zaj s_K6):=by walk_at "sc"
theorem Zkc (T:TL K mg base a tb):FnOk P w K mg base (CXr P w) 7 a.bj a.cx ["self","name","strip"] (sp_K6 K a):=by
 refine T.fm_K6.okX Zpg (λvs H Q E h=>?_) (λBc A outer s H vs Q E hr h=>?_)
 .obtain⟨_,_,_,_,_,_,_,_,_,_,_,rfl,_⟩:=h;rfl
 .have hu1:=ZaG hr;obtain⟨p,dA,q_,la,da,l,m,m2,ds,F,v,rfl,hp,hs,q⟩:=h;refine⟨_,(Zab (ZaF (ZaB (pv 0) T.ah T.cg (ZpO T) (hr.mono (by decide)) T.b_KA .nil Zbn (Zaa (pv 1) Zac)))
   (Zae (Zab (ZaF (Zal (ZnL T) (hr.mono (by decide)) rfl T.m_K1 T.f_K1.kp T.b_K1 .nil Zbn (Zaa (pv 0) (Zaa (pv 2) Zac))))
   (Zae (Zah (Zgn hu1 (ZaA (K:=K) rfl (pv 0) rfl) (pv 1) (Zaz (pv 2) T.ac T.bX (ZnH T) (hr.mono (by decide)) T.b_KG .nil Zao) rfl)))))),?_⟩
  obtain⟨dx,f⟩:=hp.fld;obtain⟨dy,g⟩:=id hs.fld;walk_at "rd";refine⟨p,dx,_,rfl,f,shN,p,dA,m,F,v,rfl,hp,?_⟩;rcases q with⟨n,rfl,hn,hk,nf,rfl,hF,q⟩|⟨n,rfl,hn,hk,nf,nm,x⟩ | x | x
  .refine .inl ⟨n,rfl,hn,hk,nf,λH1 s1=>?_⟩;have hs1:=hs.same s1;walk_at "h";refine⟨p,q_,dA,l,m,m,F,rfl,hp.same s1,.inr ⟨la,da,ds,hs1⟩,.inl ⟨rfl,?_⟩⟩;walk_at "h";refine⟨q_,dy,_,rfl,s1 _ _ g,sN,q_,la,da,l,m,ds,rfl,hs1,λp2 la2 da2 H2 s2 st2 n1 n2 n3=>?_⟩;have s12:=s1.trans s2;obtain⟨k1,k2⟩:=hp.lay s12 st2 (s1.free n1) (s1.free n2) (s1.free n3) hk nf;exact⟨p,_,dx,_,_,rfl,s12 _ _ f,T.ah,T.ae,shS,dA,_,rfl,.inl ⟨_,kTx n,s12 _ _ hp.dct,rfl,by rw[Zn3];exact YCV hF (by rw[sizeLine_eq];decide),rfl⟩,q ⟨n,p2,la2,da2,l,ds⟩ _ rfl rfl rfl (s1.free n1) (s1.free n2) (s1.free n3) k2 k1⟩
  .refine .inl ⟨n,rfl,hn,hk,nf,λH1 s1=>?_⟩;walk_at "h";exact⟨p,q_,dA,l,m,m2,F,rfl,hp.same s1,.inr ⟨la,da,ds,hs.same s1⟩,.inr ⟨nm,x.same s1⟩⟩
  .exact .inr (.inl x)
  .exact .inr (.inr x)
theorem ZjV:FnScope ["_law_shelf","_law_way","_law_name","_law_strip_here","_law_found","e"] ["_law_shelf","_law_way","_law_name","_law_strip_here"] (Zaj s_LK):=by walk_at "sc"
theorem Zfz (T:TL K mg base a tb):FnOk P w K mg base CX0 8 a.f_LK a.d_LK ["_law_shelf","_law_way","_law_name","_law_strip_here"] (sp_LK K a):=by
 refine T.f_LK.ok ZjV (λvs H Q E h=>?_) (λBc A outer s H vs Q E hr h=>?_)
 .obtain⟨_,_,_,_,_,_,_,_,_,rfl,_⟩:=h;rfl
 .have Bf:=hr.units;obtain⟨p,dA,q_,l,m,m2,F,w_,v,rfl,hp,hq,kok,tk,q⟩:=h;refine⟨_,(Zab (Zap (i:=4) ZjV.nd rfl (Or.inl rfl) ZiC)
   (Zae (Zab (ZkX rfl rfl (ZaT (ZdD (Zau (ZaQ (K:=K) rfl Bf) (pv 1) Zak (ZaC _)) (ZaT (Zbu (ZbD (pv 0) T.ah T.aO (Zkc T) (hr.mono (by decide)) T.dD .nil (Zaa (pv 2) (Zaa (pv 3) Zac))))) (ZaT (ZdD (Zau (ZaQ (K:=K) rfl Bf) (pv 1) Zak (ZaC _)) (ZaT (Zbu (ZbD (pv 0) T.ah T.aL (ZfA T) (hr.mono (by decide)) T.bf .nil (Zaa (pv 2) Zac)))) (ZaT (ZdD (Zau (ZaQ (K:=K) rfl Bf) (pv 1) Zak (ZaC _)) (ZaT (Zbu (ZbD (pv 0) T.ah T.aZ (Zl6 T) (hr.mono (by decide)) T.em .nil (Zaa (pv 2) Zac)))) (ZaT (ZdD (Zau (ZaQ (K:=K) rfl Bf) (pv 1) Zak (ZaC _)) (ZaT (Zbu (ZbD (pv 0) T.ah T.bQ (ZnJ T) (hr.mono (by decide)) T.b_K7 .nil (Zaa (pv 2) (Zaa (Zbj ZdO (ZiB (Zaz (pv 3) T.aQ T.aq (Zgp T) (hr.mono (by decide)) T.bY .nil Zao) (Zaz (pv 3) T.ac T.ao (Zgp T) (hr.mono (by decide)) T.bY .nil Zao)) Zak (λ_ _=>rfl)) Zac))))) (ZaT (ZdD (Zau (ZaQ (K:=K) rfl Bf) (pv 1) Zak (ZaC _)) (ZaT (Zbu (ZbD (pv 0) T.ah T.bR (ZnE T) (hr.mono (by decide)) T.b_KS .nil (Zaa (pv 2) Zac)))) (ZaT (ZdD (Zau (ZaQ (K:=K) rfl Bf) (pv 1) Zak (ZaC _)) (ZaT (Zbu (ZbD (pv 0) T.ah T.bS (ZnF T) (hr.mono (by decide)) T.b_KR .nil (Zaa (pv 2) Zac)))) (ZaT (ZdD (Zau (ZaQ (K:=K) rfl Bf) (pv 1) Zak (ZaC _)) (ZaT (Zbu (ZbD (pv 0) T.ah T.bQ (ZnJ T) (hr.mono (by decide)) T.b_K7 .nil (Zaa (pv 2) (Zaa (ZaR ZcC (Zat Za2 (ZiB (Zaz (pv 3) T.aQ T.aq (Zgp T) (hr.mono (by decide)) T.bY .nil Zao) (Zaz (pv 3) T.ac T.ao (Zgp T) (hr.mono (by decide)) T.bY .nil Zao)) (Zar (l:=[65]) (by decide +kernel))) Za9 (Za8 Zak)) Zac))))) (ZaT (Zbu (ZbD (pv 0) T.ah T.ck (ZpN T) (hr.mono (by decide)) T.b_KE .nil (Zaa (pv 3) Zac)))))))))))))))))) (Znk (i:=5) (λ_=>hr.hd) rfl T.cV ZjV.nd rfl rfl (λ_=>(Zah (Zap (i:=4) ZjV.nd rfl (Or.inl rfl) (pv 5)))) ZkY))
   (Zae (Zah (Zaq (pv 4))))))),?_⟩
  have sz:∀k:Nat,k<=1000->k<=sizeLine:=λk h=>YAK h (by rw[sizeLine_eq];decide);obtain⟨dx,f⟩:=hp.fld;have m1:=kok.m1;have m4:=kok.m4;obtain⟨c0,hc0,mc0⟩:=ZcU (xs:=m2) (i:=0) (by decide) (by omega);have xn:=Zcg (b:=true) T.bK T.bd (by simp[YAZ]) (by simp[YAZ]);have xu:=Zcg (b:=true) T.bO T.bd (by simp[YAZ]) (by simp[YAZ]);have xt:=Zcg (b:=true) T.bM T.bd (by simp[YAZ]) (by simp[YAZ]);have xw:=Zcg (b:=true) T.dP T.bd (by simp[YAZ]) (by simp[YAZ]);have xb:=Zcg (b:=true) T.dW T.bd (by simp[YAZ]) (by simp[YAZ]);have xk:=Zcg (b:=true) T.dZ T.bd (by simp[YAZ]) (by simp[YAZ]);have xf:=Zcg (b:=true) T.dU T.bd (by simp[YAZ]) (by simp[YAZ]);walk_at "rd";walk_at "g";refine sw8 λR k0 k1 k2 k3 k4 k5 k6 k7=>?_;rcases q with⟨w5,⟨la,da,ds,st⟩,b0,nn,q⟩|⟨e,⟨la,da,ds,st⟩,nm,⟨n,hv,hn,hk,nf⟩,q⟩|⟨e,⟨la,da,ds,st⟩,⟨r,hr,hv⟩,q⟩|⟨e,nm,q⟩|⟨e,rfl,⟨r,hr,hv,hd⟩,q⟩|⟨e,⟨r,hr,hv,hd,hl⟩,q⟩|⟨e,⟨r,hr,hv,hd,hl⟩,q⟩|⟨e,rfl,⟨r,hr,hv,hd,hl⟩,q⟩
  .have hw:w_=0\/w_=1\/w_=2\/w_=3\/w_=4\/w_=5:=by omega
   rcases hw with e | e | e | e | e | e
   .exact k0 (by rw[e];rfl) ⟨p,dx,_,rfl,f,shN,Zki p dA q_ la da l m m2 ds F v rfl hp st (.inr (.inr (.inl ⟨b0 e,(λe H2 s2 x=>⟨e,_,rfl,rfl,true,xn,iteT (by walk_at "h";exact q e H2 s2 x)⟩)⟩)))⟩
   .exact k1 (by rw[e];rfl) ⟨p,dx,_,rfl,f,shN,ZpT p dA m F v rfl hp (.inr ⟨nn,(λe H2 s2 x=>⟨e,_,rfl,rfl,true,xn,iteT (by walk_at "h";exact q e H2 s2 x)⟩)⟩)⟩
   .exact k2 (by rw[e];rfl) ⟨p,dx,_,rfl,f,shN,ZpS p dA m F v rfl hp (.inr ⟨nn,(λe H2 s2 x=>⟨e,_,rfl,rfl,true,xn,iteT (by walk_at "h";exact q e H2 s2 x)⟩)⟩)⟩
   .exact k3 (by rw[e];rfl) ⟨p,dx,_,rfl,f,shN,Zfb hq (by decide +kernel) (by decide +kernel) (by decide +kernel) (λ_=>⟨q_,l,m2,rfl,hq,m2,0,c0,rfl,rfl,sz _ (by omega),hc0,ZhI p dA m F v _ rfl hp tk (.inr ⟨nn,(λe H2 s2 x=>⟨e,_,rfl,rfl,true,xn,iteT (by walk_at "h";exact q e H2 s2 x)⟩)⟩)⟩) (λ_ _ _ _=>⟨q_,l,m2,rfl,hq,m2,0,c0,rfl,rfl,sz _ (by omega),hc0,ZhI p dA m F v _ rfl hp tk (.inr ⟨nn,(λe H2 s2 x=>⟨e,_,rfl,rfl,true,xn,iteT (by walk_at "h";exact q e H2 s2 x)⟩)⟩)⟩)⟩
   .exact k4 (by rw[e];rfl) ⟨p,dx,_,rfl,f,shN,ZnT p dA m F v rfl hp tk (.inr ⟨nn,(λe H2 s2 x=>⟨e,_,rfl,rfl,true,xn,iteT (by walk_at "h";exact q e H2 s2 x)⟩)⟩)⟩
   .exact k5 (by rw[e];rfl) ⟨p,dx,_,rfl,f,shN,ZnU p dA m F v rfl hp tk (.inr ⟨nn,(λe H2 s2 x=>⟨e,_,rfl,rfl,true,xn,iteT (by walk_at "h";exact q e H2 s2 x)⟩)⟩)⟩
  .exact k0 (by rw[e];rfl) ⟨p,dx,_,rfl,f,shN,Zki p dA q_ la da l m m2 ds F _ rfl hp st (.inr (.inl ⟨n,hv,hn,hk,nf,nm,(λe H2 s2 x=>⟨e,_,rfl,rfl,true,xu,iteT (by walk_at "h";exact q e H2 s2 x)⟩)⟩))⟩
  .exact k0 (by rw[e];rfl) ⟨p,dx,_,rfl,f,shN,Zki p dA q_ la da l m m2 ds F _ rfl hp st (.inr (.inr (.inr ⟨r,hr,hv,(λe H2 s2 x=>⟨e,_,rfl,rfl,true,xt,iteT (by walk_at "h";exact q e H2 s2 x)⟩)⟩)))⟩
  .exact k7 (by rw[e];rfl) ⟨p,dx,_,rfl,f,shN,ZpU p q_ dA l m m2 F rfl hp hq nm (λe H2 s2 x=>⟨e,_,rfl,rfl,true,xu,iteT (by walk_at "h";exact q e H2 s2 x)⟩)⟩
  .have two:isl ((m++[65]).take 2) m=false:=by unfold isl;rw[decide_eq_false (by rw[YAa,YAH,YAd];omega),YCE]
   refine k6 (by rw[e];rfl) ⟨p,dx,_,rfl,f,shN,Zfb hq (by decide +kernel) (by decide +kernel) (by decide +kernel) (λ_=>⟨q_,l,_,rfl,hq,?_⟩) (λ_ _ _ _=>⟨q_,l,_,rfl,hq,?_⟩)⟩
   .refine⟨m,[65],rfl,rfl,sz _ (by show _+1<=1000;omega),2,rfl,m++[65],rfl,sz _ (by rw[YAH];show _+1<=1000;omega),?_⟩;rw[show cut (m++[65]) none (some 2)=(m++[65]).take 2 from Zdd _ 2];exact(ZhI p dA m F _ _ rfl hp tk (.inl ⟨r,hr,hv,hd,.inl ⟨.inl ⟨_,rfl,by rw[YAa];omega,two⟩,(λe H2 s2 x=>⟨e,_,rfl,rfl,true,xw,iteT (by walk_at "h";exact q e H2 s2 x)⟩)⟩⟩))
   .refine⟨m,[65],rfl,rfl,sz _ (by show _+1<=1000;omega),2,rfl,m++[65],rfl,sz _ (by rw[YAH];show _+1<=1000;omega),?_⟩;rw[show cut (m++[65]) none (some 2)=(m++[65]).take 2 from Zdd _ 2];exact(ZhI p dA m F _ _ rfl hp tk (.inl ⟨r,hr,hv,hd,.inl ⟨.inl ⟨_,rfl,by rw[YAa];omega,two⟩,(λe H2 s2 x=>⟨e,_,rfl,rfl,true,xw,iteT (by walk_at "h";exact q e H2 s2 x)⟩)⟩⟩))
  .exact k4 (by rw[e];rfl) ⟨p,dx,_,rfl,f,shN,ZnT p dA m F _ rfl hp tk (.inl ⟨r,hr,hv,hd,.inr ⟨hl,(λe H2 s2 x=>⟨e,_,rfl,rfl,true,xb,iteT (by walk_at "h";exact q e H2 s2 x)⟩)⟩⟩)⟩
  .exact k5 (by rw[e];rfl) ⟨p,dx,_,rfl,f,shN,ZnU p dA m F _ rfl hp tk (.inl ⟨r,hr,hv,hd,.inr (.inr ⟨hl,(λe H2 s2 x=>⟨e,_,rfl,rfl,true,xk,iteT (by walk_at "h";exact q e H2 s2 x)⟩)⟩)⟩)⟩
  .exact k3 (by rw[e];rfl) ⟨p,dx,_,rfl,f,shN,Zfb hq (by decide +kernel) (by decide +kernel) (by decide +kernel) (λ_=>⟨q_,l,_,rfl,hq,_,0,c0,rfl,rfl,sz _ (by omega),hc0,ZhI p dA _ F _ _ rfl hp tk (.inl ⟨r,hr,hv,hd,.inr ⟨c0,rfl,mc0,hl,(λe H2 s2 x=>⟨e,_,rfl,rfl,true,xf,iteT (by walk_at "h";exact q e H2 s2 x)⟩)⟩⟩)⟩) (λ_ _ _ _=>⟨q_,l,_,rfl,hq,_,0,c0,rfl,rfl,sz _ (by omega),hc0,ZhI p dA _ F _ _ rfl hp tk (.inl ⟨r,hr,hv,hd,.inr ⟨c0,rfl,mc0,hl,(λe H2 s2 x=>⟨e,_,rfl,rfl,true,xf,iteT (by walk_at "h";exact q e H2 s2 x)⟩)⟩⟩)⟩)⟩
theorem Zim:FnScope ["_law_shelf","_law_texts","_law_name","_law_strip_here"] ["_law_shelf","_law_texts"] (Zaj ZlM):=by walk_at "sc"
theorem Zfy (T:TL K mg base a tb):FnOk P w K mg base CX0 8 a.f_lis a.d_lis ["_law_shelf","_law_texts"] (sp_lis K a):=by
 refine T.f_lis.ok Zim (λvs H Q E h=>?_) (λBc A outer s H vs Q E hr h=>?_)
 .obtain⟨_,_,_,_,_,rfl,_⟩:=h;rfl
 .have Bf:=hr.units;have hu1:=ZaG hr;obtain⟨p,dA,pT,m,F,rfl,hp,hF,hT,ne,q⟩:=h;refine⟨_,(Zab (Za1 (Zau (ZbU (K:=K) rfl Bf) (Zaz (pv 0) T.ah T.aY (Zl8 T) (hr.mono (by decide)) T.d0 .nil Zao) (Zan (Zde rfl) rfl T.z_sorted Zci (Zaa (pv 1) Zac)) (ZaC _)) (Zah (Zaq Zbw)) Zax)
   (Zae (Zab (ZlR (ZbB YBJ rfl (ZlU (pv 1)) (ZaN (i:=2) Zim.nd rfl (Or.inl rfl))
   (Zab (Zap (i:=3) Zim.nd rfl (Or.inl rfl) (ZaB (pv 0) T.ah T.aL (ZfA T) (hr.mono (by decide)) T.bf .nil ZaL (Zaa (pv 2) Zac)))
   (Zae (Zah (Za1 (PW.pt (Zcv (ZaU (ZaP (Zan (Zay (K:=K) rfl) rfl T.z_isinstance Zas (Zaa (pv 3) (Zaa (Zba (v:=.ref a.c_LY) rfl T.bZ rfl) Zac))))) (ZbL (Zau (ZbU (K:=K) rfl Bf) (Zaz (pv 3) T.ac T.ai (ZfB T) (hr.mono (by decide)) T.bg .nil Zao) (ZeM hu1 (pv 1) (pv 2) (λ_ _=>rfl)) (ZaC _))))) (Zah (Zaq Zbw)) Zax))))))
   (Zae (Zah (Zaq Zbw)))))),?_⟩
  obtain⟨dx,f⟩:=hp.fld;obtain⟨F',pm,hd⟩:=hT;have ndF:(F'.map (·.n)).Nodup:=(pm.map _).nodup_iff.mpr hp.nd;walk_at "rd";refine⟨p,dx,_,rfl,f,shN,p,dA,m,F,rfl,hp,hF,λr1 H1 s1 n1 e1=>⟨pT,_,F'.map (·.n),rfl,.inl (s1 _ _ hd),by rw[YAu,YAu];rfl,NewL.of λr2 H2 s2 n2 e2=>?_⟩⟩;have eq:ZaV (F'.map (·.n))=ZaV (F.map (·.n)):=Zcu (pm.map _);rw[eq]at e2;have s12:=s1.trans s2;have d2:=s12 _ _ hd;refine ZnO (.mk (s2 _ _ e1)) (.mk e2) ⟨false,rfl,iteF (Zaf ?_)⟩;walk_at "rd";refine⟨pT,_,d2,pT,_,rfl,d2,λo=>ForRun.dict (λi U H'=>∃v2 v3,U=[some (.ref p),some (.ref pT),v2,v3]/\Same (upd H2 pT (.frz o (.dK (F'.map λr=>(kTx r.n,tx r.l))))) H') ⟨_,_,rfl,Same.refl _⟩ (λi U H' ⟨_,_,_,s⟩=>s _ _ Zag) ?_ ?_⟩
  .rintro i kv U H3 hkv ⟨v2,v3,rfl,s3⟩;rw[YAi]at hkv;obtain⟨r,hr,rfl⟩:=YCw.mp hkv;have rF':r∈F':=YAq hr;have rF:r∈F:=pm.mem_iff.mp rF';have hp3:ShelfAt a H3 p dA m F:=((hp.same s12).dict d2 ne).same s3;obtain⟨dx3,f3⟩:=hp3.fld;rw[ZpW];walk_at "rd";refine⟨p,dx3,_,rfl,f3,shN,p,dA,m,F,_,rfl,hp3,.inl ⟨r,rF,rfl,λp2 la2 da2 H4 s4 st4 _ _ _=>?_⟩⟩;show Zav _ _ _ _;refine Zaf ?_;obtain⟨dy,g⟩:=id st4.fld;walk_at "rd";refine⟨_,_,_,_,true,rfl,rfl,.ty (.pl (T.dC g)),Zbh T.dB T.dB (by simp[YAZ]) (λ_=>by simp[YAZ]),iteF ⟨p2,dy,_,rfl,g,sN,p2,la2,da2,r.l,m,r.ds,rfl,st4,pT,_,rfl,.inl ⟨_,kTx r.n,.inr ⟨o,s4 _ _ (s3 _ _ Zag)⟩,rfl,(ZkL ndF rF').symm⟩,?_⟩⟩;exact ZhG ⟨false,rfl,iteF ⟨_,_,rfl,s3.trans s4⟩⟩
  .rintro U H3 ⟨v2,v3,rfl,s3⟩;refine⟨o,_,s3 _ _ Zag,?_⟩;walk_at "k";exact q _ (s12.trans (by first | exact Same.thaw d2 s3 | exact Same.thaw (H1:=H2) d2 s3))
theorem ZlG:FnScope ["_law_shelf","_law_texts","_law_name","_law_kinds_here","_law_strip_here","_law_taken"] ["_law_shelf","_law_texts","_law_name","_law_kinds_here"] (Zaj s_LQ):=by walk_at "sc"
theorem ZpA (T:TL K mg base a tb):FnOk P w K mg base CX0 9 a.f_LQ a.d_LQ ["_law_shelf","_law_texts","_law_name","_law_kinds_here"] (sp_LQ K a):=by
 refine T.f_LQ.ok ZlG (λvs H Q E h=>?_) (λBc A outer s H vs Q E hr h=>?_)
 .obtain⟨_,_,_,_,_,_,rfl,_⟩:=h;rfl
 .have Bf:=hr.units;have hu1:=ZaG hr;obtain⟨p,dA,pT,m,F,r,rfl,hp,hF,hT,ne,hrF,hl,hd,tk,q⟩:=h;refine⟨_,(Zab (Zap (i:=4) ZlG.nd rfl (Or.inl rfl) (ZaB (pv 0) T.ah T.aL (ZfA T) (hr.mono (by decide)) T.bf .nil ZaL (Zaa (pv 2) Zac)))
   (Zae (Zab (ZaF (ZaB (pv 4) T.ac T.aM (ZhD T) (hr.mono (by decide)) T.b7 .nil ZaL (Zaa (Zbj ZdO (pv 3) Zak (λ_ _=>rfl)) Zac)))
   (Zae (Zab (ZaF (ZiD YBh PySem.F.slot_list_clear PySem.F.type_list_clear Zkh (Zaz (pv 0) T.ah T.aY (Zl8 T) (hr.mono (by decide)) T.d0 .nil Zao)))
   (Zae (Zab (Za1 (PW.pt (Zcv (ZaU (ZaP (Zal (Zfy T) (hr.mono (by decide)) rfl T.m_lis T.f_lis.kp T.b_lis .nil Zao (Zaa (pv 0) (Zaa (pv 1) Zac))))) (ZbL (Zau (ZbU (K:=K) rfl Bf) (Zaz (ZaB (pv 0) T.ah T.aL (ZfA T) (hr.mono (by decide)) T.bf .nil ZaL (Zaa (pv 2) Zac)) T.ac T.a7 (Zl7 T) (hr.mono (by decide)) T.eC .nil Zao) (ZaR (ZeE (K:=K) rfl) (Zaz (pv 4) T.ac T.a7 (Zl7 T) (hr.mono (by decide)) T.eC .nil Zao) Za9 (Za8 (ZiA Zfj Zak))) (ZaC _))))) (Zah (Zaq Zbw)) Zax)
   (Zae (Zab (Zap (i:=5) ZlG.nd rfl (Or.inl rfl) (ZaB (pv 0) T.ah T.aZ (Zl6 T) (hr.mono (by decide)) T.em .nil ZaL (Zaa (pv 2) Zac)))
   (Zae (Zab (Za1 (PW.pt (Zcv (ZaU (ZaP (Zan (Zay (K:=K) rfl) rfl T.z_isinstance Zas (Zaa (pv 5) (Zaa (Zba (v:=.ref a.c_LY) rfl T.bZ rfl) Zac))))) (Zcv (Zau (ZbU (K:=K) rfl Bf) (Zaz (pv 5) T.ac T.ai (ZfB T) (hr.mono (by decide)) T.bg .nil Zao) (ZeM hu1 (pv 1) (pv 2) (λ_ _=>rfl)) (ZaC _)) (ZbL (Zau (Zej (K:=K) rfl) (pv 2) (Zaz (pv 0) T.ah T.aY (Zl8 T) (hr.mono (by decide)) T.d0 .nil Zao) rfl))))) (Zah (Zaq Zbw)) Zax)
   (Zae (Zab (ZaF (ZaB (pv 0) T.ah T.aO (Zkc T) (hr.mono (by decide)) T.dD .nil ZaL (Zaa (pv 2) (Zaa (pv 5) Zac))))
   (Zae (Zab (ZaF (ZaB (pv 5) T.ac T.aM (ZhD T) (hr.mono (by decide)) T.b7 .nil ZaL (Zaa (Zbj ZdO (pv 3) (ZiA Zfj Zak) (λ_ _=>rfl)) Zac)))
   (Zae (Zah (Zaq (Zal (Zfy T) (hr.mono (by decide)) rfl T.m_lis T.f_lis.kp T.b_lis .nil Zao (Zaa (pv 0) (Zaa (pv 1) Zac))))))))))))))))))))),?_⟩
  have kok:=hp.kok;have m1:=kok.m1;have m4:=kok.m4;obtain⟨c0,hc0,mc0⟩:=ZcU (xs:=m) (i:=0) (by decide) (by omega);obtain⟨c9,hc9,mc9⟩:∃c9,atI m (-1)=some c9/\c9∈m:=by
   rcases List.eq_nil_or_concat m with z | ⟨mi,c1,z⟩
   .rw[z]at m1;simp at m1
   .rw[List.concat_eq_append]at z;exact⟨c1,by rw[z];exact ZkH mi c1,by rw[z];simp⟩
  obtain⟨dx,f⟩:=hp.fld;walk_at "rd";refine⟨p,dx,_,rfl,f,shN,p,dA,m,F,_,rfl,hp,.inl ⟨r,hrF,rfl,λp2 la2 da2 H1 s1 st1 n1 n2 n3=>?_⟩⟩;show Zav _ _ _ _;refine Zaf ?_;obtain⟨dy,g1⟩:=id st1.fld;walk_at "rd";refine⟨p2,dy,_,rfl,g1,sN,m,0,c0,rfl,rfl,sz _ (by omega),hc0,p2,la2,da2,r.l,m,r.ds,_,rfl,st1,by omega,tk.same s1,.inl ⟨c0,rfl,mc0,hl,λt c g la3 H2 c2 st2 an2 tk2=>?_⟩⟩;show Zav _ _ _ _;refine Zaf ?_;have sl2:SameL H H2:=λb o e t=>c2 _ _ (s1 _ _ e) (by walk_at "m";exact⟨Zad e n1,Zad e n3⟩) t
  have hp2:=hp.l sl2;obtain⟨d2,f2⟩:=hp2.fld;walk_at "rd";refine⟨p,d2,_,rfl,f2,shN,p,dA,m,F,rfl,hp2,by omega,λrr H3 s3 n3' e3=>⟨.inl ⟨rfl,_,.mk e3⟩,rr,_,rfl,rfl,e3,?_⟩⟩;have s4:Same H2 (upd H3 rr (.lst [])):=same_upd3 s3 n3';generalize upd H3 rr (.lst [])=H4 at s4;have sl4:=sl2.trans s4.l;have hp4:=hp.l sl4;obtain⟨d4,f4⟩:=hp4.fld;have st4:=st2.same s4;walk_at "h";refine⟨p,dA,pT,m,F,rfl,hp4,by omega,hT.l sl4,ne,λH5 s5=>⟨true,rfl,iteF ?_⟩⟩;have hp5:=hp4.same s5;obtain⟨d5,f5⟩:=hp5.fld;refine⟨p,d5,_,rfl,f5,shN,p,dA,m,F,_,rfl,hp5,.inl ⟨r,hrF,rfl,λp6 la6 da6 H6 s6 st6 _ _ _=>?_⟩⟩;obtain⟨d6,g6⟩:=id st6.fld;have st46:=(st4.same s5).same s6;refine⟨p6,d6,_,rfl,g6,sN,p6,la6,da6,r.l,m,r.ds,rfl,st6,λr7 ts7 n7 dd7=>?_⟩;have s7:Same H6 (upd H6 r7 (.lst ts7)):=ZaE n7;have e7:upd H6 r7 (.lst ts7) r7=some (.lst ts7):=Zag;generalize upd H6 r7 (.lst ts7)=H7 at s7 e7;have st47:=st46.same s7;obtain⟨d7,g7⟩:=id st47.fld;refine⟨p2,d7,_,rfl,g7,sN,p2,la3,da2,_,m,_,rfl,st47,λr8 ts8 n8 dd8=>?_⟩;have s8:Same H7 (upd H7 r8 (.lst ts8)):=ZaE n8;have e8:upd H7 r8 (.lst ts8) r8=some (.lst ts8):=Zag;generalize upd H7 r8 (.lst ts8)=H8 at s8 e8;obtain⟨ts',tt,rfl,_,dd9⟩:=dd8.init;refine⟨-1,rfl,r8,_,rfl,.mk e8,λr9 n9=>?_⟩;have s9:Same H8 (upd H8 r9 (.lst (cutV (ts'++[.ref tt]) none (some (-1))))):=ZaE n9;have e9:upd H8 r9 (.lst (cutV (ts'++[.ref tt]) none (some (-1)))) r9=some (.lst ts'):=by rw[Zag,ZcS,ZkE]
  generalize upd H8 r9 (.lst (cutV (ts'++[.ref tt]) none (some (-1))))=H9 at s9 e9;have s79:=s8.trans s9;refine Zkz (neg:=true) (s79 _ _ e7) (Zc4 dd7 (s7.trans s79)) e9 (Zc4 dd9 s79) ⟨false,rfl,iteF ?_⟩;have s49:=s5.trans (s6.trans (s7.trans s79));have sl9:=sl4.trans s49.l;have tk9:=(tk2.same s4).same s49;have hp9:=hp.l sl9;have hT9:=hT.l sl9;obtain⟨d9,f9⟩:=hp9.fld;show Zav _ _ _ _;refine Zaf ?_;clear hp2 hp4 hp5 st1 st2 st4 st46 st47 st6 s5 s6 s7 s8 s9 s79 s49 sl2 sl4 g1 f2 f4 f5 g6 g7 e7 e8 e9 dd7 dd8 dd9;walk_at "rd";refine⟨p,d9,_,rfl,f9,shN,p,dA,m,F,_,rfl,hp9,.inl ⟨r,hrF,rfl,λHA kA hpA=>?_⟩⟩;have stA:=Zbx (hp9.str r hrF) kA hp9.dct;have tkA:=kA.tbl tk9 hp9.dct;have hTA:=hT9.keep kA ne;obtain⟨F',pmF,eT⟩:=id hTA;obtain⟨da_,fA⟩:=hpA.fld;obtain⟨du,gA⟩:=id stA.fld;have ndF:(F'.map (·.n)).Nodup:=(pmF.map _).nodup_iff.mpr hp.nd;have rF':r∈F':=pmF.mem_iff.mpr hrF;walk_at "h";refine⟨_,_,_,_,true,rfl,rfl,.ty (.pl (T.dC gA)),Zbh T.dB T.dB (by simp[YAZ]) (λ_=>by simp[YAZ]),iteF ⟨r.p,du,_,rfl,gA,sN,r.p,r.la,r.da,r.l,m,r.ds,rfl,stA,pT,_,rfl,.inl ⟨_,kTx r.n,.inl eT,rfl,(ZkL ndF rF').symm⟩,?_⟩⟩;refine ZhG ⟨false,rfl,iteF ?_⟩;have nfF:∀x∈F.filter (λx=>decide (x.n≠r.n)),x.n≠r.n:=λx hx=>of_decide_eq_true (YBT.mp hx).2;have lF:(F.filter λx=>decide (x.n≠r.n)).length<=900:=YAK (YBB _ _) hF;have rn:=hp.nm r hrF;have rn8:=Zce rn;refine⟨p,da_,_,rfl,fA,shN,p,dA,m,_,rfl,hpA,by omega,λrB HB sB nB eB=>⟨rB,_,rfl,.inl (.mk eB),rfl,Zcf _,?_⟩⟩;rw[YAI YAC,Zlb,decide_eq_false (λz=>?_)]
  .refine⟨false,rfl,iteF ?_⟩;have hpB:=hpA.same sB;have stB:=stA.same sB;obtain⟨db,fB⟩:=hpB.fld;walk_at "h";refine⟨p,db,_,rfl,fB,shN,p,dA,r.p,r.la,r.da,r.l,m,m,r.ds,_,_,rfl,hpB,stB,.inl ⟨r.n,rfl,by omega,rn,nfF,rfl,by omega,λr2 HC e1 e2 e3 n1 n2 n3 kC hpC=>?_⟩⟩;show Zav _ _ _ _;refine Zaf ?_;have stC:=Zbx stB kC hpB.dct;have tkC:=kC.tbl (tkA.same sB) hpB.dct;have hTC:=(hTA.l sB.l).keep kC ne;obtain⟨dc,gC⟩:=id stC.fld;walk_at "rd";refine⟨r.p,dc,_,rfl,gC,sN,m,-1,c9,rfl,rfl,sz _ (by omega),hc9,r.p,r.la,r.da,r.l,m,r.ds,_,rfl,stC,by omega,tkC,.inl ⟨c9,rfl,mc9,hl,λt c g la3 HD cD stD anD tkD=>?_⟩⟩;show Zav _ _ _ _;refine Zaf ?_;obtain⟨⟨_,_,x1⟩,⟨_,x2⟩,_,x3⟩:=Zaw stC;obtain⟨⟨_,_,y1⟩,⟨_,y2⟩,_,y3⟩:=Zaw stB;have hS:∀b∈[r.p,r.da],∀us,HC b≠some (.tup us):=λb hb us z=>by
    rcases YAE.mp hb with y | y
    .rw[y,x1]at z;cases z
    .rw[YAG.mp y,x3]at z;cases z
   obtain⟨o1,o2⟩:=hpC.out x3;have hpD:ShelfAt a HD p dA m ((F.filter λx=>decide (x.n≠r.n))++[r2]):=by
    refine hpC.chg cD hS ?_ ?_ λs hs=>?_
    .walk_at "m";exact⟨hpC.pne stC,o1⟩
    .walk_at "m";exact⟨λz=>(by have d:=hpC.dct;rw[z,x1]at d;cases d),o2⟩
    .obtain⟨⟨_,_,z1⟩,⟨_,z2⟩,_,z3⟩:=Zaw (hpC.str s hs);have k:s.p≠r.p/\s.la≠r.da/\s.da≠r.da:=by
      rcases YAV.mp hs with z | z
      .exact hp.apart hrF (YBT.mp z).1 (YAh (nfF s z))
      .rw[YAG.mp z];exact⟨YAh (Zad y1 n1),YAh (Zad y3 n2),YAh (Zad y3 n3)⟩
     walk_at "m";exact⟨⟨k.1,λz=>(by rw[z,x3]at z1;cases z1)⟩,⟨λz=>(by rw[z,x1]at z2;cases z2),k.2.1⟩,⟨λz=>(by rw[z,x1]at z3;cases z3),k.2.2⟩⟩
   have hTD:TxD HD pT ((F.filter λx=>decide (x.n≠r.n))++[r2]):=by
    obtain⟨F9,pm9,e9⟩:=hTC;have hTD0:TxD HD pT F:=⟨F9,pm9,cD _ _ e9 (by walk_at "m";exact⟨λz=>(by rw[z,x1]at e9;cases e9),λz=>(by rw[z,x3]at e9;cases e9)⟩) rfl⟩
    exact hTD0.back hp hrF e1 e2
   walk_at "rd";refine⟨p,dA,pT,m,_,rfl,hpD,by rw[YAH,YAd];omega,hTD,ne,λHE sE=>q r2 HE (λb o e nb t=>?_) e1 e2 e3 (hpD.same sE) (hTD.l sE.l) (tkD.same sE)⟩;simp only[YAE,YAT,or_false,not_or]at nb;refine sE _ _ (cD _ _ (kC _ _ (sB _ _ (kA _ _ (sl9 _ _ e t) nb.1)) nb.1) ?_ t);walk_at "m";exact nb.2
  .have z:=(ZaI _).mem_iff.mp z;obtain⟨x,hx,ex⟩:=YAt.mp z;exact nfF x hx ex
theorem ZlH:FnScope ["_law_shelf","_law_texts","_law_name","_law_kinds_here","_law_found","_law_beside"] ["_law_shelf","_law_texts","_law_name","_law_kinds_here"] (Zaj s_LB):=by walk_at "sc"
theorem ZpF (T:TL K mg base a tb):FnOk P w K mg base CX0 9 a.f_LB a.d_LB ["_law_shelf","_law_texts","_law_name","_law_kinds_here"] (sp_LB K a):=by
 refine T.f_LB.ok ZlH (λvs H Q E h=>?_) (λBc A outer s H vs Q E hr h=>?_)
 .obtain⟨_,_,_,_,_,_,rfl,_⟩:=h;rfl
 .have Bf:=hr.units;obtain⟨p,dA,pT,m,F,r,rfl,hp,hF,hT,ne,hrF,hd,tk,q⟩:=h;refine⟨_,(Zab (Zap (i:=4) ZlH.nd rfl (Or.inl rfl) (Zal (Zfz T) (hr.mono (by decide)) rfl T.ba T.f_LK.kp T.bc .nil Zao (Zaa (pv 0) (Zaa Zak (Zaa (pv 2) (Zaa (ZaB (pv 0) T.ah T.aL (ZfA T) (hr.mono (by decide)) T.bf .nil ZaL (Zaa (pv 2) Zac)) Zac))))))
   (Zae (Zab (Za1 (PW.pt (Zcv (ZaU (ZaP (Zan (Zay (K:=K) rfl) rfl T.z_isinstance Zas (Zaa (pv 4) (Zaa (Zba (v:=.ref a.c_LO) rfl T.m_LO rfl) Zac))))) (Zcv (Zau (ZiJ (K:=K) rfl Bf) (ZeK (K:=K) rfl (pv 4) rfl) (ZaR ZcC (Zat Za2 (pv 3) (Zar (l:=[65]) (by decide +kernel))) Za9 (Za8 Zak)) (ZaC _)) (ZbL (ZaU (ZaP (Zal (Zfy T) (hr.mono (by decide)) rfl T.m_lis T.f_lis.kp T.b_lis .nil Zao (Zaa (pv 0) (Zaa (pv 1) Zac))))))))) (Zah (Zaq Zbw)) Zax)
   (Zae (Zab (Zap (i:=5) ZlH.nd rfl (Or.inl rfl) (ZaB (pv 0) T.ah T.aL (ZfA T) (hr.mono (by decide)) T.bf .nil ZaL (Zaa (pv 2) Zac)))
   (Zae (Zab (ZgY YBJ (Zau (ZbU (K:=K) rfl Bf) (Zaz (pv 5) T.ac T.ai (ZfB T) (hr.mono (by decide)) T.bg .nil Zao) (Zar (l:=[]) (by decide +kernel)) (ZaC _))
   (Zah (Za1 (Zau (ZbU (K:=K) rfl Bf) (ZaB (pv 0) T.ah T.bR (ZnE T) (hr.mono (by decide)) T.b_KS .nil ZaL (Zaa (pv 2) Zac)) (Zaz (pv 5) T.ac T.a9 (Zl5 T) (hr.mono (by decide)) T.eD .nil ZaL) (ZaC _)) (Zah (Zaq Zbw)) Zax)))
   (Zae (Zab (Za1 (ZaU (ZaP (Zan (Zay (K:=K) rfl) rfl T.z_isinstance Zas (Zaa (Zal (Zfz T) (hr.mono (by decide)) rfl T.ba T.f_LK.kp T.bc .nil Zao (Zaa (pv 0) (Zaa Zak (Zaa (pv 2) (Zaa (pv 5) Zac))))) (Zaa (Zba (v:=.ref a.c_L7) rfl T.m_L7 rfl) Zac))))) (Zah (Zaq Zbw)) Zax)
   (Zae (Zab (ZgY YBJ (Zau (Zk0 (K:=K) rfl Bf) (Zaz (pv 5) T.ac T.a7 (Zl7 T) (hr.mono (by decide)) T.eC .nil Zao) (Zbm Zac) (ZaC _))
   (Zah (Za1 (PW.pt (Zcv (Zau (ZbU (K:=K) rfl Bf) (ZaB (pv 0) T.ah T.bS (ZnF T) (hr.mono (by decide)) T.b_KR .nil ZaL (Zaa (pv 2) Zac)) (Zaz (pv 5) T.ac T.bT (ZnC T) (hr.mono (by decide)) T.b_KW .nil ZaL) (ZaC _)) (ZbL (Zau (ZbU (K:=K) rfl Bf) (Zaz (ZaB (pv 0) T.ah T.aL (ZfA T) (hr.mono (by decide)) T.bf .nil ZaL (Zaa (pv 2) Zac)) T.ac T.ai (ZfB T) (hr.mono (by decide)) T.bg .nil Zao) (Zaz (pv 5) T.ac T.ai (ZfB T) (hr.mono (by decide)) T.bg .nil Zao) (ZaC _))))) (Zah (Zaq Zbw)) Zax)))
   (Zae (Zah (Zaq (ZcG (Zan (Zay (K:=K) rfl) rfl T.z_isinstance Zas (Zaa (Zal (Zfz T) (hr.mono (by decide)) rfl T.ba T.f_LK.kp T.bc .nil Zao (Zaa (pv 0) (Zaa Zak (Zaa (pv 2) (Zaa (pv 5) Zac))))) (Zaa (Zba (v:=.ref a.c_LM) rfl T.m_LM rfl) Zac))) (ZdE (Zbz (ZaQ (K:=K) rfl Bf) (Zaz (ZaB (pv 0) T.ah T.aL (ZfA T) (hr.mono (by decide)) T.bf .nil ZaL (Zaa (pv 2) Zac)) T.ac T.ai (ZfB T) (hr.mono (by decide)) T.bg .nil Zao) (Zar (l:=[]) (by decide +kernel)) (ZaC _)))))))))))))))))),?_⟩
  have kok:=hp.kok;have m1:=kok.m1;have m4:=kok.m4;obtain⟨dx,f⟩:=hp.fld;walk_at "rd";refine⟨p,dx,_,rfl,f,shN,p,dA,m,F,_,rfl,hp,.inl ⟨r,hrF,rfl,λp1 la1 da1 H1 s1 st1 n1 n2 n3=>?_⟩⟩;have hp1:=hp.same s1;refine⟨p,dA,p1,r.l,m,m,F,6,_,rfl,hp1,.inr ⟨la1,da1,r.ds,st1⟩,kok,tk.same s1,.inr (.inr (.inr (.inr (.inl ⟨rfl,rfl,⟨r,hrF,rfl,by omega⟩,λe H2 s2 x2=>?_⟩))))⟩;walk_at "h";have s02:=s1.trans s2;have hp2:=hp.same s02;refine⟨_,_,_,_,true,rfl,rfl,.exc x2 T.eE,Zbh T.dP T.dP Zcz (λ_=>rfl),iteF ⟨e,_,_,_,rfl,x2,T.cW.c,T.aA,Zgw,sz _ (by omega),2,rfl,m++[65],rfl,sz _ (by rw[YAH];show _+1<=9000;omega),?_⟩⟩;rw[show cut (m++[65]) none (some 2)=(m++[65]).take 2 from Zdd _ 2];refine .inl (ZhG ⟨false,rfl,iteF ⟨p,dA,pT,m,F,rfl,hp2,by omega,hT.l s02.l,ne,λH3 s3=>⟨true,rfl,iteF ?_⟩⟩⟩);have s03:=s02.trans s3;have hp3:=hp.same s03;have tk3:=tk.same s03;obtain⟨d3,f3⟩:=hp3.fld;walk_at "h";refine⟨p,d3,_,rfl,f3,shN,p,dA,m,F,_,rfl,hp3,.inl ⟨r,hrF,rfl,λp2 la2 da2 H4 s4 st4 k1 k2 k3=>?_⟩⟩;have hp4:=hp3.same s4;have tk4:=tk3.same s4;have ap4:Ap F p2 la2 da2:=λs hs=>by obtain⟨⟨_,_,z1⟩,⟨_,z2⟩,_,z3⟩:=Zaw (hp3.str s hs);exact⟨Zad z1 k1,Zad z2 k2,Zad z2 k3,Zad z3 k2,Zad z3 k3⟩
  walk_at "h";refine Zh3 (λk U H'=>∃(F':List Kp) (r':Kp) (la:AD),U=[some (.ref p),some (.ref pT),some (tx r.n),some (tx m),some (.ref e),some (.ref p2)]/\ShelfAt a H' p dA m F'/\r'∈F'/\r'.n=r.n/\StripAt a.c_LY H' p2 la da2 r'.l m r'.ds/\Ap F' p2 la da2/\TblOk H' a.t_LD lpos lq/\r'.l.length=k/\r'.ds.length+k<=8900) r.l.length ⟨F,r,la2,rfl,hp4,hrF,rfl,st4,ap4,tk4,rfl,by have:=(Zih st4).l40;omega⟩ ?_;rintro k U H5 ⟨F',r',la,rfl,hp5,rF',rn',st5,ap5,tk5,lk,dk⟩;obtain⟨dy,g5⟩:=id st5.fld;refine⟨decide (r'.l≠[]),λQQ hQ=>?_,λH6 s6=>?_⟩
  .walk_at "rd";refine⟨p2,dy,_,rfl,g5,sN,p2,la,da2,r'.l,m,r'.ds,rfl,st5,.inl ⟨rfl,?_⟩⟩;rw[YAM rfl,Zcs];refine⟨_,rfl,?_⟩;rw[<-decide_not];exact hQ H5 (Same.refl _)
  have hp6:=hp5.same s6;have st6:=st5.same s6;have tk6:=tk5.same s6;obtain⟨d6,f6⟩:=hp6.fld;by_cases z:r'.l=[]
  .rw[YAI (by simp[z])];walk_at "k";refine⟨p,dA,p2,r'.l,m,m,F',4,_,rfl,hp6,.inr ⟨la,da2,r'.ds,st6⟩,kok,tk6,.inr (.inr (.inr (.inr (.inr (.inl ⟨rfl,⟨r',rF',by rw[rn'],by omega,z⟩,λe7 H7 s7 x7=>?_⟩)))))⟩;refine⟨_,_,_,_,true,rfl,rfl,.exc x7 T.eP,Zbh T.dW T.dW Zcz (λ_=>rfl),iteF ?_⟩;walk_at "h";refine Zh3 (λk U H'=>∃(F':List Kp) (r':Kp) (la:AD),U=[some (.ref p),some (.ref pT),some (tx r.n),some (tx m),some (.ref e),some (.ref p2)]/\ShelfAt a H' p dA m F'/\r'∈F'/\r'.n=r.n/\StripAt a.c_LY H' p2 la da2 r'.l m r'.ds/\Ap F' p2 la da2/\TblOk H' a.t_LD lpos lq/\r'.ds.length=k/\k<=8900) r'.ds.length ⟨F',r',la,rfl,hp6.same s7,rF',rn',st6.same s7,ap5,tk6.same s7,rfl,by omega⟩ ?_;clear hp5 rF' rn' st5 ap5 tk5 lk dk g5 hp6 st6 tk6 f6 z;rintro k2 U H5 ⟨F',r',la,rfl,hp5,rF',rn',st5,ap5,tk5,lk,dk⟩;obtain⟨dy,g5⟩:=id st5.fld;refine⟨decide (r'.ds≠[]),λQQ hQ=>?_,λH6 s6=>?_⟩
   .walk_at "rd";refine⟨p2,dy,_,rfl,g5,sN,p2,la,da2,r'.l,m,r'.ds,rfl,st5,λr7 ts7 n7 dd7=>⟨YAx _,NewL.of λr8 H8 s8 n8 e8=>?_⟩⟩;have s7:Same H5 (upd H5 r7 (.lst ts7)):=ZaE n7;refine .inl (.inl (ZiQ (s8 _ _ Zag) (Zc4 dd7 (s7.trans s8)) e8 ?_));exact⟨_,rfl,hQ H8 (s7.trans s8)⟩
   have hp6:=hp5.same s6;have st6:=st5.same s6;have tk6:=tk5.same s6;obtain⟨d6,f6⟩:=hp6.fld;by_cases z:r'.ds=[]
   .rw[YAI (by simp[z])];walk_at "k";have ln:=ZlO st6.run z;refine⟨p,dA,p2,r'.l,m,m,F',5,_,rfl,hp6,.inr ⟨la,da2,r'.ds,st6⟩,kok,tk6,.inr (.inr (.inr (.inr (.inr (.inr (.inl ⟨rfl,⟨r',rF',by rw[rn'],by omega,z⟩,λe7 H7 s7 x7=>?_⟩))))))⟩;have hp7:=hp6.same s7;obtain⟨d7,f7⟩:=hp7.fld;refine⟨_,_,_,_,true,rfl,rfl,.exc x7 T.eQ,Zbh T.dZ T.dZ Zcz (λ_=>rfl),iteT ⟨p,d7,_,rfl,f7,shN,p,dA,m,F',_,rfl,hp7,.inl ⟨r',rF',by rw[rn'],λp8 la8 da8 H8 s8 st8 _ _ _=>?_⟩⟩⟩;obtain⟨d8,g8⟩:=id st8.fld;refine⟨p8,d8,_,rfl,g8,sN,p8,la8,da8,r'.l,m,r'.ds,rfl,st8,?_⟩;rw[ln];exact Zky (q H8)
   .rw[YAM (by simpa using z)];obtain⟨ds0,c0,hcase⟩:=st6.run.last z;walk_at "rd";rcases hcase with⟨ed,l0,el,_⟩|⟨ed,_⟩
    .have dl:r'.ds.length=ds0.length+1:=by rw[ed,YAH];rfl
     refine⟨p,d6,_,rfl,f6,shN,p,dA,m,F',_,rfl,hp6,tk6,.inl ⟨r',rF',by rw[rn'],by omega,.inl ⟨ds0,c0,l0,ed,el,λt c g la3 H7 c7 hp7 an7 tk7=>?_⟩⟩⟩;obtain⟨st7,ap7⟩:=ZgI (l3:=l0) (ds3:=ds0) hp6 rF' st6 ap5 c7 an7.nl;obtain⟨dz,g7⟩:=id st7.fld;refine⟨p2,dz,_,rfl,g7,sN,p2,la,da2,_,m,r'.ds,rfl,st7,by omega,tk7,.inl ⟨ds0,c0,l0,ed,el,λt2 c2 g2 la4 H8 c8 st8 an8 tk8=>?_⟩⟩;obtain⟨hp8,ap8⟩:=Zfa hp7 ap7 st7 c8 an8.nl;have ek:Zbl r'.n la3 (l0) ds0 r'=⟨r'.n,r'.p,la3,r'.da,l0,ds0⟩:=YAM rfl;have mk:(⟨r'.n,r'.p,la3,r'.da,l0,ds0⟩:Kp)∈F'.map (Zbl r'.n la3 (l0) ds0):=by rw[<-ek];exact YBE rF'
     obtain⟨d8,f8⟩:=hp8.fld;refine Zfd st6 st7 an7 an8 c8 (Zjn _ _ _ _) (Zjm _ _ _ _) ⟨false,rfl,iteF ⟨p,d8,_,rfl,f8,shN,p,dA,m,_,_,rfl,hp8,.inl ⟨_,mk,by rw[rn'],λp9 la9 da9 H9 s9 st9 _ _ _=>?_⟩⟩⟩;have st89:=st8.same s9;obtain⟨d9,g9⟩:=id st9.fld;obtain⟨d10,g10⟩:=id st89.fld;exact⟨p9,d9,_,rfl,g9,sN,p9,la9,da9,_,m,_,rfl,st9,p2,d10,_,rfl,g10,sN,p2,la4,da2,_,m,_,rfl,st89,ZhG ⟨false,rfl,iteF ⟨ds0.length,by omega,_,_,la4,trivial,hp8.same s9,mk,rn',st89,ap8,tk8.same s9,rfl,by omega⟩⟩⟩
    .have dl:r'.ds.length=ds0.length+1:=by rw[ed,YAH];rfl
     refine⟨p,d6,_,rfl,f6,shN,p,dA,m,F',_,rfl,hp6,tk6,.inl ⟨r',rF',by rw[rn'],by omega,.inr (.inl ⟨ds0,c0,ed,λt c g la3 H7 c7 hp7 an7 tk7=>?_⟩)⟩⟩;obtain⟨st7,ap7⟩:=ZgI (l3:=c0::r'.l) (ds3:=ds0) hp6 rF' st6 ap5 c7 an7.nl;obtain⟨dz,g7⟩:=id st7.fld;refine⟨p2,dz,_,rfl,g7,sN,p2,la,da2,_,m,r'.ds,rfl,st7,by omega,tk7,.inr (.inl ⟨ds0,c0,ed,λt2 c2 g2 la4 H8 c8 st8 an8 tk8=>?_⟩)⟩;obtain⟨hp8,ap8⟩:=Zfa hp7 ap7 st7 c8 an8.nl;have ek:Zbl r'.n la3 (c0::r'.l) ds0 r'=⟨r'.n,r'.p,la3,r'.da,c0::r'.l,ds0⟩:=YAM rfl;have mk:(⟨r'.n,r'.p,la3,r'.da,c0::r'.l,ds0⟩:Kp)∈F'.map (Zbl r'.n la3 (c0::r'.l) ds0):=by rw[<-ek];exact YBE rF'
     obtain⟨d8,f8⟩:=hp8.fld;refine Zfd st6 st7 an7 an8 c8 (Zjm _ _ _ _) (Zjn _ _ _ _) ⟨false,rfl,iteF ⟨p,d8,_,rfl,f8,shN,p,dA,m,_,_,rfl,hp8,.inl ⟨_,mk,by rw[rn'],λp9 la9 da9 H9 s9 st9 _ _ _=>?_⟩⟩⟩;have st89:=st8.same s9;obtain⟨d9,g9⟩:=id st9.fld;obtain⟨d10,g10⟩:=id st89.fld;exact⟨p9,d9,_,rfl,g9,sN,p9,la9,da9,_,m,_,rfl,st9,p2,d10,_,rfl,g10,sN,p2,la4,da2,_,m,_,rfl,st89,ZhG ⟨false,rfl,iteF ⟨ds0.length,by omega,_,_,la4,trivial,hp8.same s9,mk,rn',st89,ap8,tk8.same s9,rfl,by omega⟩⟩⟩
  .rw[YAM (by simpa using z)];obtain⟨c0,l0,el⟩:=List.exists_cons_of_ne_nil z;have ll:r'.l.length=l0.length+1:=by rw[el];rfl
   walk_at "rd";refine⟨p,d6,_,rfl,f6,shN,p,dA,m,F',_,rfl,hp6,tk6,.inl ⟨r',rF',by rw[rn'],by omega,.inl ⟨c0,l0,el,λt c g la3 H7 c7 hp7 an7 tk7=>?_⟩⟩⟩;obtain⟨st7,ap7⟩:=ZgI (l3:=l0) (ds3:=r'.ds++[(false,c0)]) hp6 rF' st6 ap5 c7 an7.nl;obtain⟨dz,g7⟩:=id st7.fld;refine⟨p2,dz,_,rfl,g7,sN,p2,la,da2,_,m,r'.ds,rfl,st7,by omega,tk7,.inl ⟨c0,l0,el,λt2 c2 g2 la4 H8 c8 st8 an8 tk8=>?_⟩⟩;obtain⟨hp8,ap8⟩:=Zfa hp7 ap7 st7 c8 an8.nl;have ek:Zbl r'.n la3 l0 (r'.ds++[(false,c0)]) r'=⟨r'.n,r'.p,la3,r'.da,l0,r'.ds++[(false,c0)]⟩:=YAM rfl;refine Zfd st6 st7 an7 an8 c8 (Zjn _ _ _ _) (Zjm _ _ _ _) ⟨false,rfl,iteF ⟨l0.length,by omega,_,Zbl r'.n la3 l0 (r'.ds++[(false,c0)]) r',la4,trivial,hp8,YBE rF',by rw[ek];exact rn',by rw[ek];exact st8,ap8,tk8,by rw[ek],by rw[ek,YAH,YAd];omega⟩⟩
theorem ZjZ:FnScope ["_law_shelf","_law_name","_law_kinds_here","_law_strip_here","_law_k","_law_found"] ["_law_shelf","_law_name","_law_kinds_here"] (Zaj s_L2):=by walk_at "sc"
theorem ZpI (T:TL K mg base a tb):FnOk P w K mg base CX0 9 a.f_L2 a.d_L2 ["_law_shelf","_law_name","_law_kinds_here"] (sp_L2 K a):=by
 refine T.f_L2.ok ZjZ (λvs H Q E h=>?_) (λBc A outer s H vs Q E hr h=>?_)
 .obtain⟨_,_,_,_,_,rfl,_⟩:=h;rfl
 .have Bf:=hr.units;obtain⟨p,dA,m,n,F,rfl,hp,hF,tk,hn,nf,q⟩:=h;refine⟨_,(Zab (Zap (i:=3) ZjZ.nd rfl (Or.inl rfl) (Zc0 T.aR (Zkb T) (hr.mono (by decide)) rfl T.bZ T.dF .nil Zao (Zaa (pv 2) Zac)))
   (Zae (Zab (ZbB YBJ rfl (Zbp rfl T.z_range (Zaa Zak Zac)) (ZaN (i:=4) ZjZ.nd rfl (Or.inl rfl))
   (Zah (ZaF (ZaB (pv 3) T.ac T.aM (ZhD T) (hr.mono (by decide)) T.b7 .nil ZaL (Zaa (Zbj ZdO (pv 2) (Zat ZaS (pv 4) (Zan (ZaM (K:=K) rfl) rfl T.z_len Zbr (Zaa (pv 2) Zac))) (λ_ _=>rfl)) Zac)))))
   (Zae (Zab (ZaF (ZaB (pv 0) T.ah T.aO (Zkc T) (hr.mono (by decide)) T.dD .nil ZaL (Zaa (pv 1) (Zaa (pv 3) Zac))))
   (Zae (Zab (Zap (i:=5) ZjZ.nd rfl (Or.inl rfl) (Zal (Zfz T) (hr.mono (by decide)) rfl T.ba T.f_LK.kp T.bc .nil Zao (Zaa (pv 0) (Zaa Zak (Zaa (pv 1) (Zaa (pv 3) Zac))))))
   (Zae (Zah (Zaq (ZcG (Zan (Zay (K:=K) rfl) rfl T.z_isinstance Zas (Zaa (pv 5) (Zaa (Zba (v:=.ref a.c_L8) rfl T.m_L8 rfl) Zac))) (ZdE (Zbz (ZaQ (K:=K) rfl Bf) (Zaz (ZaB (pv 0) T.ah T.aZ (Zl6 T) (hr.mono (by decide)) T.em .nil ZaL (Zaa (pv 1) Zac)) T.ac T.ai (ZfB T) (hr.mono (by decide)) T.bg .nil Zao) (Zaz (pv 3) T.ac T.ai (ZfB T) (hr.mono (by decide)) T.bg .nil Zao) (ZaC _)))))))))))))),?_⟩
  have kok:=hp.kok;have m1:=kok.m1;have m4:=kok.m4;have n8:=Zce hn;have pm:(0:Int)<m.length:=by omega
  walk_at "rd";intro p1 dx np ndx ne;refine⟨p1,dx,m,rfl,Zag,kok,λla0 da H1 at1 nla nda k1=>⟨rfl,?_⟩⟩;have s1:Same H H1:=λb o e=>k1 b o (by rw[Zai (Zad e np),Zai (Zad e ndx)];exact e) (Zad e np);have fr:∀ {b:AD},upd (upd H dx (.own p1)) p1 (.ins a.c_LY dx []) b=none->H b=none:=λ{b} z=>by
   cases e:H b with
   | none=>rfl
   | some o=>rw[Zai (Zad e np),Zai (Zad e ndx),e]at z;cases z
  have nda0:=fr nda;have keepL:∀ {H' H'':Hp},SameL H H'->Chg [p1,da] H' H''->SameL H H'':=λsl ch bb o e t=>ch _ _ (sl _ _ e t) (by
   walk_at "m";refine⟨λz=>?_,λz=>?_⟩
   .rw[z,np]at e;cases e
   .rw[z,nda0]at e;cases e) t
  walk_at "h";refine⟨40,rfl,by decide,by decide,ForRun.range (λi U H'=>∃v4 la l ds,U=[some (.ref p),some (tx n),some (tx m),some (.ref p1),v4,none]/\StripAt a.c_LY H' p1 la da l m ds/\l.length=i/\ds.length<=i/\TblOk H' a.t_LD lpos lq/\SameL H H') ⟨_,la0,[],[],rfl,at1,rfl,YAS _,tk.same s1,s1.l⟩ ?_ ?_⟩
  .rintro i U H2 hi ⟨v4,la,l,ds,rfl,at2,ll,dl,tk2,sl2⟩;have hi:i<40:=hi;obtain⟨dx2,f2⟩:=id at2.fld;obtain⟨c1,hc1,mc1⟩:=ZcU (xs:=m) (i:=(0+(i:Int)) % m.length) (YBn _ (by omega)) (YBi _ pm);walk_at "rd";exact⟨p1,dx2,_,rfl,f2,sN,_,_,rfl,Zb3 (by omega),pm,m,_,c1,rfl,rfl,sz _ (by omega),hc1,p1,la,da,l,m,ds,_,rfl,at2,by omega,tk2,.inl ⟨c1,rfl,mc1,by omega,λt c g la2 H3 q1 q2 q3 q4=>⟨_,la2,_,_,rfl,q2,by rw[YAH,ll];rfl,by rw[YAH];exact YCA dl,q4,keepL sl2 q1⟩⟩⟩
  .rintro U H2 ⟨v4,la,l,ds,rfl,at2,ll,dl,tk2,sl2⟩;have ll:l.length=40:=ll;have dl:ds.length<=40:=dl;have hp2:=hp.l sl2;obtain⟨dz,f2⟩:=hp2.fld;walk_at "k";refine⟨p,dz,_,rfl,f2,shN,p,dA,p1,la,da,l,m,m,ds,F,_,rfl,hp2,at2,.inl ⟨n,rfl,by omega,hn,nf,rfl,by omega,λr H3 rn rl rd n1 n2 n3 k3 hp3=>?_⟩⟩;show Zav _ _ _ _;refine Zaf ?_;have tk3:=k3.tbl tk2 hp2.dct;have at3:StripAt a.c_LY H3 p1 la da l m ds:=Zbx at2 k3 hp2.dct;have rF:r∈F++[r]:=by simp
   walk_at "rd";refine⟨p,dA,p1,l,m,m,F++[r],3,_,rfl,hp3,.inr ⟨la,da,ds,at3⟩,kok,tk3,.inr (.inr (.inr (.inr (.inr (.inr (.inr ⟨rfl,rfl,⟨r,rF,by rw[rn],by rw[rd];omega,by rw[rl,ll]⟩,λe H4 s4 x4=>?_⟩))))))⟩;show Zav _ _ _ _;refine Zaf ?_;have hp4:=hp3.same s4;obtain⟨dw,f4⟩:=hp4.fld;have at4:=at3.same s4;walk_at "rd";refine⟨_,_,_,_,true,rfl,rfl,.exc x4 T.eO,Zbh T.dU T.dU Zcz (λ_=>rfl),iteT ⟨p,dw,_,rfl,f4,shN,p,dA,m,F++[r],_,rfl,hp4,.inl ⟨r,rF,by rw[rn],λH5 k5 hp5=>?_⟩⟩⟩;have st5:=Zbx (hp4.str r rF) k5 hp4.dct;have at5:=Zbx at4 k5 hp4.dct;obtain⟨du,g5⟩:=id st5.fld;obtain⟨dv,h5⟩:=id at5.fld;have nf':∀x∈F,x.n≠r.n:=λx hx=>by rw[rn];exact nf x hx
   rw[Zkv nf']at hp5;refine⟨r.p,du,_,rfl,g5,sN,r.p,r.la,r.da,r.l,m,r.ds,rfl,st5,p1,dv,_,rfl,h5,sN,p1,la,da,l,m,ds,rfl,at5,?_⟩;rw[rl];refine Zky (q H5 (λb o e nb t=>?_) hp5 (k5.tbl (tk3.same s4) hp4.dct));have nb:b≠dA:=by simpa using nb
   exact k5 _ _ (s4 _ _ (k3 _ _ (sl2 _ _ e t) nb)) nb
theorem Zin:FnScope ["_law_shelf","_law_thing_here","_law_names_here","_law_name","_law_strange","_law_way","_law_found","_law_band"] ["_law_shelf","_law_thing_here","_law_names_here","_law_name","_law_strange"] (Zaj s_LL):=by walk_at "sc"
theorem ZpB (T:TL K mg base a tb):FnOk P w K mg base CX0 9 a.f_LL a.d_LL ["_law_shelf","_law_thing_here","_law_names_here","_law_name","_law_strange"] (sp_LL K a):=by
 refine T.f_LL.ok Zin (λvs H Q E h=>?_) (λBc A outer s H vs Q E hr h=>?_)
 .obtain⟨_,_,_,_,_,_,_,_,_,_,_,_,_,_,_,rfl,_⟩:=h;rfl
 .have Bf:=hr.units;obtain⟨p,dA,q_,la,da,b,l,m,m2,n,n4,ds,F,N,v,rfl,hp,hs,kok,nm,tk,bn,th,hb,hN,hn4,nf,hrF,q⟩:=h;refine⟨_,(Zab (ZbB YBJ rfl (Zbp rfl T.z_range (Zaa Zak Zac)) (ZaN (i:=5) Zin.nd rfl (Or.inl rfl))
   (Zab (Za1 (ZaU (ZaP (Zal (Zl4 T) (hr.mono (by decide)) rfl T.dM T.f_L4.kp T.dN .nil Zao (Zaa (Zal (Zfz T) (hr.mono (by decide)) rfl T.ba T.f_LK.kp T.bc .nil Zao (Zaa (pv 0) (Zaa (pv 5) (Zaa (pv 1) (Zaa (pv 4) Zac))))) (Zaa (Zar (l:=[110,111]) (by decide +kernel)) (Zaa (pv 1) Zac)))))) (Zah (Zaq Zbw)) Zax)
   (Zae (Zab (Zap (i:=6) Zin.nd rfl (Or.inl rfl) (Zal (Zfz T) (hr.mono (by decide)) rfl T.ba T.f_LK.kp T.bc .nil Zao (Zaa (pv 0) (Zaa (pv 5) (Zaa (Zbj (Za5 (K:=K) rfl) (pv 2) Zak (λ_ _=>rfl)) (Zaa (pv 4) Zac))))))
   (Zae (Zab (Za1 (PW.pt (Zdb (Zau Zl1 (pv 5) Zak (ZaC _)) (ZcZ (ZaU (ZaP (Zal (Zl4 T) (hr.mono (by decide)) rfl T.dM T.f_L4.kp T.dN .nil Zao (Zaa (pv 6) (Zaa (Zar (l:=[110,111]) (by decide +kernel)) (Zaa (Zbj (Za5 (K:=K) rfl) (pv 2) Zak (λ_ _=>rfl)) Zac))))))))) (Zah (Zaq Zbw)) Zax)
   (Zae (Zah (Za1 (PW.pt (Zdb (Zau (ZaQ (K:=K) rfl Bf) (pv 5) Zak (ZaC _)) (ZcZ (ZaU (ZaP (Zan (Zay (K:=K) rfl) rfl T.z_isinstance Zas (Zaa (pv 6) (Zaa (Zba (v:=.ref a.c_LP) rfl T.cY rfl) Zac)))))))) (Zah (Zaq Zbw)) Zax)))))))))
   (Zae (Zab (Zap (i:=6) Zin.nd rfl (Or.inl rfl) (Zal (Zfz T) (hr.mono (by decide)) rfl T.ba T.f_LK.kp T.bc .nil Zao (Zaa (pv 0) (Zaa Zak (Zaa (pv 3) (Zaa (pv 4) Zac))))))
   (Zae (Zab (Za1 (PW.pt (Zcv (ZaP (Zal (Zka T) (hr.mono (by decide)) rfl T.c6 T.f_LG.kp T.de .nil Zao (Zaa (pv 1) Zac))) (ZbL (ZaU (ZaP (Zal (Zl4 T) (hr.mono (by decide)) rfl T.dM T.f_L4.kp T.dN .nil Zao (Zaa (pv 6) (Zaa (Zar (l:=[116,104,101,114,101]) (by decide +kernel)) (Zaa (pv 3) Zac))))))))) (Zah (Zaq Zbw)) Zax)
   (Zae (Zab (ZbB YBJ rfl (ZbC (K:=K) rfl (Zbm (Zaa (pv 4) (Zaa (Zc0 T.cn (ZpK T) (hr.mono (by decide)) rfl T.m_LW T.b_KQ .nil Zao (Zaa (Zar (l:=[]) (by decide +kernel)) (Zaa (Zaz (pv 4) T.ac T.ao (Zgp T) (hr.mono (by decide)) T.bY .nil Zao) Zac))) Zac)))) (ZaN (i:=7) Zin.nd rfl (Or.inl rfl))
   (Zah (Za1 (ZaU (ZaP (Zan (Zay (K:=K) rfl) rfl T.z_isinstance Zas (Zaa (Zal (Zfz T) (hr.mono (by decide)) rfl T.ba T.f_LK.kp T.bc .nil Zao (Zaa (pv 0) (Zaa Zak (Zaa (pv 3) (Zaa (pv 7) Zac))))) (Zaa (Zba (v:=.ref a.c_LP) rfl T.cY rfl) Zac))))) (Zah (Zaq Zbw)) Zax)))
   (Zae (Zah (Zaq Zbw)))))))))),?_⟩
  have n48:=Zce hn4;have th4:∀H',ThOk K H' (tx n4):=λH'=>⟨.inl rfl,"str",false,.pl (.str _),Zi8⟩;have at4:atI (N.map tx) 4=some (tx n4):=Zfc (j:=4) (by rw[YAi,hN];rfl);walk_at "rd";refine⟨6,rfl,by decide,by decide,ForRun.range (λi U H'=>∃v5 v6,U=[some (.ref p),some v,some (.ref b),some (tx n),some (.ref q_),v5,v6,none]/\Same H H') ⟨_,_,rfl,Same.refl _⟩ ?_ ?_⟩
  .rintro i U H1 hi ⟨v5,v6,rfl,s1⟩;have hi:i<6:=hi;rw[show (0+(i:Int))=((i:Nat):Int) by omega];have hp1:=hp.same s1;have hs1:=hs.same s1;have bn1:=bn.same s1;walk_at "rd";refine⟨p,dA,q_,l,m,m2,F,i,v,rfl,hp1,.inr ⟨la,da,ds,hs1⟩,kok,tk.same s1,.inl ⟨by omega,⟨la,da,ds,hs1⟩,λ_=>bn1,.inl bn1,λe H2 s2 x=>⟨e,_,v,rfl,(th.same s1).same s2,.inl ⟨rfl,x⟩,λH3 s3=>⟨true,rfl,iteF (Zaf ?_)⟩⟩⟩⟩;have s03:=s1.trans (s2.trans s3);have hp3:=hp.same s03;have hs3:=hs.same s03;have tk3:=tk.same s03;walk_at "rd";refine⟨b,_,4,_,rfl,rfl,.mk (s03 _ _ hb),at4,p,dA,q_,l,m,m2,F,i,_,rfl,hp3,.inr ⟨la,da,ds,hs3⟩,kok,tk3,?_⟩;by_cases i0:i=0
   .subst i0;refine .inr (.inl ⟨rfl,⟨la,da,ds,hs3⟩,nm,⟨n4,rfl,by omega,hn4,nf⟩,λe4 H4 s4 x4=>?_⟩);walk_at "h";rw[YAI (by decide)];refine iteF ?_;walk_at "h";refine go9 (by decide) ⟨_,_,_,_,true,rfl,rfl,.exc x4 T.dj,Zbh T.bO T.bO Zcz (λ_=>rfl),iteF ⟨_,_,rfl,s03.trans s4⟩⟩
   .refine .inl ⟨by omega,⟨la,da,ds,hs3⟩,λz=>absurd z i0,.inr ⟨n4,rfl,by omega,hn4,nf⟩,λe4 H4 s4 x4=>?_⟩;walk_at "h";rw[YAM (decide_eq_true (show (0:Int)<(i:Int) by omega))];refine⟨b,_,4,_,rfl,rfl,.mk (s4 _ _ (s03 _ _ hb)),at4,e4,_,_,rfl,th4 _,.inl ⟨rfl,x4⟩,λH5 s5=>⟨true,rfl,iteF ?_⟩⟩;walk_at "h";refine sk9 (by omega) (iteF ⟨_,_,rfl,s03.trans (s4.trans s5)⟩)
  .rintro U H1 ⟨v5,v6,rfl,s1⟩;walk_at "k";obtain⟨r,hrr,rfl⟩:=hrF;have rn8:=Zce (hp.nm r hrr);refine⟨p,dA,q_,l,m,m2,F,0,_,rfl,hp.same s1,.inr ⟨la,da,ds,hs.same s1⟩,kok,tk.same s1,.inr (.inr (.inl ⟨rfl,⟨la,da,ds,hs.same s1⟩,⟨r,hrr,rfl⟩,λe2 H2 s2 x2=>?_⟩))⟩;show Zav _ _ _ _;refine Zaf ?_;have s02:=s1.trans s2;have thn:∀H',ThOk K H' (tx r.n):=λH'=>⟨.inl rfl,"str",false,.pl (.str _),Zi8⟩;walk_at "rd";refine⟨v,rfl,?_⟩;apply Zdu (C:=λH3=>Same H2 H3)
   .intro tail;rcases bn.same s02 with⟨n',ev,hn',hk'⟩ | o
    .exact .inl ⟨n',ev,hn',λH3 s3=>⟨_,rfl,by rw[hk'];exact iteF (tail H3 s3)⟩⟩
    .exact .inr ⟨o,_,rfl,iteF (tail H2 (Same.refl _))⟩
   .intro H3 s3;refine⟨e2,_,_,rfl,thn _,.inr ⟨rfl,x2.same s3⟩,λH4 s4=>⟨true,rfl,iteF ?_⟩⟩;show Zav _ _ _ _;refine Zaf ?_;have s04:=s02.trans (s3.trans s4);have hs4:=hs.same s04;obtain⟨dy,g⟩:=id hs4.fld;walk_at "rd";refine⟨q_,dy,_,rfl,g,sN,q_,l,m2,rfl,.inr ⟨la,da,ds,hs4⟩,λpr dr npr ndr ner=>⟨pr,dr,[],m2,rfl,Zag,⟨kok.k,kok.m1,kok.m4,by decide,λy hy=>by cases hy⟩,λH5 r5 k5=>⟨rfl,sz 2 (by decide),NewL.of λpl H6 s6 n6 e6=>⟨pl,rfl,⟨_,.mk e6⟩,?_⟩⟩⟩⟩;have s5:Same H4 H5:=λb o e=>k5 b o (by rw[Zai (Zad e npr),Zai (Zad e ndr)];exact e) (Zad e npr);have s06:=s04.trans (s5.trans s6);refine ForRun.list (xs:=[.ref q_,.ref pr]) (λi U H'=>∃v7,U=[some (.ref p),some v,some (.ref b),some (tx r.n),some (.ref q_),v5,some (.ref e2),v7]/\Same H6 H') ⟨_,rfl,Same.refl _⟩ (λi U H' _ ⟨_,_,s'⟩=>.mk (s' _ _ e6)) ?_ ?_
    .rintro i x U H7 hx ⟨v7,rfl,s7⟩;have s07:=s06.trans s7;have hB:∃p' l',x=.ref p'/\BandA a H7 p' l' m2:=by
      rcases i with _ | _ | i
      .cases hx;exact⟨q_,l,rfl,.inr ⟨la,da,ds,hs.same s07⟩⟩
      .cases hx;exact⟨pr,[],rfl,.inl ((r5.same s6).same s7)⟩
      .cases hx
     obtain⟨p',l',rfl,hB⟩:=hB;walk_at "rd";refine⟨p,dA,p',l',m,m2,F,7,_,rfl,hp.same s07,hB,kok,tk.same s07,.inr (.inr (.inr (.inl ⟨rfl,nm,λe8 H8 s8 x8=>?_⟩)))⟩;exact⟨_,_,_,_,true,rfl,rfl,.exc x8 T.dj,Zbh T.bO T.bO Zcz (λ_=>rfl),iteF ⟨_,rfl,s7.trans s8⟩⟩
    .rintro U H7 ⟨v7,rfl,s7⟩;walk_at "k";exact q H7 (s06.trans s7)
theorem ZbA:FnScope ["_law_script","_law_kinds_here","_law_names_here","_law_shelf","_law_texts","_law_k","_law_strip_here","_law_text","_law_some","_law_letters_here","_law_strange","_law_thing_here","_law_name","_law_bad"] ["_law_script"] (Zaj ZlN):=by walk_at "sc"
theorem ok_law (T:TL K mg base a tb):FnOk P w K mg base CX0 10 a.f_law a.d_law ["_law_script"] (spLaw K tb):=by
 refine T.f_law.ok ZbA (λvs H Q E h=>?_) (λBc A outer s H vs Q E hr h=>?_)
 .obtain⟨_,_,rfl,_⟩:=h;rfl
 .have Bf:=hr.units;have hu1:=ZaG hr;obtain⟨b,ns,rfl,hS,hl,tk,q⟩:=h;refine⟨_,(Zab (Zap (i:=1) ZbA.nd rfl (Or.inr rfl) (Zal (Zpz T) (hr.mono (by decide)) rfl T.m_LS T.f_LS.kp T.b_LS .nil Zao (Zaa (Zal (ZeP T) (hr.mono (by decide)) rfl T.aW T.f_L1.kp T.aX .nil Zao (Zaa (pv 0) (Zaa Zak Zac))) Zac)))
   (Zae (Zab (Zap (i:=2) ZbA.nd rfl (Or.inl rfl) (Zal (Zpy T) (hr.mono (by decide)) rfl T.m_LT T.f_LT.kp T.b_LT .nil Zao (Zaa (Zal (ZeP T) (hr.mono (by decide)) rfl T.aW T.f_L1.kp T.aX .nil Zao (Zaa (pv 0) (Zaa Zak Zac))) (Zaa Zak Zac))))
   (Zae (Zab (Zap (i:=3) ZbA.nd rfl (Or.inl rfl) (Zc0 T.bP (ZnD T) (hr.mono (by decide)) rfl T.m_LX T.b_KT .nil ZaL (Zaa (pv 1) Zac)))
   (Zae (Zab (Zap (i:=4) ZbA.nd rfl (Or.inl rfl) ZeL)
   (Zae (Zab (ZbB YBJ rfl (Zbp rfl T.z_range (Zaa (Zat Zbt Zak (Zat ZaS (Zal (ZeP T) (hr.mono (by decide)) rfl T.aW T.f_L1.kp T.aX .nil Zao (Zaa (pv 0) (Zaa Zak Zac))) Zak)) Zac)) (ZaN (i:=5) ZbA.nd rfl (Or.inl rfl))
   (Zae (Zab (Znj (Zal (Zpx T) (hr.mono (by decide)) rfl T.m_LU T.f_LU.kp T.b_LU .nil Zao (Zaa (pv 1) (Zaa (Zal (ZeP T) (hr.mono (by decide)) rfl T.aW T.f_L1.kp T.aX .nil Zao (Zaa (pv 0) (Zaa (Zat Zbt Zak (pv 5)) Zac))) Zac))) (Znl rfl (ZgZ (ZaN (i:=6) ZbA.nd rfl (Or.inl rfl)) (ZgZ (ZaN (i:=7) ZbA.nd rfl (Or.inl rfl)) ZlV))))
   (Zae (Zab (ZaF (ZaB (pv 3) T.ah T.aO (Zkc T) (hr.mono (by decide)) T.dD .nil ZaL (Zaa (Zbj (Za5 (K:=K) rfl) (pv 2) (pv 5) (λ_ _=>rfl)) (Zaa (pv 6) Zac))))
   (Zae (Zab (ZaF (ZaB (pv 6) T.ac T.aM (ZhD T) (hr.mono (by decide)) T.b7 .nil ZaL (Zaa (Zbj ZdO (pv 1) Zak (λ_ _=>rfl)) Zac)))
   (Zae (Zab (Zgn hu1 (pv 4) (Zbj (Za5 (K:=K) rfl) (pv 2) (pv 5) (λ_ _=>rfl)) (pv 7) rfl)
   (Zae (Zah (Za1 (PW.pt (Zcv (ZaU (ZaP (Zal (Zka T) (hr.mono (by decide)) rfl T.c6 T.f_LG.kp T.de .nil Zao (Zaa (Zbj (Za5 (K:=K) rfl) (pv 2) (pv 5) (λ_ _=>rfl)) Zac)))) (ZbL (ZaU (ZaP (Zal (Zfy T) (hr.mono (by decide)) rfl T.m_lis T.f_lis.kp T.b_lis .nil Zao (Zaa (pv 3) (Zaa (pv 4) Zac)))))))) (Zae (Zah (Zaq Zbw))) Zax))))))))))))
   (Zae (Zab (Zgo (i:=8) (N:=["_law_letter","_law_kinds_here"]) (ix:=[none,some 1]) rfl ZbA.nd rfl rfl rfl (ZbF rfl) rfl (ZeI (Zar (l:=[97,122,98,121,99]) (by decide +kernel))) (λ_ _ _ _=>(ZaN (i:=0) (show (["_law_letter","_law_kinds_here"]:AJ).Nodup from by decide +kernel) rfl (Or.inl rfl) (Or.inr rfl))) (λ_ _ _ _=>(ZeH (Zau ZeN (pv 0) (pv 1) rfl))) (λ_ _ _ _=>(pv 0)))
   (Zae (Zab (Zap (i:=9) ZbA.nd rfl (Or.inl rfl) (Zat Za2 (ZaR ZcC (pv 1) (Za8 (Zat Zbf (Zan (ZaM (K:=K) rfl) rfl T.z_len Zbr (Zaa (pv 1) Zac)) Zak)) Za9) (Zbj (Za5 (K:=K) rfl) (pv 8) (Zat ZaS (Zal (ZeP T) (hr.mono (by decide)) rfl T.aW T.f_L1.kp T.aX .nil Zao (Zaa (pv 0) (Zaa Zak Zac))) (Zan (ZaM (K:=K) rfl) rfl T.z_len Zbr (Zaa (pv 8) Zac))) (λ_ _=>rfl))))
   (Zae (Zab (Zap (i:=10) ZbA.nd rfl (Or.inl rfl) (Zc0 T.aR (Zkb T) (hr.mono (by decide)) rfl T.bZ T.dF .nil Zao (Zaa (Zfv YCT PySem.F.slot_str_join PySem.F.type_str_join ZiT (Zar (l:=[]) (by decide +kernel)) (Zaa (Zan (Zf4 rfl) rfl T.z_sorted Zci (Zaa (pv 9) Zac)) Zac)) Zac)))
   (Zae (Zab (Zap (i:=11) ZbA.nd rfl (Or.inl rfl) (Zal (ZpH T) (hr.mono (by decide)) rfl T.m_L5 T.f_L5.kp T.b_L5 .nil Zao (Zaa (Zal (ZeP T) (hr.mono (by decide)) rfl T.aW T.f_L1.kp T.aX .nil Zao (Zaa (pv 0) (Zaa Zak Zac))) (Zaa (pv 2) Zac))))
   (Zae (Zab (Zap (i:=12) ZbA.nd rfl (Or.inl rfl) (Zbj (Za5 (K:=K) rfl) (pv 2) (Zat ZaS (Zal (ZeP T) (hr.mono (by decide)) rfl T.aW T.f_L1.kp T.aX .nil Zao (Zaa (pv 0) (Zaa Zak Zac))) (Zan ZjC rfl T.z_len Zbr (Zaa (pv 4) Zac))) (λ_ _=>rfl)))
   (Zae (Zab (Zap (i:=13) ZbA.nd rfl (Or.inl rfl) (Zbj (Za5 (K:=K) rfl) (Zbm (Zaa (Zar (l:=[]) (by decide +kernel)) (Zaa (Zar (l:=[98,97]) (by decide +kernel)) (Zaa (Zar (l:=[97,97]) (by decide +kernel)) (Zaa (Zar (l:=[97,98,99,100,101]) (by decide +kernel)) (Zaa (Zar (l:=[65]) (by decide +kernel)) (Zaa ZiC (Zaa Zak (Zaa (Zbm (Zaa (Zar (l:=[97]) (by decide +kernel)) Zac)) Zac))))))))) (Zat ZaS (Zal (ZeP T) (hr.mono (by decide)) rfl T.aW T.f_L1.kp T.aX .nil Zao (Zaa (pv 0) (Zaa Zak Zac))) Zak) (λ_ _=>rfl)))
   (Zae (Zab (Za1 (PW.pt (Zcv (ZaU (ZaP (Zal (ZpB T) (hr.mono (by decide)) rfl T.m_LL T.f_LL.kp T.b_LL .nil Zao (Zaa (pv 3) (Zaa (pv 11) (Zaa (pv 2) (Zaa (pv 12) (Zaa (pv 10) Zac)))))))) (ZbL (ZaU (ZaP (Zal (ZpC T) (hr.mono (by decide)) rfl T.m_LJ T.f_LJ.kp T.b_LJ .nil Zao (Zaa (pv 13) Zac))))))) (Zae (Zah (Zaq Zbw))) Zax)
   (Zae (Zab (Za1 (PW.pt (Zcv (ZaU (ZaP (Zal (Zfy T) (hr.mono (by decide)) rfl T.m_lis T.f_lis.kp T.b_lis .nil Zao (Zaa (pv 3) (Zaa (pv 4) Zac))))) (ZbL (ZaU (ZaP (Zal (ZpA T) (hr.mono (by decide)) rfl T.m_LQ T.f_LQ.kp T.b_LQ .nil Zao (Zaa (pv 3) (Zaa (pv 4) (Zaa (pv 12) (Zaa (pv 1) Zac)))))))))) (Zae (Zah (Zaq Zbw))) Zax)
   (Zae (Zab (Za1 (PW.pt (Zdb (Zau (ZaQ (K:=K) rfl Bf) (Zat ZaS (Zat Zbf (Zal (ZeP T) (hr.mono (by decide)) rfl T.aW T.f_L1.kp T.aX .nil Zao (Zaa (pv 0) (Zaa Zak Zac))) Zak) Zak) Zak (ZaC _)) (ZcZ (ZaU (ZaP (Zal (ZpI T) (hr.mono (by decide)) rfl T.m_L2 T.f_L2.kp T.b_L2 .nil Zao (Zaa (pv 3) (Zaa (Zbj (Za5 (K:=K) rfl) (pv 2) Zak (λ_ _=>rfl)) (Zaa (pv 1) Zac))))))))) (Zae (Zah (Zaq Zbw))) Zax)
   (Zae (Zah (Zaq (Zal (ZpF T) (hr.mono (by decide)) rfl T.m_LB T.f_LB.kp T.b_LB .nil Zao (Zaa (pv 3) (Zaa (pv 4) (Zaa (pv 12) (Zaa (pv 1) Zac))))))))))))))))))))))))))))))))))),?_⟩
  rw[<-T.e_LD]at tk;walk_at "rd";refine⟨b,ns,0,rfl,hS,by decide,by decide,λr0=>⟨_,rfl,λm mk m1 m4=>Zaf ?_⟩⟩;have kok:KOk m:=⟨mk,m1,m4⟩;walk_at "rd";refine⟨b,ns,1,rfl,hS,by decide,by decide,λr1=>⟨r1,rfl,λN bN H1 s1 eN lN ndN nmN=>?_⟩⟩;walk_at "h";intro p dx np ndx ne0;refine⟨p,dx,_,rfl,Zag,.inl ⟨m,rfl,kok,λdA H2 hp2 nA k2=>⟨rfl,?_⟩⟩⟩;have s2:Same H1 H2:=λb o e=>k2 b o (by rw[Zai (Zad e np),Zai (Zad e ndx)];exact e) (Zad e np);walk_at "h";intro pT nT;have s3:Same H2 (upd H2 pT (.dK [])):=ZaE nT;have e3:upd H2 pT (.dK []) pT=some (.dK []):=Zag;have nTA:pT≠dA:=YAh (Zad hp2.dct nT);generalize upd H2 pT (.dK [])=H3 at s3 e3;have s03:=s1.trans (s2.trans s3);have hp3:=hp2.same s3;have tk3:=tk.same s03;have hS3:=s03.seq hS;have eN3:=s3 _ _ (s2 _ _ eN);clear hp2 k2 s1 s2 s3 np ndx ne0 nA nT eN;walk_at "h";refine⟨b,ns,2,rfl,hS3,by decide,by decide,λr2=>?_⟩;obtain⟨cnt,ec,c1,c4⟩:∃cnt:Nat,1+r2 % 4=(cnt:Int)/\1<=cnt/\cnt<=4:=⟨(1+r2 % 4).toNat,by omega,by omega,by omega⟩;walk_at "rd?";rw[ec];refine⟨by decide,_,rfl,by omega,by omega,?_⟩;rw[show ((cnt:Nat):Int).toNat=cnt by omega];have atN:∀k:Nat,k<5->∃n,N[k]?=some n/\atI (N.map tx) (k:Int)=some (tx n)/\isn n=true:=λk hk=>by have h:N[k]?=some (N[k]'(by omega)):=YAN (by omega);exact⟨_,h,Zfc (by rw[YAi,h];rfl),nmN _ (YAq h)⟩
  have lstS:∀ {q:AD} {ys:List V},H3 q=some (.lst ys)->q∉[dA,pT]:=λe=>by walk_at "m";exact⟨λz=>(by rw[z,hp3.dct]at e;cases e),λz=>(by rw[z,e3]at e;cases e)⟩
  have seqS:∀ {H':Hp},Chg [dA,pT] H3 H'->SqL K H' b (ns.map V.int):=λc=>ZkS hS3 c (λys e=>lstS e) (λo ys e=>by walk_at "m";exact⟨λz=>(by rw[z,hp3.dct]at e;cases e),λz=>(by rw[z,e3]at e;cases e)⟩)
  obtain⟨c0,hc0,mc0⟩:=ZcU (xs:=m) (i:=0) (by decide) (by omega);refine ForRun.range (λi U H'=>∃(v5 v6 v7:Option V) (F:List Kp),U=[some (.ref b),some (tx m),some (.ref bN),some (.ref p),some (.ref pT),v5,v6,v7,none,none,none,none,none,none]/\ShelfAt a H' p dA m F/\H' pT=some (.dK (F.map λr=>(kTx r.n,tx r.l)))/\F.map (·.n)=N.take i/\(∀r∈F,r.l.length<=8/\r.ds.length<=20/\Nw H3 r.p/\Nw H3 r.da)/\TblOk H' a.t_LD lpos lq/\Chg [dA,pT] H3 H') ⟨_,_,_,[],rfl,hp3,e3,by simp,λr h=>(by cases h),tk3,Chg.refl _⟩ ?_ ?_
  .rintro i U H4 hi ⟨v5,v6,v7,F,rfl,hp4,e4,fn,fr,tk4,ch4⟩;rw[show (0+(i:Int))=((i:Nat):Int) by omega];obtain⟨n,hn,an,inn⟩:=atN i (by omega);have n8:=Zce inn;have fl:F.length=i:=by have:=congrArg List.length fn;rw[YAD,YAa]at this;omega
   have nf:∀r∈F,r.n≠n:=λr hr e=>by
    have h1:r.n∈N.take i:=by rw[<-fn];exact YBE hr
    rw[e]at h1;exact Zg6 ndN hn h1
   walk_at "rd";walk_at "g";refine⟨b,ns,_,rfl,seqS ch4,by omega,by omega,λrc=>⟨m,rc,rfl,kok,tk4,λt q la da l ds H5 sl5 tk5 e5 st5 l8 d20 nq nla nda n1 n2=>?_⟩⟩;refine⟨t,_,rfl,.mk e5,rfl,_,_,rfl,_,_,rfl,rfl,?_⟩;have hp5:=hp4.l sl5;obtain⟨d5,f5⟩:=hp5.fld;have eN5:H5 bN=some (.lst (N.map tx)):=sl5 _ _ (ch4 _ _ eN3 (lstS eN3) rfl) rfl;walk_at "h";refine⟨p,d5,_,rfl,f5,shN,bN,_,_,_,rfl,rfl,.mk eN5,an,Zki p dA q la da l m m ds F _ rfl hp5 st5 (.inl ⟨n,rfl,by omega,inn,nf,rfl,by omega,λr H6 e1 e2 e3' k1 k2 k3 kb hp6=>?_⟩)⟩;have st6:=Zbx st5 kb hp5.dct;have tk6:=kb.tbl tk5 hp5.dct;obtain⟨dq,g6⟩:=id st6.fld;have ap6:Ap (F++[r]) q la da:=λs hs=>by
    rcases YAV.mp hs with z | z
    .obtain⟨⟨_,_,z1⟩,⟨_,z2⟩,_,z3⟩:=Zaw (hp4.str s z);exact⟨nq.ne z1 rfl,nla.ne z2 rfl,nda.ne z2 rfl,nla.ne z3 rfl,nda.ne z3 rfl⟩
    .rw[YAG.mp z];obtain⟨⟨_,_,z1⟩,⟨_,z2⟩,_,z3⟩:=Zaw st5;exact⟨YAh (Zad z1 k1),YAh (Zad z2 k2),YAh (Zad z3 k2),YAh (Zad z2 k3),YAh (Zad z3 k3)⟩
   walk_at "h";refine⟨q,dq,_,rfl,g6,sN,m,0,c0,rfl,rfl,sz _ (by omega),hc0,ZpV q la da l m ds _ rfl st6 (by omega) tk6 (.inl ⟨c0,rfl,mc0,by omega,λt' c' g' la' H7 c7 st7 an7 tk7=>?_⟩)⟩;obtain⟨hp7,ap7⟩:=Zfa hp6 ap6 st6 c7 an7.nl;obtain⟨⟨_,_,x1⟩,⟨_,x2⟩,_,x3⟩:=Zaw st6;have e7:H7 pT=some (.dK (F.map λr=>(kTx r.n,tx r.l))):=by have e6:=kb _ _ (sl5 _ _ e4 rfl) nTA;refine c7 _ _ e6 ?_ rfl;walk_at "m";exact⟨λz=>(by rw[z,x1]at e6;cases e6),λz=>(by rw[z,x3]at e6;cases e6)⟩
   have eN7:H7 bN=some (.lst (N.map tx)):=by have e6:=kb _ _ eN5 (λz=>by rw[z,hp5.dct]at eN5;cases eN5);refine c7 _ _ e6 ?_ rfl;walk_at "m";refine⟨λz=>(by rw[z,x1]at e6;cases e6),nda.ne (ch4 _ _ eN3 (lstS eN3) rfl) rfl⟩
   walk_at "h";refine⟨bN,_,_,_,rfl,rfl,.mk eN7,an,pT,_,rfl,.inl ⟨_,kTx n,e7,rfl,by rw[YAD];exact YCV (show F.length<=10 by omega) (by rw[sizeLine_eq];decide),rfl⟩,?_⟩;have e8:upd H7 pT (.dK (putK (F.map λr=>(kTx r.n,tx r.l)) (kTx n) (tx l))) pT=some (.dK ((F++[r]).map λr=>(kTx r.n,tx r.l))):=by rw[Zag,ZeF _ (ZoH nf),YAy,List.map_singleton,e1,e2]
   have hp8:ShelfAt a (upd H7 pT (.dK (putK (F.map λr=>(kTx r.n,tx r.l)) (kTx n) (tx l)))) p dA m (F++[r]):=hp7.dict e7 nTA;have tk8:TblOk (upd H7 pT (.dK (putK (F.map λr=>(kTx r.n,tx r.l)) (kTx n) (tx l)))) a.t_LD lpos lq:=tk7.upd e7 rfl rfl;have k8:KeepB pT H7 (upd H7 pT (.dK (putK (F.map λr=>(kTx r.n,tx r.l)) (kTx n) (tx l)))):=λb o e z=>by rw[Zai z];exact e
   generalize upd H7 pT (.dK (putK (F.map λr=>(kTx r.n,tx r.l)) (kTx n) (tx l)))=H8 at e8 hp8 tk8 k8;have eN8:=k8 _ _ eN7 (λz=>by rw[z,e7]at eN7;cases eN7);walk_at "h";refine⟨bN,_,_,_,rfl,rfl,.mk eN8,an,_,rfl,.inl ⟨n,rfl,by omega,λH9 s9=>⟨_,rfl,?_⟩⟩⟩;rw[inn,YCv];have hp9:=hp8.same s9;refine iteF (ZnS p dA pT m (F++[r]) rfl hp9 (by rw[YAH,YAd];omega) ⟨_,YDS _,s9 _ _ e8⟩ nTA (λHA sA=>⟨true,rfl,iteF ⟨_,_,_,F++[r],rfl,hp9.same sA,sA _ _ (s9 _ _ e8),?_,λs hs=>?_,(tk8.same s9).same sA,λbb o e nb tb=>?_⟩⟩))
   .rw[YAy,fn,List.map_singleton,e1,List.take_add_one,hn];rfl
   .rcases YAV.mp hs with z | z
    .exact fr s z
    .rw[YAG.mp z,e2,e3'];have up:∀ {u:AD},H5 u=none->Nw H3 u:=λ{u} hu=>by
      intro o eo;cases tt:ZdS o with
      | true=>rfl
      | false=>
       by_cases zz:u∈[dA,pT]
       .simp only[YAE,YAT,or_false]at zz;rcases zz with zz | zz
        .rw[zz,hp5.dct]at hu;cases hu
        .rw[zz,sl5 _ _ e4 rfl]at hu;cases hu
       .rw[sl5 _ _ (ch4 _ _ eo zz tt) tt]at hu;cases hu
     exact⟨l8,d20,up k1,up k3⟩
   .simp only[YAE,YAT,or_false,not_or]at nb;have b4:=ch4 _ _ e (by walk_at "m";exact nb) tb;refine sA _ _ (s9 _ _ (k8 _ _ (c7 _ _ (kb _ _ (sl5 _ _ b4 tb) nb.1) ?_ tb) nb.2));walk_at "m";exact⟨nq.ne b4 tb,nda.ne b4 tb⟩
  rintro U H4 ⟨v5,v6,v7,F,rfl,hp4,e4,fn,fr,tk4,ch4⟩;have fl:F.length=cnt:=by have:=congrArg List.length fn;rw[YAD,YAa]at this;omega
  have hS4:=seqS ch4;have eN4:H4 bN=some (.lst (N.map tx)):=ch4 _ _ eN3 (lstS eN3) rfl;obtain⟨n4,hn4,an4,in4⟩:=atN 4 (by decide);have nf4:∀r∈F,r.n≠n4:=λr hr e=>by
   have h1:r.n∈N.take cnt:=by rw[<-fn];exact YBE hr
   rw[e]at h1;exact Zg6 ndN hn4 ((List.take_subset_take_left N (by omega:cnt<=4)) h1)
  walk_at "k";refine⟨_,rfl,CompRun.text (λi=>!decide (([97,122,98,121,99]:Q11).getD i 0∈m)) (λi=>tx [([97,122,98,121,99]:Q11).getD i 0]) (by decide) ?_ ?_ ?_⟩
  .intro i H1 Q1 hi s1 q1;walk_at "rd";exact⟨_,m,rfl,rfl,q1 H1 (Same.refl _)⟩
  .intro i H1 Q1 hi _ s1 q1;walk_at "rd";exact q1 H1 (Same.refl _)
  intro ps H16 s16 n16 l16;rw[Zjp (0:Nat) (λc=>!decide (c∈m)) (λc=>tx [c]) [97,122,98,121,99]]at l16;have sne:=Zfo m4;obtain⟨S,eS⟩:∃S,S=([97,122,98,121,99]:Q11).filter (λc=>!decide (c∈m)):=⟨_,rfl⟩;rw[<-eS]at l16 sne;have Sm:∀x∈S,x∈LET/\x∉m:=λx hx=>by
   rw[eS]at hx;obtain⟨a,b⟩:=YBT.mp hx;refine⟨?_,by simpa using b⟩;have:∀y∈([97,122,98,121,99]:Q11),y∈LET:=by decide
   exact this x a
  have S1:1<=S.length:=YBc.mpr sne;walk_at "h";refine⟨_,_,rfl,Zb3 (by omega),⟨by decide,by decide⟩,_,rfl,m,rfl,sz _ (by omega),b,ns,2,rfl,s16.seq hS4,by decide,by decide,λrc=>⟨_,_,rfl,.inl ⟨_,.mk l16,rfl⟩,?_⟩⟩;rw[YAD];obtain⟨v,hv,vm⟩:=ZcU (xs:=S.map λc=>tx [c]) (i:=rc % ((S.length:Nat):Int)) (YBn _ (by omega)) (by rw[YAD];exact YBi _ (by omega));obtain⟨x,xS,rfl⟩:=YAt.mp vm;obtain⟨xL,xm⟩:=Sm x xS;have nd:m.Nodup:=(Zk7 mk).2.2.imp λh=>YAf h;obtain⟨j,ej⟩:∃j:Nat,j=m.length/4:=⟨_,rfl⟩;have cj:cut m (some ((m.length:Int)/4)) none=m.drop j:=by rw[show ((m.length:Int)/4)=((j:Nat):Int) by omega,ZbY]
  rw[cj];have f4:(m.drop j++[x]).length<=4:=by rw[YAH,YAk,YAd];omega
  have f1:1<=(m.drop j++[x]).length:=by rw[YAH,YAd];omega
  have fnd:(m.drop j++[x]).Nodup:=by rw[YCy];refine⟨nd.sublist (List.drop_sublist _ _),by simp,λa ha b hb e=>?_⟩;rw[YAG.mp hb]at e;exact xm (e▸YAb ha)
  have fle:∀y∈m.drop j++[x],y∈LET:=λy hy=>by
   rcases YAV.mp hy with z | z
   .exact kok.let y (YAb z)
   .rw[YAG.mp z];exact xL
  obtain⟨kF,nF⟩:=ZhO fnd fle f1 f4 (by simp) xm;refine⟨_,_,rfl,rfl,by show (0:Int)<_;omega,ps,_,_,_,rfl,rfl,.mk l16,hv,_,_,rfl,rfl,sz _ (by rw[YAH]at f4;omega),?_⟩;walk_at "h";refine⟨rfl,_,rfl,by omega,NewL.of λpl H17 s17 n17 l17=>⟨[],pl,_,rfl,rfl,l17,by rw[Zij,YCo,Nat.mul_zero];omega,λpq dr npr ndr ner=>?_⟩⟩;rw[Ze2];generalize (ZaV (signs (m.drop j++[x]))).flatten=mF at kF nF;refine⟨pq,dr,mF,rfl,Zag,kF,λlaQ daQ H18 st18 nlQ ndQ k18=>⟨rfl,?_⟩⟩;have s18:Same H17 H18:=λb o e=>k18 b o (by rw[Zai (Zad e npr),Zai (Zad e ndr)];exact e) (Zad e npr);have s4x:=s16.trans (s17.trans s18);have hp5:=hp4.same s4x;have e5:=s4x _ _ e4;have tk5:=tk4.same s4x;have hS5:=s4x.seq hS4;have eN5:=s4x _ _ eN4;have ch5:Chg [dA,pT] H3 H18:=ch4.trans s4x.chg;clear hp4 e4 tk4 hS4 eN4 ch4 s16 s17 s18 s4x k18 l16 l17 npr ndr ner nlQ ndQ n16 n17;walk_at "h";refine⟨b,ns,7,rfl,hS5,by decide,by decide,λr7=>⟨r7,bN,N,rfl,eN5,lN,nmN,λvt H6 s6 bn th=>?_⟩⟩;have hp6:=hp5.same s6;have e6:=s6 _ _ e5;have tk6:=tk5.same s6;have hS6:=s6.seq hS5;have eN6:=s6 _ _ eN5;have ch6:Chg [dA,pT] H3 H6:=ch5.trans s6.chg;have st6:=st18.same s6;walk_at "h";refine⟨b,ns,8,rfl,hS6,by decide,by decide,λr8=>⟨pT,_,rfl,e6,?_⟩⟩;rw[YAD,fl];obtain⟨J,eJ,hJ⟩:∃J:Nat,r8 % ((cnt:Nat):Int)=(J:Int)/\J<cnt:=by have h0:=YBn r8 (show ((cnt:Nat):Int)≠0 by omega);have h1:=YBi r8 (show (0:Int)<cnt by omega);exact⟨(r8 % ((cnt:Nat):Int)).toNat,by omega,by omega⟩
  obtain⟨nJ,hnJ,anJ,_⟩:=atN J (by omega);obtain⟨r,hrF,rn⟩:∃r∈F,r.n=nJ:=by
   have h:(F.map (·.n))[J]?=some nJ:=by rw[fn,List.getElem?_take_of_lt hJ];exact hnJ
   rw[YAi]at h;obtain⟨r,h1,h2⟩:=YCw.mp h;exact⟨r,YAq h1,h2⟩
  refine⟨r8,_,rfl,rfl,by show (0:Int)<_;omega,?_⟩;refine⟨bN,_,_,_,rfl,rfl,.mk eN6,by rw[eJ];exact anJ,?_⟩;show Zav _ _ _ _;refine Zaf ?_
  with_reducible refine ZcL ?_
  intro TB;walk_at "r1";refine⟨sz 1 (by decide),NewL.of λpa H7 s7 n7 e7=>⟨sz 8 (by decide),NewL.of λpb H8 s8 n8 e8=>⟨_,rfl,b,ns,9,rfl,s8.seq (s7.seq hS6),by decide,by decide,λr9=>?_⟩⟩⟩;obtain⟨vb,hvb,vbm⟩:=ZcU (xs:=[tx [],tx [98,97],tx [97,97],tx [97,98,99,100,101],tx [65],V.non,V.int 4,V.ref pa]) (i:=r9 % 8) (by omega) (by show _<(8:Int);omega);have s68:=s7.trans s8;have bk:BadK K H8 vb:=by
   have tk:∀l:Q11,l.length<=1000->isk l=false->BadK K H8 (tx l):=λl a b=>.inl ⟨l,rfl,a,b⟩;have no:∀l:Q11,¬(1<=l.length/\l.length<=4/\l.Pairwise (· < ·))->isk l=false:=λl h=>by
    cases e:isk l with
    | false=>rfl
    | true=>exact absurd (Zk7 e) h
   have noA:isk [65]=false:=by
    cases e:isk [65] with
    | false=>rfl
    | true=>
     have:=(⟨e,by decide,by decide⟩:KOk [65]).let 65 (by simp);exact absurd this (by decide)
   simp only[YAE,YAT,or_false]at vbm;rcases vbm with rfl | rfl | rfl | rfl | rfl | rfl | rfl | rfl
   .exact tk _ (by decide) (no _ (by decide))
   .exact tk _ (by decide) (no _ (by decide))
   .exact tk _ (by decide) (no _ (by decide))
   .exact tk _ (by decide) (no _ (by decide))
   .exact tk _ (by decide) noA
   .exact .inr ZiG
   .exact .inr ZiI
   .exact .inr (ZiH (s8 _ _ e7) rfl)
  refine⟨r9,8,rfl,rfl,by show (0:Int)<8;decide,pb,_,_,vb,rfl,rfl,.mk e8,hvb,?_⟩;have hp8:=hp6.same s68;have e68:=s68 _ _ e6;have tk8:=tk6.same s68;have hS8:=s68.seq hS6;have eN8:=s68 _ _ eN6;have ch8:Chg [dA,pT] H3 H8:=ch6.trans s68.chg;have st8:=st6.same s68;have bn8:=bn.same s68;have th8:=th.same s68;clear hp6 e6 tk6 hS6 eN6 ch6 st6 bn th s7 s8 s6 e7 e8 hp5 e5 tk5 hS5 eN5 ch5 st18 s68;walk_at "h";refine⟨p,dA,pq,laQ,daQ,bN,[],m,mF,nJ,n4,[],F,N,vt,rfl,hp8,st8,kF,YAh nF,tk8,bn8,th8,eN8,hn4,in4,nf4,⟨r,hrF,rn.symm⟩,λH9 s9=>⟨true,rfl,iteF ⟨vb,rfl,bk.same s9,λHA sA=>⟨true,rfl,iteF ?_⟩⟩⟩⟩;have s8A:=s9.trans sA;have hpA:=hp8.same s8A;have eA:=s8A _ _ e68;have tkA:=tk8.same s8A;have eNA:=s8A _ _ eN8;have chA:Chg [dA,pT] H3 HA:=ch8.trans s8A.chg;walk_at "h";subst rn;obtain⟨rl8,rd20,nwp,nwd⟩:=fr r hrF;refine⟨p,dA,pT,m,F,rfl,hpA,by omega,⟨_,YDS _,eA⟩,nTA,λHB sB=>⟨true,rfl,iteF ⟨p,dA,pT,m,F,r,rfl,hpA.same sB,by omega,⟨_,YDS _,sB _ _ eA⟩,nTA,hrF,by omega,by omega,tkA.same sB,λr2 HC cC e1 e2 e3' hpC hTC tkC=>⟨true,rfl,iteF ?_⟩⟩⟩⟩;have chC:Chg [dA,pT,r.p,r.da] H3 HC:=λbb o e nb tb=>by simp only[YAE,YAT,or_false,not_or]at nb;refine cC _ _ (sB _ _ (chA _ _ e (by walk_at "m";exact⟨nb.1,nb.2.1⟩) tb)) ?_ tb;walk_at "m";exact⟨nb.1,nb.2.2.1,nb.2.2.2⟩
  have outS:∀ {u:AD} {o:HO},H3 u=some o->ZdS o=false->(∀kvs,o≠.dK kvs)->u∉[dA,pT,r.p,r.da]:=λ{u o} e tb nd=>by
   walk_at "m";refine⟨λz=>?_,λz=>?_,nwp.ne e tb,nwd.ne e tb⟩
   .rw[z,hp3.dct]at e;exact nd _ (Option.some.inj e).symm
   .rw[z,e3]at e;exact nd _ (Option.some.inj e).symm
  have hSC:SqL K HC b (ns.map V.int):=ZkS hS3 chC (λys e=>outS e rfl λ_ z=>by cases z) (λo ys e=>outS e rfl λ_ z=>by cases z);have eNC:HC bN=some (.lst (N.map tx)):=chC _ _ eN3 (outS eN3 rfl λ_ z=>by cases z) rfl;have lF:((F.filter λx=>decide (x.n≠r.n))++[r2]).length<=10:=by have:=YBB (λx:Kp=>decide (x.n≠r.n)) F;rw[YAH,YAd];omega
  have nfC:∀s∈(F.filter λx=>decide (x.n≠r.n))++[r2],s.n≠n4:=λs hs=>by
   rcases YAV.mp hs with z | z
   .exact nf4 s (YBT.mp z).1
   .rw[YAG.mp z,e1];exact nf4 r hrF
  have r2F:r2∈(F.filter λx=>decide (x.n≠r.n))++[r2]:=by simp
  generalize (F.filter λx=>decide (x.n≠r.n))++[r2]=F2 at hpC hTC lF nfC r2F;walk_at "h";refine⟨b,ns,8,rfl,hSC,by decide,by decide,λr8'=>⟨r8',4,rfl,rfl,⟨by decide,by decide⟩,_,4,rfl,rfl,by show (0:Int)<4;decide,?_⟩⟩;apply Zdu (C:=λHD=>ShelfAt a HD p dA m F2/\TxD HD pT F2/\TblOk HD a.t_LD lpos lq)
  .intro tail;by_cases z:r8'/4 % 4=1
   .refine go9 z ⟨bN,_,4,_,rfl,rfl,.mk eNC,an4,p,dA,m,n4,F2,rfl,hpC,by omega,tkC,in4,nfC,λHD cD hpD tkD=>⟨true,rfl,iteF (tail HD ⟨hpD,?_,tkD⟩)⟩⟩;obtain⟨F9,pm9,e9⟩:=hTC;exact⟨F9,pm9,cD _ _ e9 (by simpa using nTA) rfl⟩
   .exact sk9 z (iteF (tail HC ⟨hpC,hTC,tkC⟩))
  .rintro HD ⟨hpD,hTD,tkD⟩;walk_at "h";exact⟨p,dA,pT,m,F2,r2,by rw[e1],hpD,by omega,hTD,nTA,r2F,by rw[e3'];omega,tkD,λHE=>q HE⟩
end
end Pk83
structure PySem.W.Fast:Prop where(tw10023085508346629541 tw10026219950168109459 tw10048684510213730548 tw10051855624177413045 tw10082368567611910522 tw10151627412744887885 tw10176835373332927182 tw10219254936609046962 tw10226293131155296422 tw10245819317763481766 tw10277338785107180949 tw10283826127577166162 tw10313850545482605003 tw10316806370329934930 tw10344584906522193064 tw10389398338783120715 tw10401801023955349995 tw10438525471610299127 tw1043893806050094375 tw10469943952164173360 tw10471157586593549460 tw10477090637622271043 tw10484378060914867751 tw10501649657889399474 tw10513855685096151351 tw10532929208205284738 tw10536655001869204496 tw10538577838797208727 tw10548692216528960782 tw10588409954882387375 tw10599169743752277121 tw10610348260020129837 tw10653304475673936277 tw10726292657239409884 tw10770249525463583581 tw10777825480643379847 tw10807806957725844198 tw10829184637339531719 tw10834162883347967180 tw10881287094881160894 tw1092012092343177440 tw11013723453131227137 tw11020911079883031135 tw1104439182914425725 tw11047811767391102088 tw11065279566533106365 tw11092241825584116455 tw11112646345154046722 tw11139652768036288771 tw1118496067419638 tw11188967811622535711 tw11195902459149689671 tw11233868838618544671 tw1125888367727339127 tw11290051218779525737 tw11324330344144844005 tw11422112357256846808 tw11430860060768062636 tw11469314178623192157 tw11503582022816819013 tw1150526272629870842 tw11510649978668739087 tw11560539041048558738 tw11561007731177614560 tw11567201842956268380 tw11647535878945073451 tw11735012761056623739 tw11782487514519865938 tw11787426693214868065 tw11818485916936595104 tw11830331093958269224 tw1185233032850877795 tw1192062687399101052 tw11964627325626690310 tw11996796650629124602 tw12007419639632111927 tw12012056122627411894 tw12081323133315195005 tw1208339095631249887 tw1213417067954961587 tw12138750283345142230 tw12150347037090229241 tw12157572957304859552 tw12162188777608965203 tw12192198942159202015 tw12210952762932478338 tw12211507158900672409 tw12221250194231017017 tw12298197318518357845 tw12301964541992708338 tw12320721188580772014 tw12351205992562669859 tw12370547478351301473 tw1239568318897694575 tw12410182702500513612 tw12469235440687991863 tw12600094116033015755 tw12617265686532613710 tw12651691664011126619 tw12653476851276794562 tw12653948568001610676 tw12656365473874672143 tw12667547722115221761 tw12685107990240252448 tw12719986411812541494 tw1278474232244409146 tw12810311017035996745 tw12824014334864786493 tw12852258997285833827 tw12855523658905012472 tw1288261896277888996 tw12943244592765079232 tw12968675927976009182 tw1297250773256113240 tw12986365767541783758 tw13020671862646621048 tw13037226571350918646 tw13045502164580898800 tw13067322618961179444 tw13075225411689643819 tw13089694771225884749 tw13092804951400469461 tw13099121501164409747 tw13181087927965913282 tw13190475560479993904 tw13194870217620399232 tw13208557038096495858 tw13221129709325888263 tw13231904016772139618 tw13313601962363192877 tw13339137711965864819 tw13344537692334810949 tw13353558957818227904 tw13356820963583136048 tw13433447997039689972 tw13479088369159161678 tw13499661889664216611 tw1350360028954666242 tw13509891424074647516 tw13524699384124353709 tw1356298685117167814 tw13608756006496466839 tw1361108271434791217 tw13611521261101734976 tw13671935929398655663 tw13699204448293416496 tw13701505687574711600 tw1370297529744263260 tw13712708682602769343 tw13724422178450707628 tw13754540419198604693 tw13875668786527127085 tw1390370859502538330 tw13904256977626469490 tw13912435792453721419 tw13938670252407329157 tw13960739929339167777 tw13977767752235066263 tw14004869424739900623 tw14022755900801778729 tw14058611462130693406 tw1411758044736343198 tw14121058600324416805 tw14200327340242784836 tw14290444450234237817 tw14317493096355408848 tw14320449653422049968 tw14334333770896361309 tw14350097159162204671 tw1440031849784433296 tw14439846599661509267 tw14479797147420322013 tw14496182097447591325 tw14536232616854795095 tw14554716975727966960 tw14606290624103130238 tw1468131913248132747 tw14683653910184099455 tw14701717062023419145 tw14727211041590119913 tw14739644916432148193 tw14748039438450571687 tw14765851238000589775 tw14781465978176463355 tw14782164378863710547 tw14843450628083186389 tw14904627622097969937 tw14905027402788880258 tw14908118280537378125 tw14951427419884958453 tw14982852534971272416 tw14992488933938198150 tw15018279979626045747 tw15031159444459397026 tw15032932292783414807 tw15054071309048797006 tw15054799525201561492 tw15058224470661091850 tw15067576540124979236 tw15137356652244486318 tw15170311140543263817 tw15177848902786302949 tw15177908433180600574 tw15196966665143661018 tw15208518171782113777 tw15242900361580180105 tw15298244483723261423 tw15303541293704191140 tw15315285466372632464 tw1532581668872754896 tw15395186601957819147 tw15400105501292682287 tw15408408982934594836 tw15409443962533681292 tw1543664202933306209 tw15436947226124796980 tw15452450500308227029 tw15463610360379544764 tw15466262529453989791 tw15484444763426707954 tw15502056551524752297 tw15522361472344578284 tw15533236139792377652 tw15533952197503999057 tw15548037522236665444 tw15561366688636884053 tw15562476427414520806 tw1556676876958180346 tw1559106203359623766 tw15600054680226463019 tw15622067428600307807 tw15647506133532477557 tw15660146985107559204 tw15679696490061812952 tw1568964720741566733 tw15704743528805033838 tw15731329994753768315 tw157529608756172239 tw15755555233159320410 tw1581371820013616325 tw15821893234804078988 tw15845425569210607112 tw15849739837549680856 tw1585110916137996339 tw15855170699921579693 tw15859138625128574713 tw15901952181394589794 tw15950576340771521529 tw1595569166631568578 tw16097619252218284823 tw16129032443802091593 tw16139832643175252420 tw16163905502903840137 tw16185812802075265086 tw16223562992694493699 tw16274707072125768677 tw16280542596249327755 tw16368876318998514594 tw16385889245711136320 tw16386685542985437868 tw16408126890269632237 tw16428963051059506969 tw16443405459733043926 tw16459178673677188789 tw1647850273332794281 tw16555645770691517740 tw16582969698720220982 tw16592209852536718468 tw16592496598983307279 tw16597427231113253692 tw16599487286728282653 tw16607068649352925090 tw16640739378365320247 tw16661355540122578813 tw16707178094735108342 tw16756052492890191297 tw16762273773203630736 tw16763229264942366525 tw16772080286369999083 tw16827456199394242183 tw1690387540278665998 tw16988186570338865545 tw17037065466890393972 tw17043342983581748896 tw17102641345698666593 tw17127414318704521347 tw1715505225845751070 tw17159668068718994019 tw17184961677701042519 tw17217240781293313907 tw17250239454948789864 tw17259189679412314190 tw17311413308383414683 tw17323027368267875848 tw17324456623228525174 tw17381867484951975482 tw17428308582894618707 tw17463841587160716602 tw17468942154019533417 tw17480993627656654349 tw17528372857403614875 tw17561910143677115030 tw1758290674854930223 tw17602541841060874607 tw17635699250592575788 tw17667346933933263872 tw17696242175095147257 tw17724792951149033876 tw17725840065712112087 tw17726011808556424164 tw17737899199999311999 tw17751909912593980204 tw17814692642348987468 tw17822264462918084465 tw17861088703761950674 tw17896975615091197938 tw17898307838942149656 tw17930784957409008459 tw17988894079669016297 tw17998205765442644364 tw18056461606230901687 tw18114371552635454628 tw18130661505799356062 tw18155383046674688046 tw18185121602245662711 tw18192631462446955612 tw18195005893305639969 tw18199022262892590862 tw18249401926055070249 tw18267860839726159163 tw18275941940615840873 tw18278930005139157220 tw18301713386841690001 tw18312255818084252095 tw18314467214609944989 tw18336886128336712845 tw18360200435290403644 tw18374348329596951850 tw1837509976953855152 tw18376271571275036242 tw18395253980223793754 tw18410802998577866037 tw18415875263355486560 tw1896057792596708036 tw1921433686838934237 tw1933014687814101157 tw2009218938425169402 tw2012552047003786026 tw2050093023229669966 tw2052034410117115553 tw2069602849110264124 tw2127411346201499506 tw2203160631357320314 tw2221081538584132158 tw2246922950465225019 tw2267356780597765349 tw2269351682406536112 tw2273240109211637346 tw2290521201448210921 tw2331702343180044320 tw2351446500422226795 tw2392526831654380726 tw2410974601670186012 tw2428608913150994918 tw2526128977696062720 tw2552027471416339570 tw2565495256333859111 tw2570217751956780811 tw2578618135653304122 tw2580059486277564450 tw2584920490400243192 tw2587055712473708704 tw263426409382605952 tw2682276655362874401 tw2698833249722275331 tw2773472712212236730 tw2813151412294477987 tw2826269774010530142 tw2873206104338474034 tw2882948782014084720 tw2890360644428155894 tw2899299575650823582 tw2910728224445642211 tw2920621794575588686 tw2938460877919046752 tw2943328678128206604 tw2977117010879215802 tw298709018017923056 tw3039096193541104105 tw3100951470805769860 tw3129454680494113436 tw3231000093219521410 tw32426378825063189 tw325579250405157683 tw3259655162463036115 tw3282562690326098090 tw3325024925951814992 tw3369222380189372853 tw3370211404536854594 tw3420765141187372824 tw3477595796235365898 tw348019051185128700 tw3491202253898253795 tw3510924376181536617 tw3547812724976165990 tw3592512848740367483 tw3617441586747270487 tw3633000509099042681 tw3681359969583376598 tw3711955231700334661 tw3718715899211991155 tw3726164215707470933 tw3852123031286169980 tw3859091710422744737 tw3866296243562794412 tw3909097885365840290 tw3918984002897107069 tw3924064216524996249 tw3941964052469036123 tw3947007492947261764 tw3973835720390130561 tw3989279474263451592 tw4006450192093227113 tw4026628263616622904 tw4027717902564110962 tw4048544803517605957 tw4052434326158454382 tw4055312472804974958 tw4070428573113135775 tw4103623230829241849 tw4105270096681757599 tw4108512628318618046 tw4134202620805818119 tw4156514866707038611 tw4198856988295014788 tw4218405166992685905 tw4333817366367273576 tw4389087100917402226 tw4436092152869920667 tw4466050318624863187 tw4467913466230189372 tw4488017412245450930 tw4505263756018817522 tw4521096551313856597 tw4523906235352973817 tw4531383282644383220 tw4554914834637688840 tw4556434728164505705 tw461033250788682990 tw4646701125921312386 tw4787101431781572977 tw4798751324643960540 tw4831285400825077941 tw4835794633669274176 tw4878814763778618992 tw4939708301063057916 tw4951462187795447779 tw4954618907738010656 tw4976242136425759933 tw4995371634505093895 tw4996547149512692032 tw5010627128151765316 tw5034328499995173325 tw504806772213003868 tw5069682503593538774 tw5096306559909539747 tw5102487991755218462 tw5117063981824619666 tw5126028067343235509 tw518622538995808393 tw5190367172234469430 tw5259914144692262390 tw5329093757255820753 tw5365899042705892708 tw5390570642850288211 tw5442208749119520255 tw5521470585360464372 tw5529424996192934152 tw5695739922203096659 tw5735448105992917451 tw5825064991681052290 tw5825680099633075914 tw5850456141273418944 tw5865791762350702882 tw5871314213513698511 tw587232400936478654 tw5937455767133683621 tw5991213742542623475 tw5995231811881832553 tw6007939266168724949 tw6037209239212059111 tw6049773351383015594 tw6071223284827352087 tw6073904560619304724 tw6075178805175086797 tw611020638493692440 tw6157712128311872209 tw6197159738277263096 tw6257608874053646148 tw6275240830628533748 tw6304370623217749698 tw6328179065949157285 tw6431742564994079870 tw6459493037974174545 tw6505169685432819931 tw6507490993404923534 tw6515413226408777204 tw654272011717065044 tw6616523366836944927 tw6674676672198237839 tw6699648600564255246 tw6712010994086224576 tw6787129154464527945 tw6792944421663441774 tw6796060335177945812 tw6826584167235592055 tw6830875007366028926 tw6831355099284883366 tw6931923483415211735 tw6966120390887907733 tw6981933861161361415 tw7004949020414076893 tw7052282779740468601 tw706691233068720727 tw7076845072778362211 tw7089768516549546167 tw709867860883232183 tw711042057519598622 tw7133561171119704640 tw7147950847498938458 tw7153125921260932597 tw7161165210961569960 tw7165465549741411842 tw7191752398043341820 tw7206384648672007155 tw7218466789794016819 tw7262804828705472060 tw72662080457253615 tw7289225435924140755 tw7297983121621285808 tw7338768735908729835 tw7360121463422287021 tw7426258846428846293 tw7440368653706861775 tw7485979436162968968 tw7530617288855515856 tw7552962567364227411 tw7561258979684413320 tw767780214716401989 tw7680234562623584205 tw7690154761469776822 tw7723892208207833866 tw7782057768953439763 tw779605557342103121 tw7803651176282163522 tw7837546482167487110 tw7839548897034144156 tw7844613120598803716 tw7850592786173447644 tw7859191907775805095 tw7886129434551949566 tw7908013277166800397 tw793236643316016413 tw800323828672706192 tw8057906168487347111 tw8059439549837080727 tw8068767601168508885 tw807559572281795482 tw8077510268861559167 tw8081943357629246338 tw8091259687551891322 tw8091492734633476178 tw8127954352748968178 tw8155168003084543248 tw824626432136312888 tw8246575236669782152 tw8297978841325874724 tw8338135857902667208 tw8342704534011832128 tw8402599612032923502 tw8419055985132622159 tw844746736827885016 tw8477601967605149247 tw850324725642129471 tw8595109046918002293 tw8603852268021290426 tw8636692751577148229 tw8655676583852591114 tw8669735986109515466 tw8684749818728075966 tw871127344635653775 tw8742204036183860555 tw8749787813966330990 tw8754261587193671623 tw879559362922587747 tw8812287841968709667 tw882855826829511967 tw8882959716021429387 tw8927039444737641993 tw8964590269785978357 tw8976622281882534890 tw9019084070207226531 tw9026874910468886139 tw9031100350175084146 tw9090233043770052461 tw909953282378499899 tw914861195234322441 tw9150532668348620987 tw9152107073713940756 tw9152730224009534943 tw923218364399040785 tw9292473476462861620 tw9294231930539358651 tw9312341989918022234 tw9324555744959118274 tw9339537674959596902 tw9357333447100072030 tw9370917239072929336 tw9390053023015644186 tw9406229241735417557 tw9458333925851567657 tw9465266756346221597 tw9471448017149089301 tw9493205851395544416 tw9514971673384969770 tw9584734397950493456 tw958519865248227669 tw9597554154587811533 tw9620125042211828272 tw9623635239026008525 tw9624523406844515240 tw9642824919935745864 tw9670947085400860660 tw9698461022882593413 tw9717197797374420742 tw9721522478772956540 tw9725793328527035688 tw975187601699164364 tw9774927659922425341 tw984464664727490497 tw9849751007844749749 tw9877872153685555731 tw9906489963187508001 tw9926455388348743398 tw9959119647732962365 tw9972090961263973103 tw9995927171068230117:True)
open PySem PySem.W PyProof.Rows
set_option maxRecDepth 100000 in
set_option maxHeartbeats 0 in
theorem PySem.Challenge.cw_lackword_k83_shelf_refuses_and_copies_holds : PySem.Challenge.rw_lackword_k83_shelf_refuses_and_copies.Holds := by
 w_on;o_law;k_head;(case hw=>w_witness2)
 k_fill
 refine L2.walk_ofT (l:=PySem.Challenge.rw_lackword_k83_shelf_refuses_and_copies) (n:=63) (k:=10) (x:="_law_script") (CX:=L2.CX0) (sp:=Pk83.spLaw) ["in_order"] rfl (by decide) rfl ⟨rfl,by decide,by decide⟩ (λw h Y=>PySem.W.km_in_of Y) (λ_=>by kernel_rfl) (by kernel_rfl) ?F ?S ?C
 case F=>
  intro w mg fa h tb KX G hmg hT;have T:∃t,Pk83.Txt (L2.KOf KX) mg t/\t.t_LD=(tb "in_order").2/\t.k_LD=(tb "in_order").1:=by
   dsimp only[L2.KOf];apply Pk83.txt_mk (t_LD:=(tb "in_order").2) (k_LD:=(tb "in_order").1) KX G
   (apply L2.xg_mk;(iterate 2 k_is);rfl;(iterate 10 k_is);rfl;rfl)
   iterate 4 k_is
   (apply L2.xg_mk;(iterate 2 k_is);rfl;(iterate 10 k_is);rfl;rfl)
   k_is
   (apply L2.mg_mk;iterate 4 k_is)
   k_is
   (apply L2.xg_mk;(iterate 2 k_is);rfl;(iterate 10 k_is);rfl;rfl)
   k_is
   (apply L2.mg_mk;iterate 4 k_is)
   k_is
   (apply L2.xg_mk;(iterate 2 k_is);rfl;(iterate 10 k_is);rfl;rfl)
   k_is
   (apply L2.mg_mk;iterate 4 k_is)
   k_is
   (apply L2.xg_mk;(iterate 2 k_is);rfl;(iterate 10 k_is);rfl;rfl)
   k_is
   (apply L2.xg_mk;(iterate 2 k_is);rfl;(iterate 10 k_is);rfl;rfl)
   k_is
   (apply L2.xg_mk;(iterate 2 k_is);rfl;(iterate 10 k_is);rfl;rfl)
   k_is
   (apply L2.xg_mk;(iterate 2 k_is);rfl;(iterate 10 k_is);rfl;rfl)
   k_is
   (apply L2.xg_mk;(iterate 2 k_is);rfl;(iterate 10 k_is);rfl;rfl)
   iterate 41 k_is
   rfl;iterate 29 k_is
   rfl;iterate 21 k_is
   iterate 25 (apply L2.mg_mk;iterate 4 k_is)
   decide;iterate 30 (apply L2.dg_mk;iterate 4 k_is)
   iterate 16 k_is
  obtain⟨t,T,et_LD,ek_LD⟩:=T;have e0:=hmg.symm.trans T.m_law;cases e0;have cd_LD:t.d_LD.code=.ref t.k_LD:=by obtain⟨o,e1,e2⟩:=T.f_LD.at KX;rw[ek_LD];exact(hT "in_order" (by simp)).codeEq T.c5 e1 e2
  refine' ⟨_,?b,λbase kb nb hL=>Pk83.ok_law (tb:=tb) { T with L_in_order:=by rw[et_LD,ek_LD];exact hL "in_order" (by simp),cd_LD:=cd_LD,e_LD:=et_LD }⟩;exact T.bl
 case S=>exact λK tb H a ns hl hP hS=>⟨a,ns,rfl,hS,hl,L2.tbl_new (hP "in_order" (by simp)),λ_=>rfl⟩
 case C=>exact λ_ _ _ _ z=>z
#print axioms PySem.Challenge.cw_lackword_k83_shelf_refuses_and_copies_holds
