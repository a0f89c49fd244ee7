import PyProof.Rows.All
import Wide.All
import OpenK.AllK
import Wide.FinOn
import Lean
import PyProof.EqAt
import PyProof.EqKinds
import PyProof.TupleCall
import KE.KRevIter
import PyProof.SetRoads
import PyProof.Rows.SetFrom
import PyProof.StrWalks
import PyProof.FactsAll.set
import PyProof.FactsAll.subtypes_3
import PyProof.CollectWalk
import PyProof.CollectStr
import PyProof.StationsW
import PyProof.RulesAs
import KE.KTryMore
import PyProof.NsDelKeeps
import PyProof.ListStr
import PyProof.TupleOfStr
import PyProof.ConsumeS
import PyProof.ListNew
import KE.KEqDict
import PyProof.DictWalks
import PyProof.DictUpdate
import PyProof.DictDisplay
import KE.KLam
import PyProof.ListRange
import PyProof.Rows.StrNews2
import PyProof.Rows.Range3
import KE.KDictLaws
import KE.KDictList
import PyProof.DictRoadsH
import KE.KDictSum
import PyProof.DictItems
import PyProof.DictItemsLoops
import KE.KPairComp
import PySem.Challenge.RW_lackword_k91_whole_any_deeds
abbrev Q11:=List Nat
abbrev Q22:=List (List Nat)
abbrev Q33:=PySem.Value->PySem.Shared->Prop
abbrev Q44:=PySem.W.Frag
set_option Elab.async false
set_option linter.all false
def YAA:=@PySem.wpAny_bind
def YAB:=@List.length_map
def YAC:=@PySem.Heap.get?_push_of_some
def YAD:=@Bool.false_ne_true
def YAE:=@List.length_append
def YAF:=@PySem.wpAny_pure
def YAG:=@List.getElem?_eq_getElem
def YAH:=@Nat.le_refl
def YAI:=@List.getD_eq_getElem?_getD
def YAJ:=@Nat.le_trans
def YAK:=@List.getElem?_eq_some_iff
def YAL:=@if_neg
def YAM:=@List.size_toArray
def YAN:=@PySem.Heap.lt_size
def YAO:=@PySem.Heap.get?_push_size
def YAP:=@if_pos
def YAQ:=@PyProof.Rows.wpS_bind
def YAR:=@List.mem_singleton
def YAS:=@Array.length_toList
def YAT:=@List.mem_of_getElem?
def YAU:=@List.mem_cons
def YAV:=@Bool.and_eq_true
def YAW:=@List.getElem?_map
def YAX:=@PySem.W.mg_of
def YAY:=@List.mem_cons_of_mem
def YAZ:=@List.mem_append
def YAa:=@PyProof.Rows.wpS_pure
def YAb:=@Nat.lt_of_lt_of_le
def YAc:=@List.length_take
def YAd:=@Nat.ne_of_lt
def YAe:=@List.length_filter_le
def YAf:=@List.mem_of_mem_take
def YAg:=@List.length_singleton
def YAh:=@List.mem_of_mem_drop
def YAi:=@List.mem_cons_self
def YAj:=@List.length_drop
def YAk:=@List.length_cons
def YAl:=@List.getElem?_append_left
def YAm:=@List.take_of_length_le
def YAn:=@List.getElem?_append_right
def YAo:=@List.mem_map
def YAp:=@PySem.PassesOwn.never
def YAq:=@Nat.zero_le
def YAr:=@List.map_cons
def YAs:=@Array.getElem?_toList
def YAt:=@List.append_assoc
def YAu:=@List.mem_range
def YAv:=@Ne.symm
def YAw:=@PySem.Heap.SameBut.update
def YAx:=@List.length_dropLast
def YAy:=@List.take_append_drop
def YAz:=@Nat.lt_irrefl
def YBA:=@List.map_append
def YBB:=@List.map_map
def YBC:=@List.drop_append_of_le_length
def YBD:=@List.length_range
def YBE:=@PySem.W.mg_none_of
def YBF:=@Array.toList_extract
def YBG:=@List.getElem?_eq_none
def YBH:=@Array.toList_append
def YBI:=@List.drop_eq_nil_of_le
def YBJ:=@List.take_length
def YBK:=@PySem.W.kia_one
def YBL:=@List.mem_append_right
def YBM:=@PySem.wpAny_holding
def YBN:=@PySem.F.plainAttrs_list
def YBO:=@List.take_append_of_le_length
def YBP:=@List.mem_filter
def YBQ:=@List.all_eq_true
def YBR:=@Bool.eq_iff_iff
def YBS:=@List.pairwise_append
def YBT:=@PySem.Around.under_plainId
def YBU:=@List.pairwise_cons
def YBV:=@List.filter_append
def YBW:=@PyProof.Rows.wpS_forRange
def YBX:=@List.range_succ
def YBY:=@List.length_pos_iff
def YBZ:=@List.getElem_of_mem
def YBa:=@List.any_eq_true
def YBb:=@PySem.Heap.size_push
def YBc:=@PySem.wpAny_truthy_bool
def YBd:=@Array.toList_push
def YBe:=@PySem.Calls.spliced_cons
def YBf:=@List.nodup_cons
def YBg:=@List.drop_zero
def YBh:=@List.mem_reverse
def YBi:=@List.getLast?_eq_some_getLast
def YBj:=@List.mem_map_of_mem
def YBk:=@PySem.F.type_list_append
def YBl:=@PySem.F.slot_list_append
def YBm:=@List.pairwise_map
def YBn:=@Bool.false_and
def YBo:=@List.length_eq_zero_iff
def YBp:=@PySem.wpAny_mono
def YBq:=@PySem.mem_of_lookup
def YBr:=@List.drop_drop
def YBs:=@Nat.min_eq_left
def YBt:=@PySem.Heap.get?_update_self
def YBu:=@PySem.wpAny_Call_Name_kw
def YBv:=@List.lookup_cons
def YBw:=@List.getElem_mem
def YBx:=@List.ext_getElem
def YBy:=@List.dropLast_concat
def YBz:=@List.dropLast_concat_getLast
def YCA:=@PySem.wpAny_newObj_type
def YCB:=@List.take_sublist
def YCC:=@List.ext_getElem?
def YCD:=@Bool.eq_false_iff
def YCE:=@PyProof.Rows.callWith_type1
def YCF:=@List.append_nil
def YCG:=@PyProof.Rows.wpS_mono
def YCH:=@PySem.Heap.get?_update_other
def YCI:=@PySem.wpAny_rule
def YCJ:=@PySem.wpAny_setField
def YCK:=@List.take_zero
def YCL:=@List.take_take
def YCM:=@List.pairwise_iff_getElem
def YCN:=@Array.toArray_toList
def YCO:=@PyProof.Rows.wpS_modify
def YCP:=@List.take_add_one
def YCQ:=@List.nodup_append
def YCR:=@PySem.Calls.spliced_nil
def YCS:=@Nat.le_of_eq
def YCT:=@PySem.F.plainAttrs_str
def YCU:=@PySem.Calls.callWith_builtin
def YCV:=@List.getElem?_take
def YCW:=@List.getElem?_drop
def YCX:=@Bool.false_eq_true
def YCY:=@PySem.wpAny_passesOwn
def YCZ:=@Nat.sub_self
def YCa:=@List.dropLast_eq_take
def YCb:=@PySem.wpAny_setState_of
def YCc:=@Nat.lt_succ_of_lt
def YCd:=@Bool.true_and
def YCe:=@Array.perm_iff_toList_perm
def YCf:=@PySem.wpAny_call_entry
def YCg:=@PySem.wpAny_askSetting
def YCh:=@List.length_tail
def YCi:=@Nat.le_succ
def YCj:=@List.map_congr_left
def YCk:=@Nat.le_of_lt
def YCl:=@PySem.wpAny_attempt
def YCm:=@PySem.F.plainAttrs_dict
def YCn:=@Nat.lt_of_le_of_lt
def YCo:=@List.nil_append
def YCp:=@List.foldl_cons
def YCq:=@List.find?_cons
def YCr:=@Int.emod_nonneg
def YCs:=@Int.emod_lt_of_pos
def YCt:=@PySem.wpAny_pyIter_list
def YCu:=@Nat.not_lt
def YCv:=@List.flatten_cons
def YCw:=@Bool.and_false
def YCx:=@PySem.wpAny_typeOf
def YCy:=@PySem.W.methodCall_KW
def YCz:=@List.set_set
def YDA:=@List.mem_iff_getElem?
def YDB:=@List.map_nil
def YDC:=@Classical.choose_spec
def YDD:=@PySem.W.any_some
def YDE:=@Option.bind_some
def YDF:=@Nat.lt_succ_self
def YDG:=@List.mem_flatMap
def YDH:=@List.filter_cons
def YDI:=@List.eq_nil_of_length_eq_zero
def YDJ:=@List.cons_append
def YDK:=@PySem.Calls.evalArgs_plain
def YDL:=@PySem.wpAny_newList
def YDM:=@PyProof.Rows.wpS_get
def YDN:=@PySem.wpAny_updateSeq
def YDO:=@PySem.wpAny_specialOf
def YDP:=@Option.map_some
def YDQ:=@List.length_nil
def YDR:=@List.forIn_cons
def YDS:=@List.flatMap_append
def YDT:=@List.filter_map
def YDU:=@List.filter_eq_self
def YDV:=@List.length_eraseIdx_of_lt
def YDW:=@Array.toList_setIfInBounds
def YDX:=@PySem.W.callWith_K
def YDY:=@List.drop_eq_getElem_cons
def YDZ:=@PySem.wpAny_Call_method
def YDa:=@List.reverse_perm
def YDb:=@List.Pairwise.imp_of_mem
def YDc:=@PySem.F.plain_list_iadd
def YDd:=@PyProof.Rows.wpS_lift
set_option maxRecDepth 100000
namespace L2
open PySem PySem.Spec PyProof.Rows
abbrev Key:=Sum Int Str
noncomputable def Zev:Key->Value->Bool
 | .inl k,v=>Value.isInt k v
 | .inr x,v=>Value.isStrOf x v
noncomputable def keyH (w:World):Key->Int
 | .inl k=>hashInt k
 | .inr x=>hashStr w x
theorem ZaQ:∀ {k:Key} {v:Value},Zev k v=true->(∃i t,k=Sum.inl i/\v=Value.int i t)\/(∃x t,k=Sum.inr x/\v=Value.str x t)
 | .inl i,v,h=>by
  obtain⟨t,e⟩:=Value.isInt_shape (k:=i) (v:=v) h
  exact .inl ⟨i,t,rfl,e⟩
 | .inr x,v,h=>by
  obtain⟨t,e⟩:=Value.isStrOf_shape (x:=x) (v:=v) h
  exact .inr ⟨x,t,rfl,e⟩
theorem ZiM (i:Int)(t:Tok):Zev (.inl i) (.int i t)=true:=by simp[Zev,Value.isInt]
theorem ZiL (x:Str)(t:Tok):Zev (.inr x) (.str x t)=true:=by simp[Zev,Value.isStrOf]
theorem Znw (a b:Int):decide ((Sum.inl a:Key)=Sum.inl b)=(a == b):=by
 by_cases e:a=b
 .subst e;simp
 .have h:¬(Sum.inl a:Key)=Sum.inl b:=fun q=>e (Sum.inl.inj q)
  rw[decide_eq_false h]
  exact(beq_eq_false_iff_ne.mpr e).symm
theorem Znt (a b:Str):decide ((Sum.inr a:Key)=Sum.inr b)=decide (a=b):=by
 by_cases e:a=b
 .subst e;simp
 .have h:¬(Sum.inr a:Key)=Sum.inr b:=fun q=>e (Sum.inr.inj q)
  rw[decide_eq_false h,decide_eq_false e]
theorem Znv (a:Int)(b:Str):decide ((Sum.inl a:Key)=Sum.inr b)=false:=decide_eq_false (fun q=>nomatch q)
theorem Znu (a:Str)(b:Int):decide ((Sum.inr a:Key)=Sum.inl b)=false:=decide_eq_false (fun q=>nomatch q)
noncomputable def Zaq (prog:Program)(w:World):PySem.KeyKind prog w Key where
 is:=Zev
 hash:=keyH w
 inj:=fun v a b ha hb=>by
  rcases ZaQ ha with⟨i,t,rfl,rfl⟩|⟨x,t,rfl,rfl⟩
  .rcases ZaQ hb with⟨j,u,rfl,e⟩|⟨y,u,rfl,e⟩
   .injection e with e1 _;rw[e1]
   .exact nomatch e
  .rcases ZaQ hb with⟨j,u,rfl,e⟩|⟨y,u,rfl,e⟩
   .exact nomatch e
   .injection e with e1 _;rw[e1]
 byValue:=fun k v h=>by
  rcases ZaQ h with⟨i,t,rfl,rfl⟩|⟨x,t,rfl,rfl⟩<;>rfl
 pyHash:=fun hv h=>by
  rcases ZaQ hv with⟨i,t,rfl,rfl⟩|⟨x,t,rfl,rfl⟩
  .exact wpAny_pyHash_int h
  .exact wpAny_pyHash_str h
 eqBool:=fun hu hv h=>by
  rcases ZaQ hu with⟨i,t,rfl,rfl⟩|⟨x,t,rfl,rfl⟩
  .rcases ZaQ hv with⟨j,u,rfl,rfl⟩|⟨y,u,rfl,rfl⟩
   .rw[Znw]at h;exact wpAny_eqBool_int h
   .rw[Znv]at h;exact SeqAt.EqAt.int_str i t y u _ _ _ _ h
  .rcases ZaQ hv with⟨j,u,rfl,rfl⟩|⟨y,u,rfl,rfl⟩
   .rw[Znu]at h;exact SeqAt.EqAt.str_int x t j u _ _ _ _ h
   .rw[Znt]at h;exact wpAny_eqBool_str h
 «strs»:=fun k x t v h=>by
  rcases ZaQ h with⟨i,u,rfl,e⟩|⟨y,u,rfl,e⟩
  .exact nomatch e
  .injection e with e1 _
   subst e1
   cases v<;>rfl
theorem Zf2 (prog:Program)(w:World)(i:Int)(t:Tok):(Zaq prog w).is (.inl i) (.int i t)=true:=ZiM i t
theorem Zdy (prog:Program)(w:World)(x:Str)(t:Tok):(Zaq prog w).is (.inr x) (.str x t)=true:=ZiL x t
inductive V where
 | non | bl (b:Bool) | int (i:Int) | str (x:Str) | byt (b:Array UInt8) | flt (b:UInt64) | ref (a:Addr) | ty (n:String)
 deriving DecidableEq
def RelV:V->Value->Prop
 | .non,u=>u=Value.none
 | .bl b,u=>u=Value.bool b
 | .int i,u=>∃t,u=Value.int i t
 | .str x,u=>∃t,u=Value.str x t
 | .byt b,u=>∃t,u=Value.bytes b t
 | .flt b,u=>∃t,u=Value.float b t
 | .ref a,u=>u=Value.ref a
 | .ty n,u=>u=Value.type n
abbrev Vals:List V->List Value->Prop:=Paired RelV
theorem Vals.length {xs:List V}{us:List Value}(r:Vals xs us):xs.length=us.length:=Paired.length r
theorem Vals.get:∀ {xs:List V} {us:List Value} {i:Nat} {x:V},Vals xs us->xs[i]?=some x->∃u,us[i]?=some u/\RelV x u
 | _,_,_,_,.nil,e=>by simp at e
 | _,_,0,_,.cons r _,e=>by simp at e;subst e;exact⟨_,rfl,r⟩
 | _,_,i+1,x,.cons _ t,e=>by
  obtain⟨u,h1,h2⟩:=Vals.get (i:=i) (x:=x) t (by simpa using e)
  exact⟨u,by simpa using h1,h2⟩
theorem Vals.append:∀ {xs ys:List V} {us ws:List Value},Vals xs us->Vals ys ws->Vals (xs++ys) (us++ws)
 | _,_,_,_,.nil,s=>s
 | _,_,_,_,.cons r t,s=>.cons r (Vals.append t s)
theorem Vals.take:∀ {xs:List V} {us:List Value} (n:Nat),Vals xs us->Vals (xs.take n) (us.take n)
 | _,_,0,_=>.nil
 | _,_,_+1,.nil=>.nil
 | _,_,n+1,.cons r t=>.cons r (Vals.take n t)
theorem Vals.drop:∀ {xs:List V} {us:List Value} (n:Nat),Vals xs us->Vals (xs.drop n) (us.drop n)
 | _,_,0,r=>r
 | _,_,_+1,.nil=>.nil
 | _,_,n+1,.cons _ t=>Vals.drop n t
def RelO:Option V->Option Value->Prop
 | some v,some u=>RelV v u
 | none,none=>True
 | _,_=>False
def KV {κ:Type}:List (κ×V)->List (κ×Value)->Prop:=Paired fun (p:κ×V) (q:κ×Value)=>p.1=q.1/\RelV p.2 q.2
noncomputable def kV:Key->V
 | .inl i=>.int i
 | .inr x=>.str x
inductive HO where
 | lst (xs:List V)
 | tup (xs:List V)
 | dK (kvs:List (Key×V)) | dT (kvs:List (List Key×V))
 | set (S:Int->Bool) (n:Nat)
 | ins (C dx:Addr) (fs:List (Str×V))
 | own (x:Addr)
 | xd (fs:List (Str×V))
 | met (f x:Addr)
 | rng (lo hi:Int)
 | frz (o:Obj) (u:HO)
 | tbl (ps:Array Value)
 | ext (φ:Heap->Prop)
abbrev Hp:=Addr->Option HO
noncomputable def upd (H:Hp)(a:Addr)(o:HO):Hp:=fun b=>if b=a then some o else H b
theorem Zad {H:Hp}{a:Addr}{o:HO}:upd H a o a=some o:=by unfold upd;rw[YAP rfl]
theorem Zac {H:Hp}{a b:Addr}{o:HO}(h:b≠a):upd H a o b=H b:=by unfold upd;rw[YAL h]
theorem Zp1 {H:Hp}{a b:Addr}{o u:HO}(h:H a=some o)(h':H b=some u)(d:o≠u):a≠b:=by
 intro e;subst e;rw[h]at h';exact d (Option.some.inj h')
theorem Zah {H:Hp}{a b:Addr}{o:HO}(h:H a=some o)(h':H b=none):a≠b:=by
 intro e;subst e;rw[h]at h';cases h'
section
variable (P:Program)(w:World)
def ObjOk (H:Hp)(h:Heap)(a:Addr):HO->Prop
 | .lst xs=>xs.length<=sizeLine/\∃(its:List Value) (n:Nat),Vals xs its/\h.get? a=some { cls:=.type "list",data:=.seq its.toArray n }
 | .tup xs=>xs.length<=sizeLine/\∃its:List Value,Vals xs its/\IsTup h a its.toArray
 | .dK kvs=>kvs.length<=sizeLine/\(a == sysModules)=false/\∃vs,KV kvs vs/\h.DictOf (Zaq P w) a vs
 | .dT kvs=>kvs.length<=sizeLine/\(a == sysModules)=false/\∃xs:List (List Key×Addr×Value),
   Paired (fun (p:List Key×V) (q:List Key×Addr×Value)=>p.1=q.1/\H q.2.1=some (.tup (p.1.map kV))/\RelV p.2 q.2.2) kvs xs /\
   ∃o es ep,h.get? a=some o/\o.ExactDict/\o.data=.dict es ep/\es.toList=xs.map (entryOfKey (tupleKind (Zaq P w)))/\(xs.map (·.1)).Nodup
 | .set S n=>h.SetOf (intKind P w) a S n
 | .ins C dx fs=>H dx=some (.own a)/\fs.length<=1000/\dx≠a/\h.get? a=some (PySem.W.instObj C dx) /\
   ∃mA,h.Ns1 dx mA/\(∀f,RelO (fs.lookup f) (mA f))/\PySem.Within mA (fs.map (·.1))
 | .own _=>∃o,h.get? a=some o
 | .xd fs=>∃mA,h.Ns1 a mA/\∀f,RelO (fs.lookup f) (mA f)
 | .rng lo hi=>∃t u v,h.get? a=some { cls:=.type "range",data:=.fields #[.int lo t,.int hi u,.int 1 v] }
 | .frz o u=>h.get? a=some o/\ObjOk H h a u
 | .tbl ps=>h.get? a=some { cls:=.none,data:=.fields ps }
 | .met f x=>h.get? a=some (PySem.W.methodObj (.ref f) (.ref x))
 | .ext φ=>φ h/\(∃o,h.get? a=some o)/\∀h1 h2:Heap,φ h1->(∀o,h1.get? a=some o->h2.get? a=some o)->φ h2
def HOk (H:Hp)(h:Heap):Prop:=∀a o,H a=some o->ObjOk P w H h a o
end
section
variable {P:Program}{w:World}{H H':Hp}{h h':Heap}{a:Addr}{o:HO}
theorem ObjOk.lt (x:ObjOk P w H h a o):a<h.objs.size:=by
 cases o with
 | lst xs=>obtain⟨_,_,_,_,e⟩:=x;exact YAN e
 | tup xs=>obtain⟨_,_,_,p⟩:=x;exact p.lt
 | dK kvs=>obtain⟨_,_,_,_,o,_,_,e,_⟩:=x;exact YAN e
 | dT kvs=>obtain⟨_,_,_,_,o,_,_,e,_⟩:=x;exact YAN e
 | set S n=>obtain⟨o,_,_,_,e,_⟩:=x;exact YAN e
 | ins C dx fs=>obtain⟨_,_,_,e,_⟩:=x;exact YAN e
 | own y=>obtain⟨_,e⟩:=x;exact YAN e
 | xd fs=>obtain⟨_,⟨_,_,_,e,_⟩,_⟩:=x;exact YAN e
 | rng lo hi=>obtain⟨_,_,_,e⟩:=x;exact YAN e
 | frz ob u=>obtain⟨e,_⟩:=x;exact YAN e
 | tbl ps=>exact YAN (show h.get? a=some _ from x)
 | met f y=>exact YAN (show h.get? a=some _ from x)
 | ext φ=>obtain⟨_,⟨_,e⟩,_⟩:=x;exact YAN e
theorem Paired.mapP {α β:Type}{F G:α->β->Prop}:∀ {l9:List α} {l_2:List β},Paired F l9 l_2->(∀a b,F a b->G a b)->Paired G l9 l_2
 | _,_,.nil,_=>.nil
 | _,_,.cons r t,f=>.cons (f _ _ r) (Paired.mapP t f)
theorem ObjOk.stay (x:ObjOk P w H h a o)(k:∀b u,(b=a\/H b=some (.own a))->h.get? b=some u->h'.get? b=some u)
  (ho:∀b,H b=some (.own a)->H' b=some (.own a)) (ht:∀b xs,H b=some (.tup xs)->H' b=some (.tup xs)):ObjOk P w H' h' a o:=by
 induction o with
 | lst xs=>obtain⟨z,its,n,r,e⟩:=x;exact⟨z,its,n,r,k _ _ (.inl rfl) e⟩
 | tup xs=>obtain⟨z,its,r,ob,e,c⟩:=x;exact⟨z,its,r,ob,k _ _ (.inl rfl) e,c⟩
 | dK kvs=>obtain⟨z,y,vs,r,ob,es,ep,e,c⟩:=x;exact⟨z,y,vs,r,ob,es,ep,k _ _ (.inl rfl) e,c⟩
 | dT kvs=>
  obtain⟨z,y,xs,r,ob,es,ep,e,c⟩:=x
  exact⟨z,y,xs,Paired.mapP r fun p q z=>⟨z.1,ht _ _ z.2.1,z.2.2⟩,ob,es,ep,k _ _ (.inl rfl) e,c⟩
 | set S n=>obtain⟨ob,es,ep,t,e,c⟩:=x;exact⟨ob,es,ep,t,k _ _ (.inl rfl) e,c⟩
 | ins C dx fs=>
  obtain⟨d,z,ne,e,mA,⟨od,es,ep,e2,c⟩,r⟩:=x
  exact⟨ho _ d,z,ne,k _ _ (.inl rfl) e,mA,⟨od,es,ep,k _ _ (.inr d) e2,c⟩,r⟩
 | own y=>obtain⟨ob,e⟩:=x;exact⟨ob,k _ _ (.inl rfl) e⟩
 | xd fs=>obtain⟨mA,⟨od,es,ep,e,c⟩,r⟩:=x;exact⟨mA,⟨od,es,ep,k _ _ (.inl rfl) e,c⟩,r⟩
 | rng lo hi=>obtain⟨t,u,v,e⟩:=x;exact⟨t,u,v,k _ _ (.inl rfl) e⟩
 | frz ob u ih=>obtain⟨e,q⟩:=x;exact⟨k _ _ (.inl rfl) e,ih q⟩
 | tbl ps=>
  have e:h.get? a=some { cls:=.none,data:=.fields ps }:=x
  show h'.get? a=some { cls:=.none,data:=.fields ps }
  exact k a _ (.inl rfl) e
 | met f y=>
  have e:h.get? a=some (PySem.W.methodObj (.ref f) (.ref y)):=x
  show h'.get? a=some (PySem.W.methodObj (.ref f) (.ref y))
  exact k a _ (.inl rfl) e
 | ext φ=>obtain⟨p,⟨o,e⟩,st⟩:=x;exact⟨st _ _ p fun o q=>k _ _ (.inl rfl) q,⟨o,k _ _ (.inl rfl) e⟩,st⟩
theorem HOk.lt (x:HOk P w H h)(e:H a=some o):a<h.objs.size:=(x a o e).lt
theorem HOk.fresh (x:HOk P w H h)(e:h.objs.size<=a):H a=none:=by
 cases q:H a with
 | none=>rfl
 | some u=>exact absurd (YAb (x.lt q) e) (YAz _)
theorem HOk.kept (x:HOk P w H h)(k:∀b u,h.get? b=some u->h'.get? b=some u):HOk P w H h':=fun a o e=>
 (x a o e).stay (fun b u _ q=>k b u q) (fun _ q=>q) fun _ _ q=>q
theorem HOk.laid (x:HOk P w H h)(k:∀b u,h.get? b=some u->h'.get? b=some u)(hp:h.objs.size<=a)(new:ObjOk P w (upd H a o) h' a o):HOk P w (upd H a o) h':=fun b u e=>by
 have hn:=x.fresh hp
 by_cases hb:b=a
 .subst hb;rw[Zad]at e;cases e;exact new
 .rw[Zac hb]at e
  exact(x b u e).stay (fun c v _ q=>k c v q) (fun c q=>by rw[Zac (Zah q hn)];exact q) fun c xs q=>by rw[Zac (Zah q hn)];exact q
end
def Rd (H:Hp)(a:Addr)(u:HO):Prop:=H a=some u\/∃o,H a=some (.frz o u)
theorem Rd.of {H:Hp}{a:Addr}{u:HO}(h:H a=some u):Rd H a u:=.inl h
theorem Rd.ok {P:Program}{w:World}{H:Hp}{h:Heap}{a:Addr}{u:HO}(r:Rd H a u)(x:HOk P w H h):ObjOk P w H h a u:=by
 rcases r with r | ⟨o,r⟩
 .exact x a u r
 .obtain⟨_,q⟩:=x a _ r
  exact q
def Mut:Option HO->Prop
 | some (.lst _)=>True
 | some (.dK _)=>True
 | some (.dT _)=>True
 | some (.set _ _)=>True
 | some (.ins _ _ _)=>True
 | some (.ext _)=>True
 | _=>False
section
variable {P:Program}{w:World}{H:Hp}{h h':Heap}{x e:Addr}{o':HO}
theorem HOk.write (ok:HOk P w H h)(mu:Mut (H x))(he:e=x\/H e=some (.own x))(k:∀b u,b≠e->h.get? b=some u->h'.get? b=some u)(heo:∃u,h'.get? e=some u)
  (new:ObjOk P w (upd H x o') h' x o'):HOk P w (upd H x o') h':=fun b u q=>by
 have nown:∀c y,H c=some (.own y)->c≠x:=fun c y r z=>by subst z;rw[r]at mu;exact mu
 have ntup:∀c xs,H c=some (.tup xs)->c≠x:=fun c xs r z=>by subst z;rw[r]at mu;exact mu
 by_cases hb:b=x
 .subst hb;rw[Zad]at q;cases q;exact new
 .rw[Zac hb]at q
  by_cases hbe:b=e
  .have q':H b=some (.own x):=by
    rcases he with z | z
    .exact absurd (hbe.trans z) hb
    .rw[hbe];exact z
   rw[q]at q';cases q'
   obtain⟨v,hv⟩:=heo
   exact⟨v,by rw[hbe];exact hv⟩
  .refine(ok b u q).stay (fun c v hc r=>k c v ?_ r) (fun c r=>by rw[Zac (nown c b r)];exact r) fun c xs r=>by rw[Zac (ntup c xs r)];exact r
   rcases hc with rfl | hc
   .exact hbe
   .rintro rfl
    rcases he with z | z
    .exact nown c b hc z
    .rw[hc]at z;cases z;exact hb rfl
end
structure Un (fs ex:List Addr)(H H':Hp)(h h':Heap):Prop where
 keep:∀b o,h.get? b=some o->H b=none->b∉fs->b∉ex->h'.get? b=some o
 slot:∀b o,h.get? b=some o->H b=none->b∈fs->b∉ex->∃sl,h'.get? b=some { o with slots:=sl }
 free:∀b o,h.get? b=some o->H b=none->b∉ex->H' b=none
 there:∀b o,h.get? b=some o->b∉ex->∃o',h'.get? b=some o'
 tups:∀b xs,H b=some (.tup xs)->H' b=some (.tup xs)
 frzs:∀b o u,H b=some (.frz o u)->H' b=some (.frz o u)
 tbls:∀b ps,H b=some (.tbl ps)->∃more,H' b=some (.tbl (ps++more))
section
variable {fs fs' ex ex':List Addr}{H H1 H2:Hp}{h h1 h2 h':Heap}{a x e:Addr}{o:HO}
theorem Un.any (u:Un fs ex H H1 h h1){b:Addr}{ob:Obj}(q:h.get? b=some ob)(n:H b=none)(hx:b∉ex):∃sl,h1.get? b=some { ob with slots:=sl }:=by
 by_cases hb:b∈fs
 .exact u.slot b ob q n hb hx
 .exact⟨ob.slots,u.keep b ob q n hb hx⟩
theorem Un.trans (a:Un fs ex H H1 h h1)(b:Un fs ex H1 H2 h1 h2):Un fs ex H H2 h h2 where
 keep:=fun c ob q n hc hx=>b.keep c ob (a.keep c ob q n hc hx) (a.free c ob q n hx) hc hx
 slot:=fun c ob q n hc hx=>by
  obtain⟨sl,e1⟩:=a.slot c ob q n hc hx
  obtain⟨sl',e2⟩:=b.slot c _ e1 (a.free c ob q n hx) hc hx
  exact⟨sl',e2⟩
 free:=fun c ob q n hx=>by
  obtain⟨o',e1⟩:=a.there c ob q hx
  exact b.free c o' e1 (a.free c ob q n hx) hx
 there:=fun c ob q hx=>by
  obtain⟨o',e1⟩:=a.there c ob q hx
  exact b.there c o' e1 hx
 tups:=fun c xs q=>b.tups c xs (a.tups c xs q)
 frzs:=fun c ob xs q=>b.frzs c ob xs (a.frzs c ob xs q)
 tbls:=fun c ps q=>by
  obtain⟨m1,e1⟩:=a.tbls c ps q
  obtain⟨m2,e2⟩:=b.tbls c _ e1
  exact⟨m1++m2,by rw[e2,Array.append_assoc]⟩
theorem Un.kept (k:∀b u,h.get? b=some u->h'.get? b=some u):Un fs ex H H h h':=
 ⟨fun b ob q _ _ _=>k b ob q,fun b ob q _ _ _=>⟨ob.slots,k b ob q⟩,fun _ _ _ n _=>n,fun b ob q _=>⟨ob,k b ob q⟩,fun _ _ q=>q,fun _ _ _ q=>q,fun _ ps q=>⟨#[],by rw[q];simp⟩⟩
theorem Un.refl:Un fs ex H H h h:=Un.kept fun _ _ q=>q
theorem Un.laid (k:∀b u,h.get? b=some u->h'.get? b=some u)(hp:h.objs.size<=a)(hn:H a=none):Un fs ex H (upd H a o) h h' where
 keep:=fun b u q _ _ _=>k b u q
 slot:=fun b u q _ _ _=>⟨u.slots,k b u q⟩
 free:=fun b u q n _=>by rw[Zac (YAd (YAb (YAN q) hp))];exact n
 there:=fun b u q _=>⟨u,k b u q⟩
 tups:=fun b xs q=>by rw[Zac (Zah q hn)];exact q
 frzs:=fun b u xs q=>by rw[Zac (Zah q hn)];exact q
 tbls:=fun b ps q=>⟨#[],by rw[Zac (Zah q hn),q];simp⟩
theorem Un.write (mu:Mut (H x))(he:e=x\/H e=some (.own x))(k:∀b u,b≠e->h.get? b=some u->h'.get? b=some u)(heo:∃u,h'.get? e=some u):Un fs ex H (upd H x o) h h':=by
 have hx:∀b,H b=none->b≠x:=fun b n z=>by subst z;rw[n]at mu;exact mu
 have hb:∀b,H b=none->b≠e:=fun b n z=>by
  subst z
  rcases he with r | r
  .exact hx b n r
  .rw[n]at r;cases r
 have hm:∀b u,H b=some u->¬Mut (some u)->b≠x:=fun b u q nm z=>by subst z;rw[q]at mu;exact nm mu
 refine⟨fun b u q n _ _=>k b u (hb b n) q,fun b u q n _ _=>⟨u.slots,k b u (hb b n) q⟩,fun b u q n _=>by rw[Zac (hx b n)];exact n,fun b u q _=>?_,
  fun b xs q=>by rw[Zac (hm b _ q fun z=>z)];exact q,fun b u xs q=>by rw[Zac (hm b _ q fun z=>z)];exact q,fun b ps q=>⟨#[],by rw[Zac (hm b _ q fun z=>z),q];simp⟩⟩
 by_cases hbe:b=e
 .subst hbe;exact heo
 .exact⟨u,k b u hbe q⟩
end
noncomputable def trk (h:Heap)(H:Hp):List Addr:=(List.range h.objs.size).filter fun a=>(H a).isSome
noncomputable def hidT (h:Heap)(H:Hp):Heap:=PySem.W.hideAll h (trk h H)
theorem Zfm (h:Heap)(H:Hp):(hidT h H).objs.size=h.objs.size:=PySem.W.hideAll_size _ _
theorem ZgT {h:Heap}{H:Hp}{b:Addr}{o:Obj}(e:h.get? b=some o)(n:H b=none):(hidT h H).get? b=some o:=
 PySem.W.hideAll_get _ e fun hm=>by
  have q:(H b).isSome=true:=(YBP.mp hm).2
  rw[n]at q;simp at q
theorem Ziq {h:Heap}{H:Hp}{b:Addr}{o:Obj}(e:(hidT h H).get? b=some o):h.get? b=some o/\H b=none:=by
 have e':h.get? b=some o:=PySem.W.of_hideAll (trk h H) e
 refine⟨e',?_⟩
 cases q:H b with
 | none=>rfl
 | some x=>
  have hm:b∈trk h H:=YBP.mpr ⟨YAu.mpr (YAN e'),by simp[q]⟩
  have z:(hidT h H).get? b=none:=PySem.W.hideAll_none (trk h H) hm
  rw[z]at e;cases e
noncomputable def Zl7 (g h:Heap)(L:Addr):List (Addr×Obj):=(List.range h.objs.size).filterMap fun a=>if a=L\/(g.get? a).isSome=true then none else (h.get? a).map fun o=>(a,o)
noncomputable def rest (g h:Heap)(L d:Addr):List (Addr×Obj):=(Zl7 g h L).filter fun p=>decide (p.1≠d)
structure Mod (K:Q44)(mg:Str->Option Value)(base:Heap):Prop where
 kin:K.In base
 glob:base.Ns mainGlobals mg
 blt:∃mb,base.Ns builtinsNs mb/\∀x:Str,x≠"__name__"->mb x=bootBuiltins x
 nolimit:base.NoLimit
structure Cx where
 prog:Program
 w:World
 K:Q44
 mg:Str->Option Value
 base:Heap
 A:Around
 N:List Str
 s_0:Shared
 H_0:Hp
 env:Env
 outer:List Env
 stack:List Env
 ex:List Addr
 fn:Str->Bool
 calm:Bool
 pn:List (Addr×Obj)
 xe:Q33
noncomputable def frs (l:List Env):List Addr:=l.filterMap (·.frame)
noncomputable abbrev Cx.fs (X:Cx):List Addr:=frs X.outer
def Vis (sc:Scope)(x:Str):Prop:=sc.names.lookup x=some .local\/sc.names.lookup x=some .cell\/sc.names.lookup x=some .free
def Loc (sc:Scope)(x:Str):Prop:=sc.names.lookup x=some .local\/sc.names.lookup x=some .cell
def Look (env:Env)(h:Heap)(m:Str->Option Value)(x:Str)(u:Value):Prop:=
 (env.kindOf x=some .local/\m x=some u)\/((env.kindOf x=some .cell\/env.kindOf x=some .free)/\∃c,env.cells.lookup x=some c/\h.IsCell c (some u))
structure Cx.Ok (X:Cx):Prop where
 mod:Mod X.K X.mg X.base
 kind:X.env.scope.kind=.function
 glob:X.env.globals=mainGlobals
 blt:X.env.builtins=builtinsNs
 above:X.s_0.heap.objs.size<=X.env.locals
 inj:∀x y c,X.env.cells.lookup x=some c->X.env.cells.lookup y=some c->x=y
 has:∀x,(X.env.kindOf x=some .cell\/X.env.kindOf x=some .free)->∃c,X.env.cells.lookup x=some c
 cab:∀x c,X.fn x=true->X.env.cells.lookup x=some c->X.s_0.heap.objs.size<=c
 hd:X.calm=true->X.A.handled=none
 frames:X.A.frames=some X.stack
 stk:X.stack=X.outer\/(X.stack=X.env::X.outer/\X.env.frame=some X.env.locals)
 exf:∀b∈X.ex,b≠X.env.locals/\∀x c,X.env.cells.lookup x=some c->c≠b
 bs:∀b o,X.base.get? b=some o->X.s_0.heap.get? b=some o/\X.H_0 b=none
 bsz:X.base.objs.size<=X.s_0.heap.objs.size
 noex:∀b o,X.base.get? b=some o->b∉X.ex
 exfs:∀b∈X.ex,b∉X.fs
 funs:X.s_0.heap.FunFrames X.base X.outer
 frf:∀b∈X.fs,X.H_0 b=none
structure Inv (X:Cx)(pins:List (Addr×Obj))(U:List (Option V))(H:Hp)(s:Shared):Prop where
 ok:X.Ok
 os:s.os=X.s_0.os
 bare:AllBare s.gens
 base:Un X.fs X.ex X.H_0 H X.s_0.heap s.heap
 loc:∃m,s.heap.Ns X.env.locals m/\∀(i:Nat) (x:Str) (v:V),X.N[i]?=some x->U[i]?=some (some v)->Vis X.env.scope x->∃u,RelV v u/\Look X.env s.heap m x u
 cell:∀x c,X.env.cells.lookup x=some c->∃v,s.heap.IsCell c v
 free:H X.env.locals=none
 freeC:∀x c,X.env.cells.lookup x=some c->H c=none
 pin:∀p∈X.pn++pins,s.heap.get? p.1=some p.2/\H p.1=none/\p.1≠X.env.locals/\p.1∉X.fs/\∀v,p.2.data≠.cell v
 hok:HOk X.prog X.w H s.heap
 len:U.length=X.N.length
section
variable {X:Cx}{pins:List (Addr×Obj)}{U:List (Option V)}{H H':Hp}{s:Shared}{h':Heap}
theorem Cx.Ok.nofr (ok:X.Ok){b:Addr}{o:Obj}(e:X.base.get? b=some o):b∉X.fs:=fun hb=>by
 have:=(ok.funs.mem hb).1
 rw[e]at this;cases this
theorem Inv.bs (I:Inv X pins U H s):∀b o,X.base.get? b=some o->s.heap.get? b=some o/\H b=none:=fun b o e=>
 ⟨I.base.keep b o (I.ok.bs b o e).1 (I.ok.bs b o e).2 (I.ok.nofr e) (I.ok.noex b o e),I.base.free b o (I.ok.bs b o e).1 (I.ok.bs b o e).2 (I.ok.noex b o e)⟩
theorem Inv.bk (I:Inv X pins U H s):∀b o,X.base.get? b=some o->s.heap.get? b=some o:=fun b o e=>(I.bs b o e).1
theorem Inv.mod (I:Inv X pins U H s):Mod X.K X.mg X.base:=I.ok.mod
theorem Inv.kIn (I:Inv X pins U H s):X.K.In s.heap:=I.ok.mod.kin.keeps I.bk
theorem Inv.lt (I:Inv X pins U H s):X.env.locals<s.heap.objs.size:=let ⟨_,hn,_⟩:=I.loc;hn.lt
theorem Inv.sz (I:Inv X pins U H s):X.s_0.heap.objs.size<=s.heap.objs.size:=YAJ I.ok.above (YCk I.lt)
theorem Inv.nofs (I:Inv X pins U H s){a:Addr}(h:s.heap.objs.size<=a):a∉X.fs:=fun hb=>by
 obtain⟨_,o,ho,_⟩:=I.ok.funs.mem hb
 exact absurd (YAb (YAN ho) (YAJ I.sz h)) (YAz _)
theorem Inv.cne (I:Inv X pins U H s):∀x c,X.env.cells.lookup x=some c->c≠X.env.locals:=fun x c e z=>by
 obtain⟨v,o,ho,hd⟩:=I.cell x c e
 obtain⟨m,⟨o',es,ep,ho',hd',_⟩,_⟩:=I.loc
 rw[z,ho']at ho;cases ho;rw[hd']at hd;cases hd
theorem Inv.funs (I:Inv X pins U H s):s.heap.FunFrames X.base X.outer:=by
 have all:∀(l:List Env),(∀b∈frs l,b∈X.fs)->X.s_0.heap.FunFrames X.base l->s.heap.FunFrames X.base l:=by
  intro l
  induction l with
  | nil=>intro _ _;trivial
  | cons env r ih=>
   intro hs hl
   obtain⟨hk,⟨L,o,hf,hn,ho,hd⟩,hr⟩:=hl
   have hL:L∈X.fs:=hs L (by unfold frs;rw[List.filterMap_cons,hf];exact YAi)
   obtain⟨sl,e⟩:=I.base.slot L o ho (I.ok.frf L hL) hL fun z=>I.ok.exfs L z hL
   exact⟨hk,⟨L,_,hf,hn,e,hd⟩,ih (fun b hb=>hs b (by unfold frs;rw[List.filterMap_cons,hf];exact YAY _ hb)) hr⟩
 exact all X.outer (fun _ hb=>hb) I.ok.funs
theorem Inv.stack (I:Inv X pins U H s):s.heap.FunFrames X.base X.stack:=by
 rcases I.ok.stk with e | ⟨e,hf⟩
 .rw[e];exact I.funs
 .rw[e]
  obtain⟨m,hn,_⟩:=I.loc
  refine .cons (by rw[I.ok.kind];decide) hf hn ?_ I.funs
  exact Heap.get?_none_of_le (YAJ I.ok.bsz I.ok.above)
theorem Inv.stkSub (I:Inv X pins U H s):∀b∈frs X.stack,b∈X.env.locals::X.fs:=fun b hb=>by
 rcases I.ok.stk with e | ⟨e,hf⟩
 .rw[e]at hb;exact YAY _ hb
 .rw[e]at hb
  unfold frs at hb
  rw[List.filterMap_cons,hf]at hb
  exact hb
theorem Inv.stkFree (I:Inv X pins U H s):∀b∈frs X.stack,H b=none:=fun b hb=>by
 rcases YAU.mp (I.stkSub b hb) with e | hb
 .rw[e];exact I.free
 .obtain⟨_,o,ho,_⟩:=I.ok.funs.mem hb
  exact I.base.free b o ho (I.ok.frf b hb) fun z=>I.ok.exfs b z hb
theorem Inv.step {g':Array GenState}{t':Nat}{d':Drawn}{ch:List Addr}(I:Inv X pins U H s)
  (hch:∀b∈ch,(b∈X.ex\/X.s_0.heap.objs.size<=b)/\b≠X.env.locals/\(∀x c,X.env.cells.lookup x=some c->c≠b)/\∀p∈X.pn++pins,p.1≠b)
  (keep:∀b o,b≠X.env.locals->b∉X.fs->b∉ch->s.heap.get? b=some o->H b=none->h'.get? b=some o)
  (slot:∀b o,b≠X.env.locals->b∈X.fs->b∉ch->s.heap.get? b=some o->H b=none->∃sl,h'.get? b=some { o with slots:=sl }) (free:∀b o,b∉ch->s.heap.get? b=some o->H b=none->H' b=none)
  (there:∀b o,b∉ch->s.heap.get? b=some o->∃o',h'.get? b=some o')
  (tups:∀b xs,H b=some (.tup xs)->H' b=some (.tup xs)) (frzs:∀b o u,H b=some (.frz o u)->H' b=some (.frz o u)) (tbls:∀b ps,H b=some (.tbl ps)->∃more,H' b=some (.tbl (ps++more)))
  (ns:∀m,s.heap.Ns X.env.locals m->h'.Ns X.env.locals m) (hok:HOk X.prog X.w H' h') (hg:AllBare g'):
  Inv X pins U H' { s with heap:=h',gens:=g',drawn:=d',toks:=t' }:=by
 have neL:∀b o,X.s_0.heap.get? b=some o->b≠X.env.locals:=fun b o e=>YAd (YAb (YAN e) I.ok.above)
 have neC:∀b o,X.s_0.heap.get? b=some o->b∉X.ex->b∉ch:=fun b o e hx hb=>by
  rcases (hch b hb).1 with z | z
  .exact hx z
  .exact absurd (YAb (YAN e) z) (YAz _)
 have cellK:∀x c,X.env.cells.lookup x=some c->∀v,s.heap.IsCell c v->h'.IsCell c v:=fun x c e v ⟨o,ho,hd⟩=>by
  have nch:c∉ch:=fun z=>(hch c z).2.2.1 x c e rfl
  by_cases hc:c∈X.fs
  .obtain⟨sl,q⟩:=slot c o (I.cne x c e) hc nch ho (I.freeC x c e)
   exact⟨_,q,hd⟩
  .exact⟨o,keep c o (I.cne x c e) hc nch ho (I.freeC x c e),hd⟩
 refine⟨I.ok,I.os,hg,⟨fun b o e n hb hx=>?_,fun b o e n hb hx=>?_,fun b o e n hx=>?_,fun b o e hx=>?_,fun b xs e=>tups b xs (I.base.tups b xs e),fun b o xs e=>frzs b o xs (I.base.frzs b o xs e),fun b ps e=>?_⟩,?_,fun x c e=>?_,?_,fun x c e=>?_,fun p hp=>?_,hok,I.len⟩
 .exact keep b o (neL b o e) hb (neC b o e hx) (I.base.keep b o e n hb hx) (I.base.free b o e n hx)
 .obtain⟨sl,e1⟩:=I.base.slot b o e n hb hx
  obtain⟨sl',e2⟩:=slot b _ (neL b o e) hb (neC b o e hx) e1 (I.base.free b o e n hx)
  exact⟨sl',e2⟩
 .obtain⟨o',e1⟩:=I.base.there b o e hx
  exact free b o' (neC b o e hx) e1 (I.base.free b o e n hx)
 .obtain⟨o',e1⟩:=I.base.there b o e hx
  exact there b o' (neC b o e hx) e1
 .obtain⟨m1,e1⟩:=I.base.tbls b ps e
  obtain⟨m2,e2⟩:=tbls b _ e1
  exact⟨m1++m2,by rw[e2,Array.append_assoc]⟩
 .obtain⟨m,hn,hl⟩:=I.loc
  refine⟨m,ns m hn,fun i x v e1 e2 e3=>?_⟩
  obtain⟨u,r,l⟩:=hl i x v e1 e2 e3
  refine⟨u,r,?_⟩
  rcases l with l | ⟨k,c,e,z⟩
  .exact .inl l
  .exact .inr ⟨k,c,e,cellK x c e _ z⟩
 .obtain⟨v,z⟩:=I.cell x c e
  exact⟨v,cellK x c e v z⟩
 .obtain⟨m,⟨o,_,_,ho,_⟩,_⟩:=I.loc
  exact free _ o (fun z=>(hch _ z).2.1 rfl) ho I.free
 .obtain⟨v,o,ho,hd⟩:=I.cell x c e
  exact free c o (fun z=>(hch c z).2.2.1 x c e rfl) ho (I.freeC x c e)
 .obtain⟨e,n,ne,nf,d⟩:=I.pin p hp
  have nch:p.1∉ch:=fun z=>(hch p.1 z).2.2.2 p hp rfl
  exact⟨keep p.1 p.2 ne nf nch e n,free p.1 p.2 nch e n,ne,nf,d⟩
theorem Inv.un {t':Nat}(I:Inv X pins U H s)(u:Un X.fs [] H H' s.heap h')(hok:HOk X.prog X.w H' h'):Inv X pins U H' { s with heap:=h',toks:=t' }:=by
 obtain⟨m,⟨o,es,ep,ho,r⟩,_⟩:=id I.loc
 obtain⟨sl,hL⟩:=u.any ho I.free (by simp)
 exact I.step (g':=s.gens) (d':=s.drawn) (ch:=[]) (fun _ z=>nomatch z) (fun b o _ hb _ e n=>u.keep b o e n hb (by simp)) (fun b o _ hb _ e n=>u.slot b o e n hb (by simp)) (fun b o _ e n=>u.free b o e n (by simp)) (fun b o _ e=>u.there b o e (by simp)) u.tups u.frzs u.tbls (fun m' hm=>by
  obtain⟨o',es',ep',ho',r'⟩:=hm
  rw[ho]at ho';cases ho'
  exact⟨_,es',ep',hL,r'⟩) hok I.bare
theorem Inv.call {g':Array GenState}{t':Nat}{d':Drawn}{ch:List Addr}(I:Inv X pins U H s)(u:Un (frs X.stack) ch H H' s.heap h')(hok:HOk X.prog X.w H' h')(hg:AllBare g')
  (hch:∀b∈ch,(b∈X.ex\/X.s_0.heap.objs.size<=b)/\b≠X.env.locals/\(∀x c,X.env.cells.lookup x=some c->c≠b)/\∀p∈X.pn++pins,p.1≠b):
  Inv X pins U H' { s with heap:=h',gens:=g',drawn:=d',toks:=t' }:=by
 obtain⟨m,⟨o,es,ep,ho,r⟩,_⟩:=id I.loc
 obtain⟨sl,hL⟩:=u.any ho I.free fun z=>(hch _ z).2.1 rfl
 exact I.step (ch:=ch) hch (fun b o hL hb hc e n=>u.keep b o e n (fun z=>(YAU.mp (I.stkSub b z)).elim hL hb) hc) (fun b o _ _ hc e n=>u.any e n hc) (fun b o hc e n=>u.free b o e n hc) (fun b o hc e=>u.there b o e hc) u.tups u.frzs u.tbls (fun m' hm=>by
  obtain⟨o',es',ep',ho',r'⟩:=hm
  rw[ho]at ho';cases ho'
  exact⟨_,es',ep',hL,r'⟩) hok hg
theorem Inv.turned {t':Nat}{it:Addr}(I:Inv X pins U H s)(k:∀b o,b≠it->s.heap.get? b=some o->h'.get? b=some o)(hn:H it=none)(hL:it≠X.env.locals)
  (h1:it∈X.ex\/X.s_0.heap.objs.size<=it) (h2:∀x c,X.env.cells.lookup x=some c->c≠it) (h3:∀p∈X.pn++pins,p.1≠it):Inv X pins U H { s with heap:=h',toks:=t' }:=by
 have nit:∀b u,H b=some u->b≠it:=fun b u e z=>by rw[z,hn]at e;cases e
 refine I.step (g':=s.gens) (d':=s.drawn) (ch:=[it]) (fun b hb=>?_) (fun b o _ _ hc e _=>k b o (fun z=>hc (by simp[z])) e) (fun b o _ _ hc e _=>⟨o.slots,k b o (fun z=>hc (by simp[z])) e⟩) (fun _ _ _ _ n=>n)
  (fun b o hc e=>⟨o,k b o (fun z=>hc (by simp[z])) e⟩) (fun _ _ e=>e) (fun _ _ _ e=>e) (fun b ps e=>⟨#[],by rw[e];simp⟩) (fun m hm=>?_) (fun b u e=>?_) I.bare
 .have e:b=it:=by simpa using hb
  subst e
  exact⟨h1,hL,h2,h3⟩
 .obtain⟨o,es,ep,ho,r⟩:=hm
  exact⟨o,es,ep,k _ o (YAv hL) ho,r⟩
 .refine(I.hok b u e).stay (fun c v hc q=>k c v ?_ q) (fun _ q=>q) fun _ _ q=>q
  rcases hc with z | z
  .rw[z];exact nit b u e
  .exact nit c _ z
theorem Inv.tok (I:Inv X pins U H s)(t:Nat):Inv X pins U H { s with toks:=t }:=I.un (h':=s.heap) (t':=t) Un.refl I.hok
theorem Inv.kept {t':Nat}(I:Inv X pins U H s)(k:∀b u,s.heap.get? b=some u->h'.get? b=some u):Inv X pins U H { s with heap:=h',toks:=t' }:=I.un (Un.kept k) (I.hok.kept k)
theorem Inv.laid {a:Addr}{o:HO}{t':Nat}(I:Inv X pins U H s)(k:∀b u,s.heap.get? b=some u->h'.get? b=some u)(hp:s.heap.objs.size<=a)(new:ObjOk X.prog X.w (upd H a o) h' a o):
  Inv X pins U (upd H a o) { s with heap:=h',toks:=t' }:=I.un (Un.laid k hp (I.hok.fresh hp)) (I.hok.laid k hp new)
theorem Inv.write {x e:Addr}{o:HO}{t':Nat}(I:Inv X pins U H s)(mu:Mut (H x))(he:e=x\/H e=some (.own x))(k:∀b u,b≠e->s.heap.get? b=some u->h'.get? b=some u)(heo:∃u,h'.get? e=some u)
  (new:ObjOk X.prog X.w (upd H x o) h' x o):Inv X pins U (upd H x o) { s with heap:=h',toks:=t' }:=I.un (Un.write mu he k heo) (I.hok.write mu he k heo new)
theorem Inv.pins_of {pins':List (Addr×Obj)}(I:Inv X pins U H s)(h:∀p∈pins',s.heap.get? p.1=some p.2/\H p.1=none/\p.1≠X.env.locals/\p.1∉X.fs/\∀v,p.2.data≠.cell v):Inv X pins' U H s:=
 ⟨I.ok,I.os,I.bare,I.base,I.loc,I.cell,I.free,I.freeC,fun p hp=>(YAZ.mp hp).elim (fun z=>I.pin p (List.mem_append_left _ z)) (h p),I.hok,I.len⟩
theorem ZgK {N:List Str}(hN:N.Nodup){i j:Nat}{x:Str}(a:N[i]?=some x)(b:N[j]?=some x):i=j:=by
 obtain⟨h1,e1⟩:=YAK.mp a
 obtain⟨h2,e2⟩:=YAK.mp b
 exact(List.getElem_inj hN).mp (e1.trans e2.symm)
theorem ZeT {M:Model}{A:Around}{E:Q33}{i:Nat}{x:Str}{v:V}{u:Value}{Q:Unit->Shared->Prop}(I:Inv X pins U H s)(hN:X.N.Nodup)(hi:X.N[i]?=some x)(hx:Loc X.env.scope x)(r:RelV v u)
  (h:∀s',Inv X pins (U.set i (some v)) H s'->(∃a,Heap.SameBut a s.heap s'.heap/\(a=X.env.locals\/X.env.cells.lookup x=some a))->Q () s') (hf:X.fn x=true\/X.env.scope.names.lookup x=some .local:=by first | exact .inl rfl | exact .inr rfl | assumption):wpAny M A (storeName X.env x u) Q E s:=by
 obtain⟨m,hn,hl⟩:=id I.loc
 have hcls:(X.env.scope.kind == .class || (X.env.scope.kind == .module&&X.env.locals != X.env.globals))=false:=by rw[I.ok.kind];rfl
 have hiU:i<U.length:=by rw[I.len];exact(YAK.mp hi).1
 have cne:=I.cne
 have tracked:∀ {a:Addr} {h':Heap},(∃o,s.heap.get? a=some o/\H a=none)->Heap.SameBut a s.heap h'->HOk X.prog X.w H h':=fun {a h'} ha hs b ob e=>by
  obtain⟨_,_,hfree⟩:=ha
  refine(I.hok b ob e).stay (fun c w' hc q=>(hs.2 c ?_).trans q) (fun _ q=>q) fun _ _ q=>q
  rintro rfl
  rcases hc with rfl | hc
  .rw[hfree]at e;cases e
  .rw[hfree]at hc;cases hc
 rcases hx with hk | hk
 .refine wpAny_storeName_local hk hn (fun h' hn' hs=>?_) hcls
  obtain⟨oL,_,_,hoL,_⟩:=id hn
  refine h _ ⟨I.ok,I.os,I.bare,⟨fun b o e n hb hx=>?_,fun b o e n hb hx=>?_,I.base.free,fun b o e hx=>?_,I.base.tups,I.base.frzs,I.base.tbls⟩,⟨_,hn',fun j y v' e1 e2 e3=>?_⟩,fun y c e=>?_,I.free,I.freeC,fun p hp=>?_,tracked ⟨oL,hoL,I.free⟩ hs,by simpa using I.len⟩ ⟨_,hs,.inl rfl⟩
  .exact(hs.2 b (YAd (YAb (YAN e) I.ok.above))).trans (I.base.keep b o e n hb hx)
  .obtain⟨sl,e1⟩:=I.base.slot b o e n hb hx
   exact⟨sl,(hs.2 b (YAd (YAb (YAN e) I.ok.above))).trans e1⟩
  .obtain⟨o',e1⟩:=I.base.there b o e hx
   exact⟨o',(hs.2 b (YAd (YAb (YAN e) I.ok.above))).trans e1⟩
  .by_cases hj:j=i
   .subst hj
    rw[hi]at e1;cases e1
    rw[List.getElem?_set_self hiU]at e2
    cases e2
    exact⟨u,r,.inl ⟨hk,by simp⟩⟩
   .rw[List.getElem?_set_ne (YAv hj)]at e2
    obtain⟨u',r',q⟩:=hl j y v' e1 e2 e3
    refine⟨u',r',?_⟩
    rcases q with⟨k,e⟩|⟨k,c,e,z⟩
    .refine .inl ⟨k,?_⟩
     have:y≠x:=fun e=>hj (ZgK hN e1 (e▸hi))
     simp[this,e]
    .exact .inr ⟨k,c,e,z.sameBut hs (cne y c e)⟩
  .obtain⟨w',z⟩:=I.cell y c e
   exact⟨w',z.sameBut hs (cne y c e)⟩
  .obtain⟨e,n,ne,nf,d⟩:=I.pin p hp
   exact⟨(hs.2 p.1 ne).trans e,n,ne,nf,d⟩
 .have hfn:X.fn x=true:=by
   rcases hf with z | z
   .exact z
   .rw[z]at hk;cases hk
  obtain⟨c,hc⟩:=I.ok.has x (.inl hk)
  obtain⟨w',z⟩:=I.cell x c hc
  refine wpAny_storeName_cell I.ok.kind hk hc z (fun h' hc' hs=>?_)
  obtain⟨oc,hoc,hocd⟩:=id z
  refine h { s with heap:=h' } ⟨I.ok,I.os,I.bare,⟨fun b o e n hb hx=>?_,fun b o e n hb hx=>?_,I.base.free,fun b o e hx=>?_,I.base.tups,I.base.frzs,I.base.tbls⟩,⟨m,hn.sameBut hs (YAv (cne x c hc)),fun j y v' e1 e2 e3=>?_⟩,fun y c' e=>?_,I.free,I.freeC,fun p hp=>?_,tracked ⟨oc,hoc,I.freeC x c hc⟩ hs,by simpa using I.len⟩ ⟨c,hs,.inr hc⟩
  .exact(hs.2 b (YAd (YAb (YAN e) (I.ok.cab x c hfn hc)))).trans (I.base.keep b o e n hb hx)
  .obtain⟨sl,e1⟩:=I.base.slot b o e n hb hx
   exact⟨sl,(hs.2 b (YAd (YAb (YAN e) (I.ok.cab x c hfn hc)))).trans e1⟩
  .obtain⟨o',e1⟩:=I.base.there b o e hx
   exact⟨o',(hs.2 b (YAd (YAb (YAN e) (I.ok.cab x c hfn hc)))).trans e1⟩
  .by_cases hj:j=i
   .subst hj
    rw[hi]at e1;cases e1
    rw[List.getElem?_set_self hiU]at e2
    cases e2
    exact⟨u,r,.inr ⟨.inl hk,c,hc,hc'⟩⟩
   .rw[List.getElem?_set_ne (YAv hj)]at e2
    obtain⟨u',r',q⟩:=hl j y v' e1 e2 e3
    refine⟨u',r',?_⟩
    rcases q with q | ⟨k,c',e,z'⟩
    .exact .inl q
    .refine .inr ⟨k,c',e,z'.sameBut hs ?_⟩
     rintro rfl
     exact hj (ZgK hN e1 (I.ok.inj _ _ _ e hc▸hi))
  .by_cases hcc:c'=c
   .subst hcc;exact⟨_,hc'⟩
   .obtain⟨w2,z2⟩:=I.cell y c' e
    exact⟨w2,z2.sameBut hs hcc⟩
  .obtain⟨e,n,ne,nf,d⟩:=I.pin p hp
   refine⟨(hs.2 p.1 ?_).trans e,n,ne,nf,d⟩
   intro q
   rw[q,hoc]at e
   have q':oc=p.2:=Option.some.inj e
   exact d w' (by rw[<-q'];exact hocd)
theorem Zek {M:Model}{A:Around}{E:Q33}{i:Nat}{x:Str}{v:V}{u:Value}{Q:Unit->Shared->Prop}(I:Inv X pins U H s)(hN:X.N.Nodup)(hi:X.N[i]?=some x)(hx:Loc X.env.scope x)(r:RelV v u)
  (h:∀s',Inv X pins (U.set i (some v)) H s'->Q () s') (hf:X.fn x=true\/X.env.scope.names.lookup x=some .local:=by first | exact .inl rfl | exact .inr rfl | assumption):wpAny M A (storeName X.env x u) Q E s:=
 ZeT I hN hi hx r (fun s' I' _=>h s' I') hf
theorem Inv.call' {s':Shared}{ch:List Addr}(I:Inv X pins U H s)(ho:s'.os=s.os)(u:Un (frs X.stack) ch H H' s.heap s'.heap)(hok:HOk X.prog X.w H' s'.heap)(hg:AllBare s'.gens)
  (hch:∀b∈ch,(b∈X.ex\/X.s_0.heap.objs.size<=b)/\b≠X.env.locals/\(∀x c,X.env.cells.lookup x=some c->c≠b)/\∀p∈X.pn++pins,p.1≠b):Inv X pins U H' s':=by
 obtain⟨h',g',d',t',o'⟩:=s'
 have e:o'=s.os:=ho
 subst e
 exact I.call (g':=g') (t':=t') (d':=d') u hok hg hch
end
abbrev XK:=Value->Option Addr->Hp->Prop
abbrev St:=List (Option V)
abbrev VK:=V->Hp->Prop
abbrev TE:=St->Hp->VK->Prop
abbrev TT:=St->Hp->(Bool->Hp->Prop)->Prop
abbrev TA:=St->Hp->(List V->Hp->Prop)->Prop
structure Ends where
 nx:St->Hp->Prop
 rt:VK
 bk:St->Hp->Prop:=fun _ _=>False
 ct:St->Hp->Prop:=fun _ _=>False
abbrev TS:=Ends->St->Hp->Prop
def EP (X:Cx)(pins:List (Addr×Obj))(U:St)(Q:VK)(u:Value)(s':Shared):Prop:=∃v H',Inv X pins U H' s'/\RelV v u/\Q v H'
def TP (X:Cx)(pins:List (Addr×Obj))(U:St)(Q:Bool->Hp->Prop)(b:Bool)(s':Shared):Prop:=∃H',Inv X pins U H' s'/\Q b H'
def AP (X:Cx)(pins:List (Addr×Obj))(U:St)(Q:List V->Hp->Prop)(us:List Value)(s':Shared):Prop:=∃vs H',Inv X pins U H' s'/\Vals vs us/\Q vs H'
def SP (X:Cx)(pins:List (Addr×Obj))(D:Ends)(f:Flow)(s':Shared):Prop:=
 match f with
 | .next=>∃U' H',Inv X pins U' H' s'/\D.nx U' H'
 | .brk=>∃U' H',Inv X pins U' H' s'/\D.bk U' H'
 | .cont=>∃U' H',Inv X pins U' H' s'/\D.ct U' H'
 | .ret u=>∃v U' H',Inv X pins U' H' s'/\RelV v u/\D.rt v H'
def PE (X:Cx)(e:Expr)(t:TE):Prop:=
 ∀(pins:List (Addr×Obj)) (s:Shared) (U:St) (H:Hp) (Q:VK),Inv X pins U H s->t U H Q->wpAny (model X.prog X.w) X.A (eval e X.env) (EP X pins U Q) X.xe s
def PT (X:Cx)(e:Expr)(t:TT):Prop:=
 ∀(pins:List (Addr×Obj)) (s:Shared) (U:St) (H:Hp) (Q:Bool->Hp->Prop),Inv X pins U H s->t U H Q->wpAny (model X.prog X.w) X.A (isTrue e X.env (eval e X.env)) (TP X pins U Q) X.xe s
def PW (X:Cx)(e:Expr)(t:TT):Prop:=
 ∀(whole:Sem Value) (pins:List (Addr×Obj)) (s:Shared) (U:St) (H:Hp) (Q:Bool->Hp->Prop),Inv X pins U H s->t U H Q->wpAny (model X.prog X.w) X.A (isTrue e X.env whole) (TP X pins U Q) X.xe s
theorem PW.pt {X:Cx}{e:Expr}{t:TT}(h:PW X e t):PT X e t:=h _
def PA (X:Cx)(es:List Expr)(t:TA):Prop:=
 ∀(pos:Pos) (pins:List (Addr×Obj)) (s:Shared) (U:St) (H:Hp) (Q:List V->Hp->Prop),Inv X pins U H s->t U H Q->wpAny (model X.prog X.w) X.A (spliced (backTo pos (starEach es X.env))) (AP X pins U Q) X.xe s
def PS (X:Cx)(st:Stmt)(t:TS):Prop:=
 ∀(pins:List (Addr×Obj)) (s:Shared) (U:St) (H:Hp) (D:Ends),Inv X pins U H s->t D U H->wpAny (model X.prog X.w) X.A (exec st X.env) (SP X pins D) X.xe s
def PSs (X:Cx)(st:List Stmt)(t:TS):Prop:=
 ∀(pins:List (Addr×Obj)) (s:Shared) (U:St) (H:Hp) (D:Ends),Inv X pins U H s->t D U H->wpAny (model X.prog X.w) X.A (execs st X.env) (SP X pins D) X.xe s
theorem thn {α:Type}{t:Sem α}{Q Q':α->Shared->Prop}{M:Model}{A:Around}{E:Q33}{s:Shared}(h:wpAny M A t Q E s)(hQ:∀a s,Q a s->Q' a s):wpAny M A t Q' E s:=YBp h hQ fun _ _ x=>x
section
variable {X:Cx}
theorem bin {a b:Expr}{ta tb:TE}(ha:PE X a ta)(hb:PE X b tb){pins:List (Addr×Obj)}{s:Shared}{U:St}{H:Hp}{R:V->V->Hp->Prop}(I:Inv X pins U H s)(h:ta U H fun x H1=>tb U H1 fun y H2=>R x y H2)
  {α:Type} {Q:α->Shared->Prop} {f:Value->Value->Sem α}
  (hf:∀v u s2 x y H2,Inv X pins U H2 s2->RelV x v->RelV y u->R x y H2->wpAny (model X.prog X.w) X.A (f v u) Q X.xe s2):
  wpAny (model X.prog X.w) X.A (eval a X.env) (fun v s_1=>wpAny (model X.prog X.w) X.A (eval b X.env) (fun u s_2=>wpAny (model X.prog X.w) X.A (f v u) Q X.xe s_2) X.xe s_1) X.xe s:=by
 refine thn (ha pins s U H _ I h) fun v s1 ⟨x,H1,I1,r1,q1⟩=>?_
 refine thn (hb pins s1 U H1 _ I1 q1) fun u s2 ⟨y,H2,I2,r2,q2⟩=>?_
 exact hf v u s2 x y H2 I2 r1 r2 q2
def tVar (i:Nat):TE:=fun U H Q=>∃v,U[i]?=some (some v)/\Q v H
def tC (v:V):TE:=fun _ H Q=>Q v H
theorem ZmP {i:Nat} {x:Str} {pos:Pos} (hN:X.N[i]?=some x) (hv:Vis X.env.scope x) (hd:(x == ("__debug__":Str))=false:=by decide) (hcd:(x == ("__classdict__":Str))=false:=by decide):PE X (.Name x pos) (tVar i):=by
 intro pins s U H Q I h
 obtain⟨v,e,h⟩:=h
 obtain⟨m,hn,hl⟩:=I.loc
 obtain⟨u,r,l⟩:=hl i x v hN e hv
 have fin:EP X pins U Q u s:=⟨v,H,I,r,h⟩
 rcases l with⟨hk,hm⟩|⟨hk,c,hc,hcell⟩
 .exact wpAny_Name (wpAny_loadName_local I.ok.kind hk hn hm fin) hd
 .rcases hk with hk | hk
  .exact wpAny_Name (wpAny_loadName_cell I.ok.kind hk hc hcell fin) hd
  .exact wpAny_Name (wpAny_loadName_free I.ok.kind hk hc hcell fin hcd) hd
theorem Zak {i j pos}:PE X (.Constant (.int i) j pos) (tC (.int i)):=fun _ _ _ H _ I h=>wpAny_Constant_int ⟨.int i,H,I.tok _,⟨_,rfl⟩,h⟩
theorem Zcu {b j pos}:PE X (.Constant (.bool b) j pos) (tC (.bl b)):=fun _ _ _ H _ I h=>Constant_bool ⟨.bl b,H,I,rfl,h⟩
theorem Zii {j pos}:PE X (.Constant .none j pos) (tC .non):=fun _ _ _ H _ I h=>Constant_none ⟨.non,H,I,rfl,h⟩
theorem ZmQ {x j pos}:PE X (.Constant (.str x) j pos) (tC (.str x)):=fun _ _ _ H _ I h=>Calls.Constant_str ⟨.str x,H,I.tok _,⟨_,rfl⟩,h⟩
def Gl (X:Cx)(x:Str):Prop:=X.env.kindOf x=some .globalImplicit
theorem Zer {E:Q33}{pins:List (Addr×Obj)}{s:Shared}{U:St}{H:Hp}{x:Str}{u:Value}{pos:Pos}{Q:Q33}(I:Inv X pins U H s)(hg:Gl X x)(hm:X.mg x=some u)(h:Q u s)
  (hd:(x == ("__debug__":Str))=false:=by decide):wpAny (model X.prog X.w) X.A (eval (.Name x pos) X.env) Q E s:=
 Calls.Name_function_global I.ok.kind hg (Calls.loadGlobal_global (by rw[I.ok.glob];exact I.mod.glob.keeps I.bk) hm h) hd
theorem Zcy {E:Q33}{pins:List (Addr×Obj)}{s:Shared}{U:St}{H:Hp}{x:Str}{u:Value}{pos:Pos}{Q:Q33}(I:Inv X pins U H s)(hg:Gl X x)(hm:X.mg x=none)(hv:bootBuiltins x=some u)(h:Q u s)
  (hn:x≠"__name__":=by decide) (hd:(x == ("__debug__":Str))=false:=by decide):wpAny (model X.prog X.w) X.A (eval (.Name x pos) X.env) Q E s:=by
 obtain⟨mb,h1,h2⟩:=I.mod.blt
 exact Calls.Name_function_global I.ok.kind hg (Calls.loadGlobal_builtin (by rw[I.ok.glob];exact I.mod.glob.keeps I.bk) hm (by rw[I.ok.blt];exact h1.keeps I.bk) ((h2 x hn).trans hv) h) hd
theorem Zij {x:Str} {v:V} {u:Value} {pos:Pos} (hg:Gl X x) (hm:X.mg x=some u) (r:RelV v u) (hd:(x == ("__debug__":Str))=false:=by decide):PE X (.Name x pos) (tC v):=
 fun _ _ _ H _ I h=>Zer I hg hm ⟨v,H,I,r,h⟩ hd
theorem ZfY {x:Str} {v:V} {u:Value} {pos:Pos} (hg:Gl X x) (hm:X.mg x=none) (hv:bootBuiltins x=some u) (r:RelV v u) (hn:x≠"__name__":=by decide) (hd:(x == ("__debug__":Str))=false:=by decide):PE X (.Name x pos) (tC v):=
 fun _ _ _ H _ I h=>Zcy I hg hm hv ⟨v,H,I,r,h⟩ hn hd
variable {a b:Expr}{ta tb:TE}{pos:Pos}
def PC (X:Cx)(op:CmpOp)(a b:Expr)(t:TE):Prop:=
 ∀(pins:List (Addr×Obj)) (s:Shared) (U:St) (H:Hp) (Q:VK),Inv X pins U H s->t U H Q ->
  wpAny (model X.prog X.w) X.A (eval a X.env) (fun v s_1=>wpAny (model X.prog X.w) X.A (eval b X.env) (fun u s_2=>wpAny (model X.prog X.w) X.A (compareOp op v u) (EP X pins U Q) X.xe s_2) X.xe s_1) X.xe s
theorem ZjM (b:Expr){op:CmpOp}(h:op≠.In)(h2:op≠.NotIn):behindInMarks op b=false:=by
 have e1:(op == CmpOp.In)=false:=by cases op<;>first | rfl | exact absurd rfl h
 have e2:(op == CmpOp.NotIn)=false:=by cases op<;>first | rfl | exact absurd rfl h2
 cases b<;>simp[behindInMarks,e1,e2]
def tB (t:TE):TT:=fun U H Q=>t U H fun x H1=>∃c,x=.bl c/\Q c H1
theorem ZgD {op:CmpOp}{t:TE}(h:PC X op a b t)(h1:behindInMarks op b=false:=by first | exact ZjM _ (by decide) (by decide) | rfl):PT X (.Compare a [op] [b] pos) (tB t):=by
 intro pins s U H Q I hw
 refine wpAny_isTrue_Compare1 (thn (h pins s U H _ I hw) fun v s1 h1=>thn h1 fun u s2 h2=>thn h2 fun c s3 ⟨x,H1,I1,r1,q1⟩=>?_) h1
 obtain⟨d,rfl,q⟩:=q1
 cases r1
 exact YBc ⟨H1,I1,q⟩
theorem Zch {e:Expr}{t:TE}(h:PE X e t)(he:∀whole,isTrue e X.env whole=(do let v <-whole;standAt e.pos;holding [v] (truthy v)):=by intro _;rfl):PT X e (tB t):=by
 intro pins s U H Q I hw
 refine isTrue_plain (thn (h pins s U H _ I hw) fun v s1 ⟨x,H1,I1,r1,q1⟩=>?_) (he _)
 obtain⟨d,rfl,q⟩:=q1
 cases r1
 exact YBc ⟨H1,I1,q⟩
variable {tA tB':TT}{rest:List Expr}
def tAnd (t u:TT):TT:=fun U H Q=>t U H fun c H1=>if c=true then u U H1 Q else Q false H1
def tOr (t u:TT):TT:=fun U H Q=>t U H fun c H1=>if c=true then Q true H1 else u U H1 Q
def tNot (t:TT):TT:=fun U H Q=>t U H fun c H1=>Q (!c) H1
theorem Zds (ha:PT X a tA):PW X (.BoolOp .And [a] pos) tA:=by
 intro wh pins s U H Q I h
 refine isTrue_and (thn (ha pins s U H Q I h) fun c s1 e=>?_)
 cases c with
 | true=>exact isTrue_and_nil e
 | false=>exact e
theorem Zcg (ha:PT X a tA):PW X (.BoolOp .Or [a] pos) tA:=by
 intro wh pins s U H Q I h
 refine isTrue_or (thn (ha pins s U H Q I h) fun c s1 e=>?_)
 cases c with
 | false=>exact isTrue_or_nil e
 | true=>exact e
theorem ZeZ (ha:PT X a tA)(hb:PW X (.BoolOp .And (b::rest) pos) tB'):PW X (.BoolOp .And (a::b::rest) pos) (tAnd tA tB'):=by
 intro wh pins s U H Q I h
 refine isTrue_and (thn (ha pins s U H _ I h) fun c s1 ⟨H1,I1,q1⟩=>?_)
 cases c with
 | true=>exact hb wh pins s1 U H1 Q I1 q1
 | false=>exact⟨H1,I1,q1⟩
theorem Zc6 (ha:PT X a tA)(hb:PW X (.BoolOp .Or (b::rest) pos) tB'):PW X (.BoolOp .Or (a::b::rest) pos) (tOr tA tB'):=by
 intro wh pins s U H Q I h
 refine isTrue_or (thn (ha pins s U H _ I h) fun c s1 ⟨H1,I1,q1⟩=>?_)
 cases c with
 | true=>exact⟨H1,I1,q1⟩
 | false=>exact hb wh pins s1 U H1 Q I1 q1
theorem Zdt (ha:PT X a tA):PT X (.UnaryOp .Not a pos) (tNot tA):=by
 intro pins s U H Q I h
 exact isTrue_not (ha pins s U H (fun c H1=>Q (!c) H1) I h)
def Zmu (ta tb:TE):TE:=fun U H Q=>ta U H fun x H1=>∃c,x=.bl c/\if c=true then tb U H1 Q else Q (.bl false) H1
def Zmh (ta:TE):TE:=fun U H Q=>ta U H fun x H1=>∃c,x=.bl c/\Q (.bl (!c)) H1
theorem Zc0 {op}{t:TE}(h:PE X a t):PE X (.BoolOp op [a] pos) t:=fun pins s U H Q I hw=>BoolOp_one (h pins s U H Q I hw)
theorem ZbZ (ha:PE X a ta)(hb:PE X (.BoolOp .And (b::rest) pos) tb):PE X (.BoolOp .And (a::b::rest) pos) (Zmu ta tb):=by
 intro pins s U H Q I h
 refine BoolOp_and (thn (ha pins s U H _ I h) fun v s1 ⟨x,H1,I1,r1,q1⟩=>?_)
 obtain⟨c,rfl,q1⟩:=q1
 cases r1
 refine YBc ?_
 cases c with
 | true=>exact hb pins s1 U H1 Q I1 q1
 | false=>exact⟨.bl false,H1,I1,rfl,q1⟩
theorem ZmR (ha:PE X a ta):PE X (.UnaryOp .Not a pos) (Zmh ta):=by
 intro pins s U H Q I h
 refine UnaryOp_ (thn (ha pins s U H _ I h) fun v s1 ⟨x,H1,I1,r1,q1⟩=>?_)
 obtain⟨c,rfl,q1⟩:=q1
 cases r1
 exact not_of (YBc ⟨.bl (!c),H1,I1,rfl,q1⟩)
end
def SqL (K:Q44)(H:Hp)(a:Addr)(xs:List V):Prop:=
 Rd H a (.lst xs) \/
  ∃(o:Obj) (its:Array Value) (n:Nat),K.lookup a=some o/\o.cls=.type "list"/\o.dict=none/\o.data=.seq its n/\its.size<=sizeLine/\Vals xs its.toList
def SqT (K:Q44)(H:Hp)(a:Addr)(xs:List V):Prop:=
 Rd H a (.tup xs) \/
  ∃(o:Obj) (its:Array Value) (n:Nat),K.lookup a=some o/\o.cls=.type "tuple"/\o.data=.seq its n/\its.size<=sizeLine/\Vals xs its.toList
noncomputable def absV:Value->Option V
 | .none=>some .non
 | .bool b=>some (.bl b)
 | .int i _=>some (.int i)
 | .str x _=>some (.str x)
 | .bytes b _=>some (.byt b)
 | .float b _=>some (.flt b)
 | .ref a=>some (.ref a)
 | .type n=>some (.ty n)
 | _=>none
theorem RelV.abs {x:V}{u:Value}(r:RelV x u):absV u=some x:=by
 cases x with
 | non=>cases r;rfl
 | bl _=>cases r;rfl
 | int _=>obtain⟨t,rfl⟩:=r;rfl
 | str _=>obtain⟨t,rfl⟩:=r;rfl
 | byt _=>obtain⟨t,rfl⟩:=r;rfl
 | flt _=>obtain⟨t,rfl⟩:=r;rfl
 | ref _=>cases r;rfl
 | ty _=>cases r;rfl
theorem RelV.inj {x y:V}{u:Value}(r:RelV x u)(q:RelV y u):x=y:=Option.some.inj (r.abs.symm.trans q.abs)
theorem Vals.inj:∀ {xs ys:List V} {us:List Value},Vals xs us->Vals ys us->xs=ys
 | _,_,_,.nil,.nil=>rfl
 | _,_,_,.cons r t,.cons r' t'=>by rw[r.inj r',Vals.inj t t']
section
variable {X:Cx}{pins:List (Addr×Obj)}{U:St}{H:Hp}{s:Shared}{a:Addr}{xs ys:List V}
theorem Inv.list (I:Inv X pins U H s)(h:SqL X.K H a xs):∃its:List Value,Vals xs its/\PlainL s.heap a its.toArray/\xs.length<=sizeLine:=by
 rcases h with h | ⟨o,its,n,hk,hc,hd,hs,hz,r⟩
 .obtain⟨z,its,n,r,e⟩:=h.ok I.hok
  exact⟨its,r,⟨_,n,e,rfl,rfl,rfl⟩,z⟩
 .refine⟨its.toList,r,⟨o,n,I.kIn a o hk,hc,hd,by simpa using hs⟩,?_⟩
  have e:=r.length
  simp only[YAS]at e
  omega
theorem Inv.tuple (I:Inv X pins U H s)(h:SqT X.K H a xs):∃its:List Value,Vals xs its/\IsTup s.heap a its.toArray/\xs.length<=sizeLine:=by
 rcases h with h | ⟨o,its,n,hk,hc,hs,hz,r⟩
 .obtain⟨z,its,r,p⟩:=h.ok I.hok
  exact⟨its,r,p,z⟩
 .refine⟨its.toList,r,⟨o,I.kIn a o hk,hc,n,by simpa using hs⟩,?_⟩
  have e:=r.length
  simp only[YAS]at e
  omega
theorem Inv.list_inj (I:Inv X pins U H s)(h:SqL X.K H a xs)(h':SqL X.K H a ys):xs=ys:=by
 obtain⟨its,r,⟨o,n,e,_,_,d⟩,_⟩:=I.list h
 obtain⟨its',r',⟨o',n',e',_,_,d'⟩,_⟩:=I.list h'
 rw[e]at e';cases e'
 rw[d]at d'
 injection d' with d1 _
 have:its=its':=by simpa using congrArg Array.toList d1
 subst this
 exact r.inj r'
theorem Inv.tuple_inj (I:Inv X pins U H s)(h:SqT X.K H a xs)(h':SqT X.K H a ys):xs=ys:=by
 obtain⟨its,r,⟨o,e,_,n,d⟩,_⟩:=I.tuple h
 obtain⟨its',r',⟨o',e',_,n',d'⟩,_⟩:=I.tuple h'
 rw[e]at e';cases e'
 rw[d]at d'
 injection d' with d1 _
 have:its=its':=by simpa using congrArg Array.toList d1
 subst this
 exact r.inj r'
end
noncomputable abbrev Cx.wish (X:Cx)(E:Q33):Cx:={ X with xe:=E }
noncomputable abbrev Cx.nox (X:Cx):Cx:=X.wish fun _ _=>False
theorem Cx.Ok.wish {X:Cx}(ok:X.Ok)(E:Q33):(X.wish E).Ok:=
 ⟨ok.mod,ok.kind,ok.glob,ok.blt,ok.above,ok.inj,ok.has,ok.cab,ok.hd,ok.frames,ok.stk,ok.exf,ok.bs,ok.bsz,ok.noex,ok.exfs,ok.funs,ok.frf⟩
theorem Cx.Ok.unwish {X:Cx}{E:Q33}(ok:(X.wish E).Ok):X.Ok:=
 ⟨ok.mod,ok.kind,ok.glob,ok.blt,ok.above,ok.inj,ok.has,ok.cab,ok.hd,ok.frames,ok.stk,ok.exf,ok.bs,ok.bsz,ok.noex,ok.exfs,ok.funs,ok.frf⟩
section
variable {X:Cx}{pins:List (Addr×Obj)}{U:St}{H:Hp}{s:Shared}{E:Q33}
theorem Inv.wish (I:Inv X pins U H s)(E:Q33):Inv (X.wish E) pins U H s:=⟨I.ok.wish E,I.os,I.bare,I.base,I.loc,I.cell,I.free,I.freeC,I.pin,I.hok,I.len⟩
theorem Inv.unwish (I:Inv (X.wish E) pins U H s):Inv X pins U H s:=⟨I.ok.unwish,I.os,I.bare,I.base,I.loc,I.cell,I.free,I.freeC,I.pin,I.hok,I.len⟩
theorem SP.unwish {D:Ends}{f:Flow}{s':Shared}(h:SP (X.wish E) pins D f s'):SP X pins D f s':=by
 cases f with
 | next=>obtain⟨U',H',I,q⟩:=h;exact⟨U',H',I.unwish,q⟩
 | brk=>obtain⟨U',H',I,q⟩:=h;exact⟨U',H',I.unwish,q⟩
 | cont=>obtain⟨U',H',I,q⟩:=h;exact⟨U',H',I.unwish,q⟩
 | ret u=>obtain⟨v,U',H',I,r,q⟩:=h;exact⟨v,U',H',I.unwish,r,q⟩
theorem PSs.nox {st:List Stmt}{t:TS}(h:PSs X.nox st t):PSs X st t:=fun pins s U H D I hw=>
 YBp (h pins s U H D (I.wish _) hw) (fun _ _ q=>q.unwish) fun _ _ z=>False.elim z
end
section
variable {X:Cx}{st:Stmt}{rest:List Stmt}{t u:TS}{e:Expr}{te:TE}{pos:Pos}
def tNext:TS:=fun D U H=>D.nx U H
def tSeq (t u:TS):TS:=fun D U H=>t { D with nx:=u D } U H
theorem Zay:PSs X [] tNext:=fun _ _ U H _ I h=>wpAny_execs_nil ⟨U,H,I,h⟩
theorem Zab (h1:PS X st t)(h2:PSs X rest u):PSs X (st::rest) (tSeq t u):=by
 intro pins s U H D I h
 refine wpAny_execs_cons (thn (h1 pins s U H { D with nx:=u D } I h) fun f s1 q=>?_)
 cases f with
 | next=>
  obtain⟨U',H',I',q⟩:=q
  exact h2 pins s1 U' H' D I' q
 | ret v=>exact q
 | brk=>exact q
 | cont=>exact q
theorem Zag (h1:PS X st t):PSs X [st] t:=by
 intro pins s U H D I h
 refine wpAny_execs_cons (thn (h1 pins s U H D I h) fun f s1 q=>?_)
 cases f with
 | next=>exact wpAny_execs_nil q
 | ret v=>exact q
 | brk=>exact q
 | cont=>exact q
theorem Inv.quiet {pins:List (Addr×Obj)}{U:St}{H:Hp}{s:Shared}(I:Inv X pins U H s):interactive X.env=false:=by simp[interactive,I.ok.kind]
def Zmm (te:TE):TS:=fun D U H=>te U H fun _ H1=>D.nx U H1
theorem ZaN (he:PE X e te)(hs:swapsWith e none pos.line X.env=pure false:=by rfl):PS X (.Expr e pos) (Zmm te):=by
 intro pins s U H D I h
 exact wpAny_Expr_any (thn (he pins s U H _ I h) fun v s1 ⟨x,H1,I1,r1,q1⟩=>⟨U,H1,I1,q1⟩) I.quiet hs
def tRet (te:TE):TS:=fun D U H=>te U H D.rt
theorem Zat (he:PE X e te):PS X (.Return (some e) pos) (tRet te):=by
 intro pins s U H D I h
 exact wpAny_Return_some (thn (he pins s U H _ I h) fun v s1 ⟨x,H1,I1,r1,q1⟩=>⟨x,U,H1,I1,r1,q1⟩)
def tIfS (c:TT)(t u:TS):TS:=fun D U H=>c U H fun b H1=>if b=true then t D U H1 else u D U H1
theorem Za2 {c:Expr}{a b:List Stmt}{tc:TT}(hc:PT X c tc)(ha:PSs X a t)(hb:PSs X b u):PS X (.If c a b pos) (tIfS tc t u):=by
 intro pins s U H D I h
 refine wpAny_If (thn (hc pins s U H _ I h) fun d s1 ⟨H1,I1,q1⟩=>?_)
 cases d with
 | true=>exact ha pins s1 U H1 D I1 q1
 | false=>exact hb pins s1 U H1 D I1 q1
end
abbrev TG:=V->St->Hp->(St->Hp->Prop)->Prop
abbrev TGs:=List V->St->Hp->(St->Hp->Prop)->Prop
def PG (X:Cx)(target:Expr)(t:TG):Prop:=
 ∀(pins:List (Addr×Obj)) (s:Shared) (U:St) (H:Hp) (v:V) (u:Value) (Q:St->Hp->Prop),Inv X pins U H s->RelV v u->t v U H Q ->
  wpAny (model X.prog X.w) X.A (assign target X.env u) (fun _ s'=>∃U' H',Inv X pins U' H' s'/\Q U' H') X.xe s
def PGs (X:Cx)(ts:List Expr)(t:TGs):Prop:=
 ∀(pins:List (Addr×Obj)) (s:Shared) (U:St) (H:Hp) (vs:List V) (us:List Value) (Q:St->Hp->Prop),Inv X pins U H s->Vals vs us->t vs U H Q ->
  wpAny (model X.prog X.w) X.A (assignInOrder ((assignEach ts X.env).map (·.2)) us) (fun _ s'=>∃U' H',Inv X pins U' H' s'/\Q U' H') X.xe s
abbrev TIp:=V->V->Hp->VK->Prop
def PIp (X:Cx)(op:Operator)(t:TIp):Prop:=
 ∀(pins:List (Addr×Obj)) (s:Shared) (U:St) (H:Hp) (x y:V) (v u:Value) (Q:VK),Inv X pins U H s->RelV x v->RelV y u->t x y H Q ->
  wpAny (model X.prog X.w) X.A (inplaceOp op v u) (EP X pins U Q) X.xe s
section
variable {X:Cx}{pos:Pos}
def ZbX (i:Nat):TG:=fun v U H Q=>Q (U.set i (some v)) H
theorem Zam {i:Nat}{x:Str}(hN:X.N.Nodup)(hi:X.N[i]?=some x)(hx:Loc X.env.scope x)(hf:X.fn x=true\/X.env.scope.names.lookup x=some .local:=by first | exact .inl rfl | exact .inr rfl | assumption):PG X (.Name x pos) (ZbX i):=by
 intro pins s U H v u Q I r h
 exact wpAny_assign_Name (Zek I hN hi hx r (fun s' I'=>⟨_,H,I',h⟩) hf)
def gNil:TGs:=fun vs U H Q=>vs=[]/\Q U H
def Zj7 (t:TG)(u:TGs):TGs:=fun vs U H Q=>∃v r,vs=v::r/\t v U H fun U' H'=>u r U' H' Q
theorem ZcN:PGs X [] gNil:=by
 intro pins s U H vs us Q I r h
 obtain⟨e,h⟩:=h
 subst e
 cases r
 exact assignInOrder_nil ⟨U,H,I,h⟩
theorem Za9 {e:Expr}{es:List Expr}{t:TG}{u:TGs}(h1:PG X e t)(h2:PGs X es u)
  (hs:(assignEach (e::es) X.env).map (·.2)=assign e X.env::(assignEach es X.env).map (·.2):=by rfl):PGs X (e::es) (Zj7 t u):=by
 intro pins s U H vs us Q I r h
 obtain⟨v,vr,e1,h⟩:=h
 subst e1
 cases r with
 | cons r rr=>
  rw[hs]
  refine assignInOrder_cons (thn (h1 pins s U H _ _ _ I r h) fun _ s1 ⟨U1,H1,I1,q1⟩=>?_)
  exact h2 pins s1 U1 H1 _ _ Q I1 rr q1
def gTup (K:Q44)(n:Nat)(t:TGs):TG:=fun v U H Q=>∃a xs,v=.ref a/\SqT K H a xs/\xs.length=n/\t xs U H Q
theorem Ze3 {es:List Expr}{k:Nat}{t:TGs}{n:Nat}(hc:X.calm=true)(h:PGs X es t)
  (hn:(assignEach es X.env).length=n:=by rfl) (hst:(assignEach es X.env).findIdx? (·.1)=none:=by rfl):PG X (.Tuple es k pos) (gTup X.K n t):=by
 intro pins s U H v u Q I r hw
 obtain⟨a,xs,e1,hq,hl,hw⟩:=hw
 subst e1
 cases r
 obtain⟨its,rv,ht,hz⟩:=I.tuple hq
 refine assign_Tuple_tuple (I.ok.hd hc) ht (by simp[hn,<-hl,rv.length]) hst fun h' hx=>?_
 have I1:Inv X pins U H { s with heap:=h' }:=I.kept (t':=s.toks) fun b o e=>hx b o (YAd (YAN e)) e
 exact h pins _ U H xs _ Q I1 (by simpa using rv) hw
def tAsg (te:TE)(g:TG):TS:=fun D U H=>te U H fun x H1=>g x U H1 D.nx
theorem Zkz {tg e:Expr}{te:TE}{g:TG}(he:PE X e te)(hg:PG X tg g)(hs:swapsWithSole [tg] e pos.line X.env=pure false:=by rfl)(hw:swappedStores [tg] e X.env=pure none:=by rfl)
  (h1:(assignEach [tg] X.env).map (·.2)=[assign tg X.env]:=by rfl):PS X (.Assign [tg] e pos) (tAsg te g):=by
 intro pins s U H D I h
 refine wpAny_Assign_stores (thn (he pins s U H _ I h) fun v s1 ⟨x,H1,I1,r1,q1⟩=>?_) hs hw
 rw[h1]
 exact thn (hg pins s1 U H1 x v _ I1 r1 q1) fun _ s2 q=>q
theorem Zax {i:Nat}{x:Str}{e:Expr}{te:TE}{pos':Pos}(hN:X.N.Nodup)(hi:X.N[i]?=some x)(hx:Loc X.env.scope x)(he:PE X e te)(hs:swapsWith e (some (.Name x pos')) pos.line X.env=pure false:=by rfl)(hf:X.fn x=true\/X.env.scope.names.lookup x=some .local:=by first | exact .inl rfl | exact .inr rfl | assumption):
  PS X (.Assign [.Name x pos'] e pos) (tAsg te (ZbX i)):=by
 intro pins s U H D I h
 refine wpAny_Assign_Name (thn (he pins s U H _ I h) fun v s1 ⟨y,H1,I1,r1,q1⟩=>?_) hs
 exact Zek I1 hN hi hx r1 (fun s2 I2=>⟨_,H1,I2,q1⟩) hf
def tAug (i:Nat)(te:TE)(ti:TIp):TS:=fun D U H=>∃x,U[i]?=some (some x)/\te U H fun y H1=>ti x y H1 fun z H2=>D.nx (U.set i (some z)) H2
theorem Zky {i:Nat}{x:Str}{e:Expr}{te:TE}{op:Operator}{ti:TIp}{pos':Pos}(hN:X.N.Nodup)(hi:X.N[i]?=some x)(hx:Loc X.env.scope x)(he:PE X e te)(ho:PIp X op ti)(hf:X.fn x=true\/X.env.scope.names.lookup x=some .local:=by first | exact .inl rfl | exact .inr rfl | assumption):
  PS X (.AugAssign (.Name x pos') op e pos) (tAug i te ti):=by
 intro pins s U H D I h
 obtain⟨v,e1,h⟩:=h
 obtain⟨m,hn,hl⟩:=I.loc
 have vis:Vis X.env.scope x:=by rcases hx with k | k;exact .inl k;exact .inr (.inl k)
 obtain⟨u,r,l⟩:=hl i x v hi e1 vis
 refine wpAny_AugAssign_Name ?_
 have go:wpAny (model X.prog X.w) X.A (eval e X.env) (fun w s_2=>wpAny (model X.prog X.w) X.A (inplaceOp op u w) (fun r s₃=>wpAny (model X.prog X.w) X.A (storeName X.env x r) (fun _=>SP X pins D .next) X.xe s₃) X.xe s_2) X.xe s:=by
  refine thn (he pins s U H _ I h) fun w s1 ⟨y,H1,I1,r1,q1⟩=>?_
  refine thn (ho pins s1 U H1 v y u w _ I1 r r1 q1) fun z s2 ⟨zv,H2,I2,r2,q2⟩=>?_
  exact Zek I2 hN hi hx r2 (fun s3 I3=>⟨_,H2,I3,q2⟩) hf
 rcases l with⟨hk,hm⟩|⟨hk,c,hc,hcell⟩
 .exact wpAny_loadName_local I.ok.kind hk hn hm go
 .rcases hk with hk | hk
  .exact wpAny_loadName_cell I.ok.kind hk hc hcell go
  .rcases hx with k | k
   .have:X.env.scope.names.lookup x=some .free:=hk
    rw[k]at this;cases this
   .have:X.env.scope.names.lookup x=some .free:=hk
    rw[k]at this;cases this
def ipI (f:Int->Int->Int):TIp:=fun x y H Q=>∃i j,x=.int i/\y=.int j/\Q (.int (f i j)) H
theorem ZkG:PIp X .Add (ipI fun i j=>i+j):=by
 intro pins s U H x y v u Q I r1 r2 h
 obtain⟨i,j,e1,e2,q⟩:=h
 subst e1;subst e2
 obtain⟨t,rfl⟩:=r1
 obtain⟨t',rfl⟩:=r2
 exact iadd_int ⟨.int _,H,I.tok _,⟨_,rfl⟩,q⟩
end
section
variable {X:Cx}{pos:Pos}
def ZhV (c:TT)(tb:TS):TS:=fun D U H=>∃W:Nat->St->Hp->Prop,(∃m,W m U H)/\∀m U H,W m U H ->
 c U H fun b H1=>if b=true then ∃N:St->Hp->Prop,(∀U' H',N U' H'->∃m',m'<m/\W m' U' H')/\tb { D with nx:=N,ct:=N,bk:=D.nx } U H1 else D.nx U H1
theorem ZgE {c:Expr}{body:List Stmt}{tc:TT}{tb:TS}(hp:PassesOwn (model X.prog X.w) X.A X.env X.xe)(hc:PT X c tc)(hb:PSs X body tb):PS X (.While c body [] pos) (ZhV tc tb):=by
 intro pins s U H D I h
 obtain⟨W,⟨m0,w0⟩,turn⟩:=h
 refine wpAny_While (codeAny_whileLoop (fun n s'=>∃U' H',Inv X pins U' H' s'/\W n U' H') ?_ m0 ⟨U,H,I,w0⟩)
 rintro n s1 ⟨U1,H1,I1,w1⟩
 refine YCY hp (thn (hc pins s1 U1 H1 _ I1 (turn n U1 H1 w1)) fun b s2 ⟨H2,I2,q2⟩=>?_)
 cases b with
 | true=>
  obtain⟨N,hN,q2⟩:=q2
  rw[YAP rfl]
  refine YCY hp (thn (hb pins s2 U1 H2 _ I2 q2) fun f s3 q3=>?_)
  cases f with
  | next=>
   obtain⟨U3,H3,I3,n3⟩:=q3
   obtain⟨m',hm,w3⟩:=hN U3 H3 n3
   exact⟨m',hm,U3,H3,I3,w3⟩
  | cont=>
   obtain⟨U3,H3,I3,n3⟩:=q3
   obtain⟨m',hm,w3⟩:=hN U3 H3 n3
   exact⟨m',hm,U3,H3,I3,w3⟩
  | brk=>exact q3
  | ret v=>exact q3
 | false=>
  rw[YAL YAD]
  exact wpAny_execs_nil ⟨U1,H2,I2,q2⟩
end
structure It where
 go:Nat->Hp->Prop
 yld:Nat->Hp->V->Hp->Prop
 stop:Nat->Hp->Prop
def FpOk (X:Cx)(pins:List (Addr×Obj))(H:Hp)(b:Addr):Prop:=
 H b=none/\b≠X.env.locals/\b∉X.fs/\(b∈X.ex\/X.s_0.heap.objs.size<=b)/\(∀x c,X.env.cells.lookup x=some c->c≠b)/\∀p∈X.pn++pins,p.1≠b
theorem Inv.fpOk {X:Cx}{pins:List (Addr×Obj)}{U:St}{H H':Hp}{s:Shared}{b:Addr}(I:Inv X pins U H s)(hb:s.heap.objs.size<=b)(hn:H' b=none):FpOk X pins H' b:=by
 refine⟨hn,Nat.ne_of_gt (YAb I.lt hb),I.nofs hb,.inr (YAJ I.sz hb),fun x c e z=>?_,fun p hp z=>?_⟩
 .obtain⟨v,q⟩:=I.cell x c e
  exact absurd (YAb q.lt (by rw[z];exact hb)) (YAz _)
 .exact absurd (YAb (YAN (I.pin p hp).1) (by rw[z];exact hb)) (YAz _)
structure Turn (P:Program)(w:World)(K:Q44)(tg:Expr)(J:It)(fp:List Addr)(it:Addr)(tn:Nat->Heap->Prop):Prop where
 mem:it∈fp
 obj:∀i h,tn i h->∀b∈fp,∃o,h.get? b=some o/\∀v,o.data≠.cell v
 keep:∀i h h',tn i h->(∀b∈fp,∀o,h.get? b=some o->h'.get? b=some o)->tn i h'
 item:∀(X:Cx),X.prog=P->X.w=w->X.K=K->X.calm=true->∀(i:Nat) (pins:List (Addr×Obj)) (s:Shared) (U:St) (H:Hp) (E:Q33),Inv X pins U H s->(∀b∈fp,FpOk X pins H b)->tn i s.heap->J.go i H ->
  wpAny (model P w) X.A (pyNext (.ref it)) (fun r s1=>∃u,r=some u /\
   wpAny (model P w) X.A (letOwnedTupleGo tg (.ref it) u) (fun _ s2=>∃x H',Inv X pins U H' s2/\RelV x u/\J.yld i H x H'/\tn (i+1) s2.heap/\∀b∈fp,H' b=none) E s1) E s
 done:∀(X:Cx),X.prog=P->X.w=w->X.K=K->X.calm=true->∀(i:Nat) (pins:List (Addr×Obj)) (s:Shared) (U:St) (H:Hp) (E:Q33),Inv X pins U H s->(∀b∈fp,FpOk X pins H b)->tn i s.heap->J.stop i H ->
  wpAny (model P w) X.A (pyNext (.ref it)) (fun r s1=>r=none/\Inv X pins U H s1) E s
 self:∀(A:Around) (i:Nat) (s:Shared) (Q:Q33) (E:Q33),tn i s.heap->Q (.ref it) s->wpAny (model P w) A (pyIter (.ref it)) Q E s
abbrev TI:=St->Hp->(It->Hp->Prop)->Prop
def PIE (X:Cx)(pins:List (Addr×Obj))(U:St)(tg:Expr)(R:It->Hp->Prop)(itv:Value)(s2:Shared):Prop:=
 ∃(it:Addr) (fp:List Addr) (tn:Nat->Heap->Prop) (J:It) (H':Hp),itv=.ref it/\Inv X pins U H' s2/\Turn X.prog X.w X.K tg J fp it tn/\tn 0 s2.heap/\(∀b∈fp,FpOk X pins H' b)/\R J H'
def PI (X:Cx)(tg iter:Expr)(wi:TI):Prop:=
 ∀(pins:List (Addr×Obj)) (s:Shared) (U:St) (H:Hp) (R:It->Hp->Prop),Inv X pins U H s->wi U H R ->
  wpAny (model X.prog X.w) X.A (eval iter X.env) (fun v s1=>wpAny (model X.prog X.w) X.A (pyIter v) (PIE X pins U tg R) X.xe s1) X.xe s
theorem ZiX {M:Model}{A:Around}{E:Q33}{s:Shared}{tg:Expr}{it:Addr}{u:Value}{o:Obj}{n:String}{vs:Array Value}{Q:Unit->Shared->Prop}(ho:s.heap.get? it=some o)(hc:o.cls=.type n)(hd:o.data=.fields vs)
    (hn:["enumerate","zip","dict_itemiterator","dict_reverseitemiterator","odict_iterator","itertools.zip_longest","itertools.pairwise"].contains n=false) (hQ:Q () s):wpAny M A (letOwnedTupleGo tg (.ref it) u) Q E s:=by
  unfold letOwnedTupleGo
  cases tg<;>first
    | exact YAF hQ
    | (cases u<;>first
        | exact YAF hQ
        | (refine YAA (wpAny_load ho ?_)
           rw[hc,hd]
           show wpAny M A (if (["enumerate","zip","dict_itemiterator","dict_reverseitemiterator","odict_iterator","itertools.zip_longest","itertools.pairwise"].contains n&&vs[0]? == some (rawInt _))=true then _ else _) Q E s
           rw[YAL (by intro h;rw[hn,YBn]at h;cases h)]
           exact YAF hQ))
noncomputable def Itl (K:Q44)(a:Addr):It:=
 ⟨fun i H=>∃xs x,SqL K H a xs/\xs[i]?=some x,fun i H x H'=>H'=H/\∀xs,SqL K H a xs->xs[i]?=some x,fun i H=>∃xs,SqL K H a xs/\xs.length<=i⟩
noncomputable def Itt (K:Q44)(a:Addr):It:=
 ⟨fun i H=>∃xs x,SqT K H a xs/\xs[i]?=some x,fun i H x H'=>H'=H/\∀xs,SqT K H a xs->xs[i]?=some x,fun i H=>∃xs,SqT K H a xs/\xs.length<=i⟩
noncomputable def Itr (lo:Int)(n:Nat):It:=⟨fun i _=>i<n,fun i H x H'=>H'=H/\x=.int (lo+i),fun i _=>n<=i⟩
theorem ZhT {P:Program}{w:World}{K:Q44}{tg:Expr}(a it:Addr):Turn P w K tg (Itl K a) [it] it (fun i h=>h.IsListIter it a i) where
 mem:=by simp
 obj:=fun i h st b hb=>by
  have e:b=it:=by simpa using hb
  subst e
  obtain⟨o,e,c,d⟩:=st
  exact⟨o,e,fun v z=>by rw[d]at z;cases z⟩
 keep:=fun i h h' st k=>st.at fun o e=>k it (by simp) o e
 item:=by
  intro X hP hw hK hc i pins s U H E I hf st hg
  subst hP hw hK
  obtain⟨xs,x,hq,hx⟩:=hg
  obtain⟨its,rv,p,hz⟩:=I.list hq
  obtain⟨u,hu,ru⟩:=rv.get hx
  obtain⟨f0,f1,f2,f3,f4,f5⟩:=hf it (by simp)
  refine wpAny_pyNext_list_item st p.isList (x:=u) (by simpa using hu) fun h' st' sb=>?_
  have I1:Inv X pins U H { s with heap:=h' }:=I.turned (t':=s.toks) (fun b o hb e=>(sb.2 b hb).trans e) f0 f1 f3 f4 f5
  obtain⟨o,e,c,d⟩:=id st'
  exact⟨u,rfl,ZiX (s:={ s with heap:=h' }) e c d (by decide) ⟨x,H,I1,ru,⟨rfl,fun ys hy=>by rw[I.list_inj hy hq];exact hx⟩,st',fun b hb=>(hf b hb).1⟩⟩
 done:=by
  intro X hP hw hK hc i pins s U H E I hf st hg
  subst hP hw hK
  obtain⟨xs,hq,hx⟩:=hg
  obtain⟨its,rv,p,hz⟩:=I.list hq
  obtain⟨f0,f1,f2,f3,f4,f5⟩:=hf it (by simp)
  have hl:=rv.length
  exact wpAny_pyNext_list_end (I.ok.hd hc) st p.isList (by simp;omega) fun h' eb=>⟨rfl,I.turned (t':=s.toks) (fun b o hb e=>eb b o hb e) f0 f1 f3 f4 f5⟩
 self:=fun _ _ _ _ _ st h=>wpAny_pyIter_listiter st h
theorem Zg9 {P:Program}{w:World}{K:Q44}{tg:Expr}(it:Addr)(lo:Int)(n:Nat):Turn P w K tg (Itr lo n) [it] it (fun i h=>IsRangeIter h it (lo+(i:Nat)*1) ((n:Int)-(i:Nat)) 1) where
 mem:=by simp
 obj:=fun i h st b hb=>by
  have e:b=it:=by simpa using hb
  subst e
  exact⟨_,st,fun v z=>by
   have z':Data.fields _=Data.cell v:=z
   cases z'⟩
 keep:=fun i h h' st k=>k it (by simp) _ st
 item:=by
  intro X hP hw hK hc i pins s U H E I hf st hg
  subst hP hw hK
  obtain⟨f0,f1,f2,f3,f4,f5⟩:=hf it (by simp)
  have W:=Walks.range (prog:=X.prog) (w:=X.w) (I.ok.hd hc) it lo 1 n
  refine W.item i s _ _ hg st fun v h' tk hv st' kk=>?_
  obtain⟨t,rfl⟩:=hv
  have I1:Inv X pins U H { s with heap:=h',toks:=tk }:=I.turned (fun b o hb e=>kk b o (by simpa using hb) e) f0 f1 f3 f4 f5
  refine⟨_,rfl,ZiX (s:={ s with heap:=h',toks:=tk }) (n:="range_iterator") st' rfl rfl (by decide) ⟨.int (lo+i),H,I1,⟨t,?_⟩,⟨rfl,rfl⟩,st',fun b hb=>(hf b hb).1⟩⟩
  rw[Int.mul_one]
 done:=by
  intro X hP hw hK hc i pins s U H E I hf st hg
  subst hP hw hK
  obtain⟨f0,f1,f2,f3,f4,f5⟩:=hf it (by simp)
  exact wpAny_pyNext_range_end (I.ok.hd hc) st (by have:n<=i:=hg;omega) fun h' eb=>⟨rfl,I.turned (t':=s.toks) (fun b o hb e=>eb b o hb e) f0 f1 f3 f4 f5⟩
 self:=fun _ _ _ _ _ st h=>wpAny_pyIter_rangeiter st h
section
variable {X:Cx}{tg:Expr}
def ZlO (K:Q44)(tl:TE):TI:=fun U H R=>tl U H fun x H1=>∃a,x=.ref a/\(∃xs,SqL K H1 a xs)/\R (Itl K a) H1
theorem Zlv {l:Expr}{tl:TE}(hl:PE X l tl):PI X tg l (ZlO X.K tl):=by
 intro pins s U H R I h
 refine thn (hl pins s U H _ I h) fun v s1 ⟨x,H1,I1,r1,q1⟩=>?_
 obtain⟨a,e,⟨xs,hq⟩,q⟩:=q1
 subst e
 cases r1
 obtain⟨its,rv,p,hz⟩:=I1.list hq
 refine YCt p.isList ?_
 refine⟨s1.heap.objs.size,[s1.heap.objs.size],_,_,H1,rfl,I1.kept (t':=s1.toks) fun b o e=>YAC _ e,ZhT a _,⟨_,YAO _ rfl,rfl,rfl⟩,fun b hb=>?_,q⟩
 have e:b=s1.heap.objs.size:=by simpa using hb
 subst e
 exact I1.fpOk (YAH _) (I1.hok.fresh (YAH _))
theorem ZgA {pins:List (Addr×Obj)}{U:St}{H:Hp}{s:Shared}{R:It->Hp->Prop}{E:Q33}{lo hi:Int}{t u v:Tok}{tk:Nat}(I:Inv X pins U H s)(h1:-(2 ^ 62)<=lo)(h2:lo<2 ^ 62)(h3:-(2 ^ 62)<=hi)(h4:hi<2 ^ 62)
  (q:R (Itr lo (hi-lo).toNat) H):wpAny (model X.prog X.w) X.A (pyIter (.ref s.heap.objs.size)) (PIE X pins U tg R) E { s with heap:=s.heap.push { cls:=.type "range",data:=.fields #[.int lo t,.int hi u,.int 1 v] },toks:=tk }:=by
 refine wpAny_pyIter_range (IsRange.new ..) (small_one h1 h2 h3 h4) ?_
 have I1:Inv X pins U H { s with heap:=s.heap.push { cls:=.type "range",data:=.fields #[.int lo t,.int hi u,.int 1 v] },toks:=tk }:=I.kept fun b o e=>YAC _ e
 refine⟨(s.heap.push { cls:=.type "range",data:=.fields #[.int lo t,.int hi u,.int 1 v] }).objs.size,[(s.heap.push { cls:=.type "range",data:=.fields #[.int lo t,.int hi u,.int 1 v] }).objs.size],_,_,H,rfl,
  I1.kept (t':=tk) fun b o e=>YAC _ e,Zg9 _ lo (hi-lo).toNat,?_,fun b hb=>?_,q⟩
 .have e1:lo+((0:Nat):Int)*1=lo:=by simp
  have e2:(((hi-lo).toNat:Nat):Int)-((0:Nat):Int)=Builtin.Range.rangeSize lo hi 1:=by rw[rangeSize_one];split<;>omega
  show IsRangeIter _ _ (lo+((0:Nat):Int)*1) ((((hi-lo).toNat:Nat):Int)-((0:Nat):Int)) 1
  rw[e1,e2]
  exact YAO _ rfl
 .have e:b=(s.heap.push { cls:=.type "range",data:=.fields #[.int lo t,.int hi u,.int 1 v] }).objs.size:=by simpa using hb
  subst e
  exact I1.fpOk (YAH _) (I1.hok.fresh (YAH _))
def ZnG (ta:TA):TI:=fun U H R=>ta U H fun vs H1=>∃j:Int,vs=[.int j]/\-(2 ^ 62)<=j/\j<2 ^ 62/\R (Itr 0 j.toNat) H1
def ZnF (ta:TA):TI:=fun U H R=>ta U H fun vs H1=>∃i j:Int,vs=[.int i,.int j]/\(-(2 ^ 62)<=i/\i<2 ^ 62/\-(2 ^ 62)<=j/\j<2 ^ 62)/\R (Itr i (j-i).toNat) H1
theorem Ze2 {a:Expr} {ta:TA} {p pos:Pos} (hg:Gl X "range") (hm:X.mg "range"=none) (ha:PA X [a] ta) (hs:starEach [a] X.env=[(false,eval a X.env)]:=by rfl):PI X tg (.Call (.Name "range" p) [a] [] pos) (ZnG ta):=by
 intro pins s U H R I h
 refine Call_ (Zcy I hg hm boot_range (YCE (thn (ha pos pins s U H _ I h) fun us s1 ⟨vs,H1,I1,r1,q1⟩=>?_) hs rfl))
 obtain⟨j,e,q1,q2,q⟩:=q1
 subst e
 cases r1 with
 | cons r rr=>
  cases rr
  obtain⟨t,rfl⟩:=r
  exact call_range_1 (ZgA I1 (by omega) (by omega) q1 q2 (by simpa using q))
theorem Zdv {a b:Expr} {ta:TA} {p pos:Pos} (hg:Gl X "range") (hm:X.mg "range"=none) (ha:PA X [a,b] ta) (hs:starEach [a,b] X.env=[(false,eval a X.env),(false,eval b X.env)]:=by rfl) (hs2:starEach [b] X.env=[(false,eval b X.env)]:=by rfl):
  PI X tg (.Call (.Name "range" p) [a,b] [] pos) (ZnF ta):=by
 intro pins s U H R I h
 refine Call_ (Zcy I hg hm boot_range (YCE (thn (ha pos pins s U H _ I h) fun us s1 ⟨vs,H1,I1,r1,q1⟩=>?_) (by rw[hs,hs2]) (by rw[hs2];rfl)))
 obtain⟨i,j,e,⟨q1,q2,q3,q4⟩,q⟩:=q1
 subst e
 cases r1 with
 | cons r rr=>
  cases rr with
  | cons r' rr=>
   cases rr
   obtain⟨t,rfl⟩:=r
   obtain⟨t',rfl⟩:=r'
   exact call_range_2 (ZgA I1 q1 q2 q3 q4 q)
def tFor (wi:TI)(g:TG)(tb:TS):TS:=fun D U H=>wi U H fun J H1=>∃W:Nat->Nat->St->Hp->Prop,(∃m,W 0 m U H1)/\∀i m U H,W i m U H ->
 (J.stop i H/\D.nx U H)\/(J.go i H/\∃N:St->Hp->Prop,(∀U' H',N U' H'->∃m',m'<m/\W (i+1) m' U' H')/\∀x H',J.yld i H x H'->g x U H' fun U2 H2=>tb { D with nx:=N,ct:=N,bk:=D.nx } U2 H2)
noncomputable def Ze0 (fp:List Addr)(h:Heap):List (Addr×Obj):=fp.filterMap fun b=>(h.get? b).map fun o=>(b,o)
theorem Zb9 {fp:List Addr}{h:Heap}{b:Addr}{o:Obj}(hb:b∈fp)(e:h.get? b=some o):(b,o)∈Ze0 fp h:=List.mem_filterMap.mpr ⟨b,hb,by rw[e];rfl⟩
theorem Zip {fp:List Addr}{h:Heap}{p:Addr×Obj}(hp:p∈Ze0 fp h):p.1∈fp/\h.get? p.1=some p.2:=by
 obtain⟨b,hb,e⟩:=List.mem_filterMap.mp hp
 cases q:h.get? b with
 | none=>rw[q]at e;cases e
 | some o=>
  rw[q]at e
  have e':(b,o)=p:=Option.some.inj e
  subst e'
  exact⟨hb,q⟩
theorem Inv.pinned {pins:List (Addr×Obj)}{U:St}{H:Hp}{s:Shared}{fp:List Addr}(I:Inv X pins U H s)(hf:∀b∈fp,FpOk X pins H b)(ho:∀b∈fp,∃o,s.heap.get? b=some o/\∀v,o.data≠.cell v):Inv X (pins++Ze0 fp s.heap) U H s:=
 I.pins_of fun p hp=>(YAZ.mp hp).elim (fun z=>I.pin p (YBL _ z)) fun z=>by
  obtain⟨hb,e⟩:=Zip z
  obtain⟨f0,f1,f2,_⟩:=hf p.1 hb
  obtain⟨o,e',d⟩:=ho p.1 hb
  rw[e]at e';cases e'
  exact⟨e,f0,f1,f2,d⟩
theorem Inv.unpinned {pins pl:List (Addr×Obj)}{U:St}{H:Hp}{s:Shared}(I:Inv X (pins++pl) U H s):Inv X pins U H s:=I.pins_of fun p hp=>I.pin p (YBL _ (List.mem_append_left _ hp))
theorem ZaZ {iter:Expr}{body:List Stmt}{wi:TI}{g:TG}{tb:TS}{pos:Pos}(hp:PassesOwn (model X.prog X.w) X.A X.env X.xe)(hc:X.calm=true)(hi:PI X tg iter wi)(hg:PG X tg g)(hb:PSs X body tb)
  (hs:∀x,foldedSetIterable iter X.env x=pure x:=by intro _;rfl):PS X (.For tg iter body [] pos) (tFor wi g tb):=by
 intro pins s U H D I h
 refine wpAny_For (thn (hi pins s U H _ I h) fun v s1 h1=>thn h1 fun itv s2 h2=>?_) hs
 obtain⟨it,fp,tn,J,H2,e,I2,T,st2,f2,W,⟨m0,w0⟩,turn⟩:=h2
 subst e
 have stat:∀ {H':Hp},(∀b∈fp,H' b=none)->∀b∈fp,FpOk X pins H' b:=fun hn b hb=>⟨hn b hb,(f2 b hb).2⟩
 refine codeAny_forLoop_any (fun n s'=>∃i U' H',Inv X pins U' H' s'/\tn i s'.heap/\(∀b∈fp,H' b=none)/\W i n U' H') ?_ m0 ⟨0,U,H2,I2,st2,fun b hb=>(f2 b hb).1,w0⟩
 rintro n s3 ⟨i,U3,H3,I3,st3,fr3,w3⟩
 rcases turn i n U3 H3 w3 with⟨stop,qn⟩|⟨go,N,hN,step⟩
 .refine YCY hp (thn (T.done X rfl rfl rfl hc i pins s3 U3 H3 X.xe I3 (stat fr3) st3 stop) fun r s4 ⟨hr,I4⟩=>?_)
  subst hr
  exact wpAny_execs_nil ⟨U3,H3,I4,qn⟩
 .refine YCY hp (thn (T.item X rfl rfl rfl hc i pins s3 U3 H3 X.xe I3 (stat fr3) st3 go) fun r s4 ⟨u,hr,h4⟩=>?_)
  subst hr
  refine YCY hp (thn h4 fun _ s5 ⟨x,H5,I5,r5,y5,st5,fr5⟩=>?_)
  have I5':=I5.pinned (stat fr5) (T.obj _ _ st5)
  refine YCY hp (thn (hg _ s5 U3 H5 x u _ I5' r5 (step x H5 y5)) fun _ s6 ⟨U6,H6,I6,q6⟩=>?_)
  refine YCY hp (thn (hb _ s6 U6 H6 _ I6 q6) fun f s7 q7=>?_)
  have again:∀ {U7:St} {H7:Hp},Inv X (pins++Ze0 fp s5.heap) U7 H7 s7->N U7 H7->∃m,m<n/\∃i U' H',Inv X pins U' H' s7/\tn i s7.heap/\(∀b∈fp,H' b=none)/\W i m U' H':=fun {U7 H7} I7 n7=>by
   obtain⟨m',hm,w7⟩:=hN U7 H7 n7
   refine⟨m',hm,i+1,U7,H7,I7.unpinned,T.keep _ _ _ st5 fun b hb o e=>(I7.pin (b,o) (YBL _ (YBL _ (Zb9 hb e)))).1,fun b hb=>?_,w7⟩
   obtain⟨o,e,d⟩:=T.obj _ _ st5 b hb
   exact(I7.pin (b,o) (YBL _ (YBL _ (Zb9 hb e)))).2.1
  cases f with
  | next=>obtain⟨U7,H7,I7,n7⟩:=q7;exact again I7 n7
  | cont=>obtain⟨U7,H7,I7,n7⟩:=q7;exact again I7 n7
  | brk=>obtain⟨U7,H7,I7,q7⟩:=q7;exact⟨U7,H7,I7.unpinned,q7⟩
  | ret v=>obtain⟨x7,U7,H7,I7,r7,q7⟩:=q7;exact⟨x7,U7,H7,I7.unpinned,r7,q7⟩
end
theorem Zj9 {K:Q44}{a:Addr}{xs:List V}{g:TG}{tb:TS}{D:Ends}{U:St}{H:Hp}(Pv:Nat->St->Hp->Prop)(h0:Pv 0 U H)(hl:∀i U H,i<=xs.length->Pv i U H->SqL K H a xs)
  (hs:∀i x U H,xs[i]?=some x->Pv i U H->g x U H fun U2 H2=>tb { D with nx:=Pv (i+1),ct:=Pv (i+1),bk:=D.nx } U2 H2) (hd:∀U H,Pv xs.length U H->D.nx U H):
  ∃W:Nat->Nat->St->Hp->Prop,(∃m,W 0 m U H)/\∀i m U H,W i m U H ->
   ((Itl K a).stop i H/\D.nx U H)\/((Itl K a).go i H/\∃N:St->Hp->Prop,(∀U' H',N U' H'->∃m',m'<m/\W (i+1) m' U' H')/\∀x H',(Itl K a).yld i H x H'->g x U H' fun U2 H2=>tb { D with nx:=N,ct:=N,bk:=D.nx } U2 H2):=by
 refine⟨fun i m U H=>m=xs.length-i/\i<=xs.length/\Pv i U H,⟨xs.length,by simp,YAq _,h0⟩,?_⟩
 rintro i m U H ⟨rfl,hi,p⟩
 have q:=hl i U H hi p
 by_cases hlt:i<xs.length
 .refine .inr ⟨⟨xs,xs[i],q,by simp[hlt]⟩,Pv (i+1),fun U' H' p'=>⟨xs.length-(i+1),by omega,rfl,hlt,p'⟩,fun x H' y=>?_⟩
  obtain⟨e,y⟩:=y
  subst e
  exact hs i x U _ (y xs q) p
 .have e:i=xs.length:=by omega
  subst e
  exact .inl ⟨⟨xs,q,YAH _⟩,hd U H p⟩
theorem Zi1 {lo:Int}{n:Nat}{g:TG}{tb:TS}{D:Ends}{U:St}{H:Hp}(Pv:Nat->St->Hp->Prop)(h0:Pv 0 U H)
  (hs:∀i U H,i<n->Pv i U H->g (.int (lo+i)) U H fun U2 H2=>tb { D with nx:=Pv (i+1),ct:=Pv (i+1),bk:=D.nx } U2 H2) (hd:∀U H,Pv n U H->D.nx U H):
  ∃W:Nat->Nat->St->Hp->Prop,(∃m,W 0 m U H)/\∀i m U H,W i m U H ->
   ((Itr lo n).stop i H/\D.nx U H)\/((Itr lo n).go i H/\∃N:St->Hp->Prop,(∀U' H',N U' H'->∃m',m'<m/\W (i+1) m' U' H')/\∀x H',(Itr lo n).yld i H x H'->g x U H' fun U2 H2=>tb { D with nx:=N,ct:=N,bk:=D.nx } U2 H2):=by
 refine⟨fun i m U H=>m=n-i/\i<=n/\Pv i U H,⟨n,by simp,YAq _,h0⟩,?_⟩
 rintro i m U H ⟨rfl,hi,p⟩
 by_cases hlt:i<n
 .refine .inr ⟨hlt,Pv (i+1),fun U' H' p'=>⟨n-(i+1),by omega,rfl,hlt,p'⟩,fun x H' y=>?_⟩
  obtain⟨e,y⟩:=y
  subst e y
  exact hs i U _ hlt p
 .have e:i=n:=by omega
  subst e
  exact .inl ⟨YAH _,hd U H p⟩
abbrev R2:=V->V->Hp->VK->Prop
def OpR (X:Cx)(f:Value->Value->Sem Value)(r:R2):Prop:=
 ∀(pins:List (Addr×Obj)) (s:Shared) (U:St) (H:Hp) (x y:V) (v u:Value) (Q:VK),Inv X pins U H s->RelV x v->RelV y u->r x y H Q ->
  wpAny (model X.prog X.w) X.A (f v u) (EP X pins U Q) X.xe s
def UnR (X:Cx)(f:Value->Sem Value)(r:V->Hp->VK->Prop):Prop:=
 ∀(pins:List (Addr×Obj)) (s:Shared) (U:St) (H:Hp) (x:V) (v:Value) (Q:VK),Inv X pins U H s->RelV x v->r x H Q ->
  wpAny (model X.prog X.w) X.A (f v) (EP X pins U Q) X.xe s
def ZbU (X:Cx)(f:Value)(r:List V->Hp->VK->Prop):Prop:=
 ∀(pins:List (Addr×Obj)) (s:Shared) (U:St) (H:Hp) (xs:List V) (us:List Value) (Q:VK),Inv X pins U H s->Vals xs us->r xs H Q ->
  wpAny (model X.prog X.w) X.A (call f us) (EP X pins U Q) X.xe s
def TruR (X:Cx)(r:V->Hp->(Bool->Hp->Prop)->Prop):Prop:=
 ∀(pins:List (Addr×Obj)) (s:Shared) (U:St) (H:Hp) (x:V) (v:Value) (Q:Bool->Hp->Prop),Inv X pins U H s->RelV x v->r x H Q ->
  wpAny (model X.prog X.w) X.A (truthy v) (TP X pins U Q) X.xe s
def tOp (r:R2)(ta tb:TE):TE:=fun U H Q=>ta U H fun x H1=>tb U H1 fun y H2=>r x y H2 Q
def tUn (r:V->Hp->VK->Prop)(ta:TE):TE:=fun U H Q=>ta U H fun x H1=>r x H1 Q
def rI (C:Int->Int->Prop)(g:Int->Int->V):R2:=fun x y H Q=>∃i j,x=.int i/\y=.int j/\C i j/\Q (g i j) H
def rI0 (g:Int->Int->V):R2:=fun x y H Q=>∃i j,x=.int i/\y=.int j/\Q (g i j) H
def rU (g:Int->V):V->Hp->VK->Prop:=fun x H Q=>∃i,x=.int i/\Q (g i) H
section
variable {X:Cx}{a b c:Expr}{ta tb tc:TE}{pos:Pos}
theorem binT (ha:PE X a ta)(hb:PE X b tb){pins:List (Addr×Obj)}{s:Shared}{U:St}{H:Hp}{R:V->V->Hp->Prop}(I:Inv X pins U H s)
  (h:ta U H fun x H1=>tb U H1 fun y H2=>R x y H2) {Q:Q33} {f:Value->Value->Sem Value}
  (hf:∀v u s2 x y H2,Inv X pins U H2 s2->RelV x v->RelV y u->R x y H2->wpAny (model X.prog X.w) X.A (f v u) Q X.xe s2):
  wpAny (model X.prog X.w) X.A (eval a X.env) (fun v s_1=>wpAny (model X.prog X.w) X.A (eval b X.env) (fun u s_2=>wpAny (model X.prog X.w) X.A (f v u) Q X.xe s_2) X.xe s_1) X.xe s:=by
 refine thn (ha pins s U H _ I h) fun v s1 ⟨x,H1,I1,r1,q1⟩=>?_
 refine thn (hb pins s1 U H1 _ I1 q1) fun u s2 ⟨y,H2,I2,r2,q2⟩=>?_
 exact hf v u s2 x y H2 I2 r1 r2 q2
theorem ZaI {op:Operator}{r:R2}(ho:OpR X (binaryOp op) r)(ha:PE X a ta)(hb:PE X b tb):PE X (.BinOp a op b pos) (tOp r ta tb):=by
 intro pins s U H Q I h
 exact wpAny_BinOp (binT ha hb I h fun v u s2 x y H2 I2 rx ry q=>ho pins s2 U H2 x y v u Q I2 rx ry q)
theorem ZjE {op:UnaryOp}{r:V->Hp->VK->Prop}(ho:UnR X (unaryOp op) r)(ha:PE X a ta):PE X (.UnaryOp op a pos) (tUn r ta):=by
 intro pins s U H Q I h
 exact UnaryOp_ (thn (ha pins s U H _ I h) fun v s1 ⟨x,H1,I1,r1,q1⟩=>ho pins s1 U H1 x v Q I1 r1 q1)
theorem opI {f:Value->Value->Sem Value}{C:Int->Int->Prop}{g:Int->Int->Int}
  (rule:∀(i j:Int) (t u:Tok) (s:Shared) (Q:Q33) (E:Q33),C i j->Q (.int (g i j) s.toks) { s with toks:=s.toks+1 }->wpAny (model X.prog X.w) X.A (f (.int i t) (.int j u)) Q E s):
  OpR X f (rI C fun i j=>.int (g i j)):=by
 intro pins s U H x y v u Q I rx ry h
 obtain⟨i,j,rfl,rfl,hc,q⟩:=h
 obtain⟨t,rfl⟩:=rx
 obtain⟨t',rfl⟩:=ry
 exact rule i j t t' s _ _ hc ⟨.int (g i j),H,I.tok _,⟨_,rfl⟩,q⟩
theorem opI0 {f:Value->Value->Sem Value}{g:Int->Int->Int}
  (rule:∀(i j:Int) (t u:Tok) (s:Shared) (Q:Q33) (E:Q33),Q (.int (g i j) s.toks) { s with toks:=s.toks+1 }->wpAny (model X.prog X.w) X.A (f (.int i t) (.int j u)) Q E s):
  OpR X f (rI0 fun i j=>.int (g i j)):=by
 intro pins s U H x y v u Q I rx ry h
 obtain⟨i,j,rfl,rfl,q⟩:=h
 obtain⟨t,rfl⟩:=rx
 obtain⟨t',rfl⟩:=ry
 exact rule i j t t' s _ _ ⟨.int (g i j),H,I.tok _,⟨_,rfl⟩,q⟩
theorem opB0 {f:Value->Value->Sem Value}{g:Int->Int->Bool}
  (rule:∀(i j:Int) (t u:Tok) (s:Shared) (Q:Q33) (E:Q33),Q (.bool (g i j)) s->wpAny (model X.prog X.w) X.A (f (.int i t) (.int j u)) Q E s):
  OpR X f (rI0 fun i j=>.bl (g i j)):=by
 intro pins s U H x y v u Q I rx ry h
 obtain⟨i,j,rfl,rfl,q⟩:=h
 obtain⟨t,rfl⟩:=rx
 obtain⟨t',rfl⟩:=ry
 exact rule i j t t' s _ _ ⟨.bl (g i j),H,I,rfl,q⟩
def CDiv (i j:Int):Prop:=0<j/\j<1073741824
def CMul (i j:Int):Prop:=(-(2 ^ 64)<i/\i<2 ^ 64)\/(-(2 ^ 64)<j/\j<2 ^ 64)
theorem CMul.ok {i j:Int}(h:CMul i j):IntMulOk i j:=by
 rcases h with⟨h1,h2⟩|⟨h1,h2⟩
 .exact .of_left (intBits_le_64 h1 h2)
 .exact .of_right (intBits_le_64 h1 h2)
theorem ZbW:OpR X (binaryOp .Add) (rI0 fun i j=>.int (i+j)):=opI0 fun _ _ _ _ _ _ _ q=>add_int q
theorem ZgI:OpR X (binaryOp .Sub) (rI0 fun i j=>.int (i-j)):=opI0 fun _ _ _ _ _ _ _ q=>sub_int q
theorem Zc1:OpR X (binaryOp .Mult) (rI CMul fun i j=>.int (i*j)):=opI fun _ _ _ _ _ _ _ hc q=>mul_int q hc.ok
theorem Zly:OpR X (binaryOp .FloorDiv) (rI CDiv fun i j=>.int (i/j)):=opI fun i j _ _ _ _ _ hc q=>by
 have h1:(0:Int)<j:=hc.1
 have h2:j<1073741824:=hc.2
 exact floordiv_int (by omega) (by rw[Int.fdiv_eq_ediv_of_nonneg i (by omega)];exact q) (.inl (PyProof.noPylong_small (by omega)))
theorem ZbV:OpR X (binaryOp .Mod) (rI (fun _ j=>0<j) fun i j=>.int (i % j)):=opI fun i j _ _ _ _ _ hc q=>by
 have h1:(0:Int)<j:=hc
 exact mod_int' (by omega) (by rw[Int.fmod_eq_emod_of_nonneg i (by omega)];exact q)
theorem unI {f:Value->Sem Value}{g:Int->Int}
  (rule:∀(i:Int) (t:Tok) (s:Shared) (Q:Q33) (E:Q33),Q (.int (g i) s.toks) { s with toks:=s.toks+1 }->wpAny (model X.prog X.w) X.A (f (.int i t)) Q E s):
  UnR X f (rU fun i=>.int (g i)):=by
 intro pins s U H x v Q I rx h
 obtain⟨i,rfl,q⟩:=h
 obtain⟨t,rfl⟩:=rx
 exact rule i t s _ _ ⟨.int (g i),H,I.tok _,⟨_,rfl⟩,q⟩
theorem Zgp:UnR X (unaryOp .USub) (rU fun i=>.int (-i)):=unI fun _ _ _ _ _ q=>neg_int q
end
noncomputable def scal:V->V->Bool
 | .non,.non=>true | .non,.int _=>true | .int _,.non=>true | .non,.bl _=>true | .bl _,.non=>true | .non,.str _=>true | .str _,.non=>true
 | .int _,.int _=>true | .bl _,.bl _=>true | .str _,.str _=>true | .byt _,.byt _=>true
 | .int _,.str _=>true | .str _,.int _=>true | .bl _,.str _=>true | .str _,.bl _=>true
 | _,_=>false
def rEq:R2:=fun x y H Q=>scal x y=true/\Q (.bl (decide (x=y))) H
def rNe:R2:=fun x y H Q=>scal x y=true/\Q (.bl (!decide (x=y))) H
theorem Zja {i j:Int}:decide (V.int i=V.int j)=(i == j):=by
 rw[YBR]
 simp
theorem ZkQ {i j:Bool}:decide (V.bl i=V.bl j)=(i == j):=by
 rw[YBR]
 simp
theorem Zi9 {i j:Str}:decide (V.str i=V.str j)=(i == j):=by
 rw[YBR]
 simp
theorem Zjb {i j:Array UInt8}:decide (V.byt i=V.byt j)=(i.toList == j.toList):=by
 rw[YBR]
 cases i
 cases j
 simp
section
variable {X:Cx}{a b c:Expr}{ta tb tc:TE}{pos:Pos}
theorem ZaG {pins:List (Addr×Obj)}{U:St}{H:Hp}{s:Shared}{Q:VK}{k k':Bool}(I:Inv X pins U H s)(q:Q (.bl k) H)(e:k=k'):EP X pins U Q (.bool k') s:=by
 subst e
 exact⟨.bl k,H,I,rfl,q⟩
theorem Zpz:OpR X (compareOp .Eq) rEq:=by
 intro pins s U H x y v u Q I rx ry h
 obtain⟨hs,q⟩:=h
 cases x with
 | non=>
  cases rx
  cases y with
  | non=>cases ry;exact PySem.EqNone.eq_none_none (ZaG I q (by simp))
  | bl j=>cases ry;exact PySem.EqNone.eq_none_bool (ZaG I q (by simp))
  | int j=>obtain⟨t',rfl⟩:=ry;exact PySem.EqNone.eq_none_int (ZaG I q (by simp))
  | str j=>obtain⟨t',rfl⟩:=ry;exact PySem.EqNone.eq_none_str (ZaG I q (by simp))
  | _=>exact absurd (show false=true from hs) YAD
 | bl i=>
  cases rx
  cases y with
  | non=>cases ry;exact PySem.EqNone.eq_bool_none (ZaG I q (by simp))
  | bl j=>cases ry;exact eq_bool (ZaG I q ZkQ)
  | str j=>obtain⟨t',rfl⟩:=ry;exact PySem.EqMixed.eq_bool_str (ZaG I q (by simp))
  | _=>exact absurd (show false=true from hs) YAD
 | int i=>
  obtain⟨t,rfl⟩:=rx
  cases y with
  | non=>cases ry;exact PySem.EqNone.eq_int_none (ZaG I q (by simp))
  | int j=>obtain⟨t',rfl⟩:=ry;exact eq_int (ZaG I q Zja)
  | str j=>obtain⟨t',rfl⟩:=ry;exact PySem.EqMixed.eq_int_str (ZaG I q (by simp))
  | _=>exact absurd (show false=true from hs) YAD
 | str i=>
  obtain⟨t,rfl⟩:=rx
  cases y with
  | non=>cases ry;exact PySem.EqNone.eq_str_none (ZaG I q (by simp))
  | bl j=>cases ry;exact PySem.EqMixed.eq_str_bool (ZaG I q (by simp))
  | int j=>obtain⟨t',rfl⟩:=ry;exact PySem.EqMixed.eq_str_int (ZaG I q (by simp))
  | str j=>obtain⟨t',rfl⟩:=ry;exact eq_str (ZaG I q Zi9)
  | _=>exact absurd (show false=true from hs) YAD
 | byt i=>
  obtain⟨t,rfl⟩:=rx
  cases y with
  | byt j=>obtain⟨t',rfl⟩:=ry;exact PySem.W.eq_bytes (ZaG I q Zjb)
  | _=>exact absurd (show false=true from hs) YAD
 | _=>cases y<;>exact absurd (show false=true from hs) YAD
theorem Zpx:OpR X (compareOp .NotEq) rNe:=by
 intro pins s U H x y v u Q I rx ry h
 obtain⟨hs,q⟩:=h
 cases x with
 | non=>
  cases rx
  cases y with
  | non=>cases ry;exact PySem.EqNone.ne_none_none (ZaG I q (by simp))
  | bl j=>cases ry;exact PySem.EqNone.ne_none_bool (ZaG I q (by simp))
  | int j=>obtain⟨t',rfl⟩:=ry;exact PySem.EqNone.ne_none_int (ZaG I q (by simp))
  | str j=>obtain⟨t',rfl⟩:=ry;exact PySem.EqNone.ne_none_str (ZaG I q (by simp))
  | _=>exact absurd (show false=true from hs) YAD
 | bl i=>
  cases rx
  cases y with
  | non=>cases ry;exact PySem.EqNone.ne_bool_none (ZaG I q (by simp))
  | bl j=>cases ry;exact ne_bool (ZaG I q (congrArg not ZkQ))
  | str j=>obtain⟨t',rfl⟩:=ry;exact PySem.EqMixed.ne_bool_str (ZaG I q (by simp))
  | _=>exact absurd (show false=true from hs) YAD
 | int i=>
  obtain⟨t,rfl⟩:=rx
  cases y with
  | non=>cases ry;exact PySem.EqNone.ne_int_none (ZaG I q (by simp))
  | int j=>obtain⟨t',rfl⟩:=ry;exact ne_int (ZaG I q (congrArg not Zja))
  | str j=>obtain⟨t',rfl⟩:=ry;exact PySem.EqMixed.ne_int_str (ZaG I q (by simp))
  | _=>exact absurd (show false=true from hs) YAD
 | str i=>
  obtain⟨t,rfl⟩:=rx
  cases y with
  | non=>cases ry;exact PySem.EqNone.ne_str_none (ZaG I q (by simp))
  | bl j=>cases ry;exact PySem.EqMixed.ne_str_bool (ZaG I q (by simp))
  | int j=>obtain⟨t',rfl⟩:=ry;exact PySem.EqMixed.ne_str_int (ZaG I q (by simp))
  | str j=>obtain⟨t',rfl⟩:=ry;exact ne_str (ZaG I q (congrArg not Zi9))
  | _=>exact absurd (show false=true from hs) YAD
 | byt i=>
  obtain⟨t,rfl⟩:=rx
  cases y with
  | byt j=>obtain⟨t',rfl⟩:=ry;exact PySem.W.ne_bytes (ZaG I q (congrArg not Zjb))
  | _=>exact absurd (show false=true from hs) YAD
 | _=>cases y<;>exact absurd (show false=true from hs) YAD
theorem Zhj:OpR X (compareOp .Lt) (rI0 fun i j=>.bl (decide (i<j))):=opB0 fun _ _ _ _ _ _ _ q=>lt_int q
theorem ZmV:OpR X (compareOp .LtE) (rI0 fun i j=>.bl (decide (i<=j))):=opB0 fun _ _ _ _ _ _ _ q=>le_int q
theorem Zhm:OpR X (compareOp .Gt) (rI0 fun i j=>.bl (decide (j<i))):=opB0 fun _ _ _ _ _ _ _ q=>gt_int q
theorem Zpy:OpR X (compareOp .GtE) (rI0 fun i j=>.bl (decide (j<=i))):=opB0 fun _ _ _ _ _ _ _ q=>ge_int q
theorem Ze7:OpR X (compareOp .In) (fun x y H Q=>∃i j,x=.str i/\y=.str j/\Q (.bl (!(Builtin.Str.occurrences j i 0 j.length 1).isEmpty)) H):=by
 intro pins s U H x y v u Q I rx ry h
 obtain⟨i,j,rfl,rfl,q⟩:=h
 obtain⟨t,rfl⟩:=rx
 obtain⟨t',rfl⟩:=ry
 exact in_str (ZaG I q rfl)
theorem ZmW:OpR X (compareOp .Is) (fun x y H Q=>y=.non/\Q (.bl (decide (x=.non))) H):=by
 intro pins s U H x y v u Q I rx ry h
 obtain⟨rfl,q⟩:=h
 cases ry
 refine is_none_gen (ZaG I q ?_)
 cases x<;>first
  | (cases rx;rfl)
  | (obtain⟨t,rfl⟩:=rx;rfl)
theorem Ze5:OpR X (compareOp .NotIn) (fun x y H Q=>∃i j,x=.str i/\y=.str j/\Q (.bl (!(!(Builtin.Str.occurrences j i 0 j.length 1).isEmpty))) H):=by
 intro pins s U H x y v u Q I rx ry h
 obtain⟨i,j,rfl,rfl,q⟩:=h
 obtain⟨t,rfl⟩:=rx
 obtain⟨t',rfl⟩:=ry
 exact notIn_str (ZaG I q rfl)
theorem ZaA (b:Expr){op:CmpOp}(h:op≠.In:=by decide)(h2:op≠.NotIn:=by decide):behindInMarks op b=false:=by
 have e1:(op == CmpOp.In)=false:=by cases op<;>first | rfl | exact absurd rfl h
 have e2:(op == CmpOp.NotIn)=false:=by cases op<;>first | rfl | exact absurd rfl h2
 cases b<;>simp[behindInMarks,e1,e2]
theorem Za3 {op:CmpOp}{r:R2}(ho:OpR X (compareOp op) r)(ha:PE X a ta)(hb:PE X b tb)(hm:behindInMarks op b=false):PE X (.Compare a [op] [b] pos) (tOp r ta tb):=by
 intro pins s U H Q I h
 exact wpAny_Compare1 (binT ha hb I h fun v u s2 x y H2 I2 rx ry q=>ho pins s2 U H2 x y v u Q I2 rx ry q) hm
def Zk2 (t:TE):TT:=fun U H Q=>t U H fun x H'=>∃k,x=.bl k/\Q k H'
theorem Zau {op:CmpOp}{r:R2}(ho:OpR X (compareOp op) r)(ha:PE X a ta)(hb:PE X b tb)(hm:behindInMarks op b=false):PT X (.Compare a [op] [b] pos) (Zk2 (tOp r ta tb)):=by
 intro pins s U H Q I h
 refine wpAny_isTrue_Compare1 (thn (ha pins s U H _ I h) fun v s1 ⟨x,H1,I1,r1,q1⟩=>thn (hb pins s1 U H1 _ I1 q1) fun u s2 ⟨y,H2,I2,r2,q2⟩=>
  thn (ho pins s2 U H2 x y v u _ I2 r1 r2 q2) fun c s3 ⟨z,H3,I3,r3,k,e,q3⟩=>?_) hm
 subst e
 cases r3
 exact YBc ⟨H3,I3,q3⟩
def Zkv (r r':R2)(ta tb tc:TE):TE:=fun U H Q=>ta U H fun x H1=>tb U H1 fun y H2=>r x y H2 fun z H3=>∃k,z=.bl k /\
 (if k=true then tc U H3 fun w' H4=>r' y w' H4 Q else Q (.bl false) H3)
theorem ZjC {op op':CmpOp}{r r':R2}(ho:OpR X (compareOp op) r)(ho':OpR X (compareOp op') r')(ha:PE X a ta)(hb:PE X b tb)(hc:PE X c tc)
  (hm:lastMarks [op,op'] [b,c]=false:=by with_unfolding_all rfl):PT X (.Compare a [op,op'] [b,c] pos) (Zk2 (Zkv r r' ta tb tc)):=by
 intro pins s U H Q I h
 refine isTrue_chain (thn (ha pins s U H _ I h) fun v s1 ⟨x,H1,I1,r1,q1⟩=>test_link (thn (hb pins s1 U H1 _ I1 q1) fun u s2 ⟨y,H2,I2,r2,q2⟩=>
  thn (ho pins s2 U H2 x y v u _ I2 r1 r2 q2) fun d s3 ⟨z,H3,I3,r3,k,e,q3⟩=>?_)) hm
 subst e
 cases r3
 refine YBc ?_
 cases k with
 | false=>
  obtain⟨k',e',q'⟩:=q3
  cases e'
  exact ite_ff ⟨H3,I3,q'⟩
 | true=>
  refine ite_tt (test_last (thn (hc pins s3 U H3 _ I3 q3) fun w' s4 ⟨z',H4,I4,r4,q4⟩=>thn (ho' pins s4 U H4 y z' u w' _ I4 r2 r4 q4) fun d' s5 ⟨z2,H5,I5,r5,k2,e2,q5⟩=>?_))
  subst e2
  cases r5
  exact YBc ⟨H5,I5,q5⟩
def TruV (K:Q44)(x:V)(H:Hp)(k:Bool):Prop:=
 match x with
 | .non=>k=false
 | .bl b=>k=b
 | .int i=>k=(i != 0)
 | .str y=>y.length<=sizeLine/\k=((y.length:Int) != 0)
 | .byt y=>y.size<=sizeLine/\k=((y.size:Int) != 0)
 | .ref p=>(∃xs,SqL K H p xs/\k=!xs.isEmpty)\/(∃xs,SqT K H p xs/\k=!xs.isEmpty)\/∃kvs,H p=some (.dK kvs)/\k=!kvs.isEmpty
 | _=>False
theorem Zhx {κ:Type}{kvs:List (κ×V)}{vs:List (κ×Value)}(r:KV kvs vs):(!vs.isEmpty)=!kvs.isEmpty:=by
 cases r<;>rfl
theorem Zd5 {xs:List V}{its:List Value}(r:Vals xs its):(!its.toArray.isEmpty)=!xs.isEmpty:=by
 cases r<;>simp
theorem Zfd:(sizeLine:Nat)<2 ^ 63:=by rw[sizeLine_eq];decide
theorem Zqb:TruR X (fun x H Q=>∃k,TruV X.K x H k/\Q k H):=by
 intro pins s U H x v Q I rx h
 obtain⟨k,e,q⟩:=h
 have hl:=Zfd
 have hs:sizeLine=16777216:=sizeLine_eq
 cases x with
 | non=>
  cases rx
  have e':k=false:=e
  subst e'
  exact truthy_none ⟨H,I,q⟩
 | bl b=>
  cases rx
  have e':k=b:=e
  subst e'
  exact YBc ⟨H,I,q⟩
 | int i=>
  obtain⟨t,rfl⟩:=rx
  have e':k=(i != 0):=e
  subst e'
  exact PySem.P.truthy_int ⟨H,I,q⟩
 | str y=>
  obtain⟨t,rfl⟩:=rx
  obtain⟨hy,e'⟩:y.length<=sizeLine/\k=((y.length:Int) != 0):=e
  subst e'
  exact PySem.P.truthy_str (by omega) ⟨H,I.tok _,q⟩
 | byt y=>
  obtain⟨t,rfl⟩:=rx
  obtain⟨hy,e'⟩:y.size<=sizeLine/\k=((y.size:Int) != 0):=e
  subst e'
  exact PySem.W.truthy_bytes (by omega) ⟨H,I.tok _,q⟩
 | ref p=>
  cases rx
  have e':(∃xs,SqL X.K H p xs/\k=!xs.isEmpty)\/(∃xs,SqT X.K H p xs/\k=!xs.isEmpty)\/∃kvs,H p=some (.dK kvs)/\k=!kvs.isEmpty:=e
  rcases e' with⟨xs,hx,e'⟩|⟨xs,hx,e'⟩|⟨kvs,hx,e'⟩
  .subst e'
   obtain⟨its,r,pl,hz⟩:=I.list hx
   have hlen:=r.length
   exact wpAny_truthy_list pl.isList (by simp only[YAM];omega) ⟨H,I.tok _,by rw[Zd5 r];exact q⟩
  .subst e'
   obtain⟨its,r,pl,hz⟩:=I.tuple hx
   have hlen:=r.length
   exact truthy_tuple pl (by simp only[YAM];omega) ⟨H,I.tok _,by rw[Zd5 r];exact q⟩
  .subst e'
   obtain⟨hz,hS,vs,r,m⟩:kvs.length<=sizeLine/\(p == sysModules)=false/\∃vs,KV kvs vs/\s.heap.DictOf (Zaq X.prog X.w) p vs:=I.hok p _ hx
   have hlen:kvs.length=vs.length:=Paired.length r
   exact wpAny_truthy_dict hS m (by omega) ⟨H,I.tok _,by rw[Zhx r];exact q⟩
 | _=>exact(show False from e).elim
theorem Zhn:OpR X (binaryOp .Add) (fun x y H Q=>∃i j,x=.str i/\y=.str j/\i.length+j.length<=sizeLine/\Q (.str (i++j)) H):=by
 intro pins s U H x y v u Q I rx ry h
 obtain⟨i,j,rfl,rfl,hz,q⟩:=h
 obtain⟨t,rfl⟩:=rx
 obtain⟨t',rfl⟩:=ry
 exact add_str (fun t' tk=>⟨.str (i++j),H,I.tok _,⟨_,rfl⟩,q⟩) hz
theorem vals1 {x:V}{us:List Value}(r:Vals [x] us):∃u,us=[u]/\RelV x u:=by
 cases r with
 | cons r1 r2=>cases r2;exact⟨_,rfl,r1⟩
theorem Zkk:ZbU X (.builtin "abs") (fun xs H Q=>∃i,xs=[.int i]/\Q (.int (if i<0 then -i else i)) H):=by
 intro pins s U H xs us Q I r h
 obtain⟨i,rfl,q⟩:=h
 obtain⟨u,rfl,t,rfl⟩:=vals1 r
 exact call_abs_int fun u tk=>⟨.int (if i<0 then -i else i),H,I.tok _,⟨_,rfl⟩,q⟩
theorem Zji:ZbU X (.type "int") (fun xs H Q=>(∃i,xs=[.int i]/\Q (.int i) H)\/∃k,xs=[.bl k]/\Q (.int (if k then 1 else 0)) H):=by
 intro pins s U H xs us Q I r h
 rcases h with⟨i,rfl,q⟩|⟨k,rfl,q⟩
 .obtain⟨u,rfl,t,rfl⟩:=vals1 r
  exact call_int_int ⟨.int i,H,I,⟨_,rfl⟩,q⟩
 .obtain⟨u,rfl,r1⟩:=vals1 r
  cases r1
  exact call_int_bool ⟨.int (if k then 1 else 0),H,I.tok _,⟨_,rfl⟩,q⟩
def LenV (K:Q44)(x:V)(H:Hp)(n:Nat):Prop:=
 match x with
 | .str y=>y.length<=sizeLine/\n=y.length
 | .byt y=>y.size<=sizeLine/\n=y.size
 | .ref p=>(∃xs,SqL K H p xs/\n=xs.length)\/∃xs,SqT K H p xs/\n=xs.length
 | _=>False
theorem Zki:ZbU X (.builtin "len") (fun xs H Q=>∃x n,xs=[x]/\LenV X.K x H n/\Q (.int n) H):=by
 intro pins s U H xs us Q I r h
 obtain⟨x,n,rfl,e,q⟩:=h
 obtain⟨u,rfl,rx⟩:=vals1 r
 have hl:=Zfd
 have hs:sizeLine=16777216:=sizeLine_eq
 cases x with
 | str y=>
  obtain⟨t,rfl⟩:=rx
  obtain⟨hy,e'⟩:y.length<=sizeLine/\n=y.length:=e
  subst e'
  exact len_str (by omega) ⟨.int _,H,I.tok _,⟨_,rfl⟩,q⟩
 | byt y=>
  obtain⟨t,rfl⟩:=rx
  obtain⟨hy,e'⟩:y.size<=sizeLine/\n=y.size:=e
  subst e'
  exact PySem.W.len_bytes (by omega) ⟨.int _,H,I.tok _,⟨_,rfl⟩,q⟩
 | ref p=>
  cases rx
  have e':(∃xs,SqL X.K H p xs/\n=xs.length)\/∃xs,SqT X.K H p xs/\n=xs.length:=e
  rcases e' with⟨xs,hx,e'⟩|⟨xs,hx,e'⟩
  .subst e'
   obtain⟨its,r',pl,hz⟩:=I.list hx
   have hlen:=r'.length
   exact Calls.call_len_list pl.isList (by simp only[YAM];omega) ⟨.int xs.length,H,I.tok _,⟨_,by simp only[YAM];rw[hlen]⟩,q⟩
  .subst e'
   obtain⟨its,r',pl,hz⟩:=I.tuple hx
   have hlen:=r'.length
   exact len_tuple pl (by simp only[YAM];omega) ⟨.int xs.length,H,I.tok _,⟨_,by simp only[YAM];rw[hlen]⟩,q⟩
 | _=>exact(show False from e).elim
end
structure ObjM (h:Heap)(x dx C:Addr)(mA:Str->Option Value):Prop where
 obj:h.get? x=some (PySem.W.instObj C dx)
 ns:h.Ns1 dx mA
 ne:dx≠x
theorem ZdA {h:Heap}{dx:Addr}{mA:Str->Option Value}(n:h.Ns1 dx mA):∃od,h.get? dx=some od/\∀name,PySem.W.lookIn name od=some (mA name):=by
 obtain⟨o,es,ep,ho,hd,hk,_,hm⟩:=n
 refine⟨o,ho,fun name=>?_⟩
 have e:=hm name
 unfold nsFind findBy at e
 rw[<-Array.find?_toList]at e
 unfold PySem.W.lookIn
 rw[hd]
 dsimp only
 split
 .rename_i y q
  rw[q]at e
  exact congrArg some e
 .rename_i q
  rw[q]at e
  have a:es.toList.any (·.refKey)=false:=by
   rw[List.any_eq_false]
   intro y hy
   obtain⟨z,t,hkey⟩:=hk y (Array.mem_toList_iff.mp hy)
   simp[DictEntry.refKey,hkey]
  have a':¬es.toList.any (·.refKey)=true:=by rw[a];exact YAD
  rw[YAL a']
  exact congrArg some e
theorem ObjM.look {h:Heap}{x dx C:Addr}{mA:Str->Option Value}(I:ObjM h x dx C mA):∃od,PySem.W.InstAt h x (PySem.W.instObj C dx) C (some od)/\∀name,PySem.W.lookIn name od=some (mA name):=
 let ⟨od,ho,hl⟩:=ZdA I.ns
 ⟨od,⟨I.obj,rfl,rfl,ho⟩,hl⟩
section
variable {prog:Program}{w:World}{A:Around}{E:Q33}{s:Shared}{K:Q44}{x dx C f:Addr}{mA:Str->Option Value}{name:Str}{v:Value}
theorem ZlP {expr:Bool}{Q:Q33}(X:K.In s.heap)(I:ObjM s.heap x dx C mA)(hg:PySem.W.plainGet K C name=true)(hh:PySem.W.hasDictIn K C=true)
  (ha:PySem.W.findIn K (.ref C) name=some none) (hv:mA name=some v) (hv':PySem.W.handedIn v=true) (h:Q v { s with toks:=s.toks+1 }):
  wpAny (model prog w) A (getAttr (.ref x) name expr) Q E s:=by
 obtain⟨od,J,hl⟩:=I.look
 exact PySem.W.get_value X J (PySem.W.plainGet_of hg).1 (PySem.W.findObj_own hh ha rfl (by rw[hl,hv])) hv' h
theorem Zj6 {pl:Sem Bool}{Q:Value×List Value->Shared->Prop}(X:K.In s.heap)(I:ObjM s.heap x dx C mA)(hg:PySem.W.plainGet K C name=true)
  (hf:PySem.W.findIn K (.ref C) name=some (some (.ref f))) (ht:PySem.W.isFn K (.ref f)=true) (hv:mA name=none) (h:Q (.ref f,[.ref x]) s):
  wpAny (model prog w) A (getMethod (.ref x) name pl) Q E s:=by
 obtain⟨od,J,hl⟩:=I.look
 exact PySem.W.method_fn X J (PySem.W.plainGet_of hg).1 (PySem.W.plainGet_of hg).2 hf (beq_iff_eq.mp ht) (by show (PySem.W.lookIn name od).map (·.isSome)=some false;rw[hl,hv];rfl) h
theorem Zle {ns:List Str}{Q:Unit->Shared->Prop}(X:K.In s.heap)(I:ObjM s.heap x dx C mA)
  (hs:PySem.W.findIn K (.ref C) "__setattr__"=some (some (.builtin "object.__setattr__"))) (hp:PySem.W.plainOver K C=true) (ht:PySem.W.takerIn K C name=some none) (hh:PySem.W.hasDictIn K C=true)
  (hw:PySem.Within mA ns) (hsz:ns.length<=sizeLine)
  (h:∀h',ObjM h' x dx C (fun y=>if y=name then some v else mA y)->Heap.SameBut dx s.heap h'->Q () { s with heap:=h',toks:=s.toks+2 }):
  wpAny (model prog w) A (setAttr (.ref x) name v) Q E s:=by
 obtain⟨od,J,hl⟩:=I.look
 refine PySem.W.set_plain X J hs (PySem.W.osa_open (s:={ s with toks:=s.toks+1 }) (r:=none) X J hp ht fun b=>?_)
 obtain⟨cd,hc,hd'⟩:=YDD hh
 have hx:s.heap.get? x=some ⟨.ref C,some dx,.plain,#[]⟩:=I.obj
 refine YAA (YAF (YAA (YAA (wpAny_loadPart hx (YAA (PySem.W.Looks.here (s:={ s with toks:=s.toks+1 }) (PySem.W.looks_clsIn X hc) ?_))))))
 rw[hd']
 refine YAF (a:=some dx) (YAA (YAF (YAA ?_)))
 refine wpAny_nsSet1 (s:={ s with toks:=s.toks+1 }) I.ns fun h' hn2 hs2=>?_
 obtain⟨oD,esD,epD,hoD,hdD,hcD⟩:=hn2.count (PySem.Within.cons name v hw)
 refine YAA (wpAny_lookBehind hoD (by rw[hdD];exact pastItsLine_dict (YAJ hcD (by rw[YAk];omega))) ?_)
 exact YAF (h _ ⟨(hs2.2 _ (YAv I.ne)).trans I.obj,hn2,I.ne⟩ hs2)
theorem ZjQ {R:Result->Shared->Prop}{vs:List Value}{kw:List (Str×Value)}(X:K.In s.heap)(hm:PySem.W.makesIn K C=true)
  (hi:PySem.W.findIn K (.ref C) "__init__"=some (some (.ref f))) (hf:PySem.W.typeIn K (.ref f)=some (.type "function"))
  (h:codeAny (model prog w) (A.under (.builtin "type.__call__" ⟨.ref C::vs,kw⟩)) (.call (.ref f) ⟨.ref (s.heap.objs.size+1)::vs,kw⟩) (PySem.W.InitBack (s.heap.objs.size+1) R)
   { s with heap:=(s.heap.push PySem.W.emptyDict).push (PySem.W.instObj C s.heap.objs.size) }):
  codeAny (model prog w) A (.call (.ref C) ⟨vs,kw⟩) R s:=by
 obtain⟨hh,g,d,t,os⟩:=s
 exact PySem.W.make_core (PySem.W.makes_of X hm) (PySem.W.looks_findIn X hi) (fun self=>PySem.W.bind_fn X self hf) (.inl rfl) h
end
noncomputable def putF (f:Str)(v:V):List (Str×V)->List (Str×V)
 | []=>[(f,v)]
 | (g,x)::r=>if g=f then (g,v)::r else (g,x)::putF f v r
theorem Zas (f g:Str)(v:V):∀fs:List (Str×V),(putF f v fs).lookup g=if g=f then some v else fs.lookup g
 | []=>by
  show List.lookup g [(f,v)]=_
  by_cases h:g=f
  .have hb:(g == f)=true:=beq_iff_eq.mpr h
   simp only[List.lookup,hb,YAP h]
  .have hb:(g == f)=false:=beq_eq_false_iff_ne.mpr h
   simp only[List.lookup,hb,YAL h]
 | (k,x)::r=>by
  have ih:=Zas f g v r
  rw[show putF f v ((k,x)::r)=(if k=f then (k,v)::r else (k,x)::putF f v r) from rfl]
  by_cases hk:k=f
  .rw[YAP hk]
   by_cases h:g=k
   .have hb:(g == k)=true:=beq_iff_eq.mpr h
    simp only[List.lookup,hb,YAP (h.trans hk)]
   .have hb:(g == k)=false:=beq_eq_false_iff_ne.mpr h
    simp only[List.lookup,hb,YAL (fun e:g=f=>h (e.trans hk.symm))]
  .rw[YAL hk]
   by_cases h:g=k
   .have hb:(g == k)=true:=beq_iff_eq.mpr h
    simp only[List.lookup,hb,YAL (fun e:g=f=>hk (h.symm.trans e))]
   .have hb:(g == k)=false:=beq_eq_false_iff_ne.mpr h
    simp only[List.lookup,hb]
    exact ih
theorem ZdD (f:Str)(v:V):∀fs:List (Str×V),f∈(putF f v fs).map (·.1)/\∀g,g∈fs.map (·.1)->g∈(putF f v fs).map (·.1)
 | []=>⟨by simp[putF],fun g h=>by simp at h⟩
 | (k,x)::r=>by
  obtain⟨i1,i2⟩:=ZdD f v r
  rw[show putF f v ((k,x)::r)=(if k=f then (k,v)::r else (k,x)::putF f v r) from rfl]
  by_cases hk:k=f
  .rw[YAP hk]
   subst hk
   exact⟨by simp,fun g h=>by simpa using h⟩
  .rw[YAL hk]
   refine⟨?_,fun g h=>?_⟩
   .rw[YAr]
    exact YAY _ i1
   .rw[YAr]at h ⊢
    rcases YAU.mp h with e | e
    .exact YAU.mpr (.inl e)
    .exact YAY _ (i2 g e)
theorem ZdB (f:Str)(v:V):∀fs:List (Str×V),(putF f v fs).length<=fs.length+1
 | []=>by simp[putF]
 | (k,x)::r=>by
  have ih:=ZdB f v r
  rw[show putF f v ((k,x)::r)=(if k=f then (k,v)::r else (k,x)::putF f v r) from rfl]
  by_cases hk:k=f
  .rw[YAP hk,YAk,YAk];omega
  .rw[YAL hk,YAk,YAk];omega
theorem RelO.some_of {v:V}{o:Option Value}(r:RelO (some v) o):∃u,o=some u/\RelV v u:=by
 cases o with
 | none=>exact(show False from r).elim
 | some u=>exact⟨u,rfl,r⟩
theorem RelO.none_of {o:Option Value}(r:RelO none o):o=none:=by
 cases o with
 | none=>rfl
 | some u=>exact(show False from r).elim
theorem ZiW {v:V}{u:Value}(r:RelV v u):PySem.W.handedIn u=true:=by
 cases v with
 | non=>cases (show u=Value.none from r);rfl
 | bl b=>cases (show u=Value.bool b from r);rfl
 | int i=>obtain⟨t,e⟩:=(show ∃t,u=Value.int i t from r);cases e;rfl
 | str x=>obtain⟨t,e⟩:=(show ∃t,u=Value.str x t from r);cases e;rfl
 | byt b=>obtain⟨t,e⟩:=(show ∃t,u=Value.bytes b t from r);cases e;rfl
 | flt b=>obtain⟨t,e⟩:=(show ∃t,u=Value.float b t from r);cases e;rfl
 | ref a=>cases (show u=Value.ref a from r);rfl
 | ty n=>cases (show u=Value.type n from r);rfl
section
variable {P:Program}{w:World}{H H':Hp}{h h':Heap}{a C dx:Addr}{fs fs':List (Str×V)}
theorem Zew (hok:HOk P w H h)(e:H a=some (.ins C dx fs)):∃mA,ObjM h a dx C mA/\(∀f,RelO (fs.lookup f) (mA f))/\PySem.Within mA (fs.map (·.1))/\fs.length<=1000/\H dx=some (.own a):=by
 obtain⟨d,z,ne,ob,mA,n,r,q⟩:=(show ObjOk P w H h a (.ins C dx fs) from hok a _ e)
 exact⟨mA,⟨ob,n,ne⟩,r,q,z,d⟩
end
structure Cls (K:Q44)(C:Addr):Prop where
 pg:PySem.W.plainGet K C Str.empty=true
 hd:PySem.W.hasDictIn K C=true
 po:PySem.W.plainOver K C=true
 sa:PySem.W.findIn K (.ref C) "__setattr__"=some (some (.builtin "object.__setattr__"))
theorem Cls.get {K:Q44}{C:Addr}(c:Cls K C)(f:Str):PySem.W.plainGet K C f=true:=c.pg
def NoAttr (K:Q44)(C:Addr)(f:Str):Prop:=PySem.W.findIn K (.ref C) f=some none
theorem NoAttr.taker {K:Q44}{C:Addr}{f:Str}(n:NoAttr K C f):PySem.W.takerIn K C f=some none:=by
 unfold PySem.W.takerIn
 rw[show PySem.W.findIn K (.ref C) f=some none from n]
 rfl
structure Meth (K:Q44)(C:Addr)(m:Str)(f:Addr):Prop where
 at_:PySem.W.findIn K (.ref C) m=some (some (.ref f))
 fn:PySem.W.isFn K (.ref f)=true
 kp:PySem.W.keepIn K (.ref f)=true
section
variable {X:Cx}{pins:List (Addr×Obj)}{U:St}{H:Hp}{s:Shared}{a C dx:Addr}{fs:List (Str×V)}{f:Str}{v:V}{A:Around}{E:Q33}
theorem Zhy {b:Bool}{Q:Q33}(I:Inv X pins U H s)(e:H a=some (.ins C dx fs))(c:Cls X.K C)(n:NoAttr X.K C f)(l:fs.lookup f=some v)
  (h:∀u s',Inv X pins U H s'->RelV v u->Q u s'):wpAny (model X.prog X.w) A (getAttr (.ref a) f b) Q E s:=by
 obtain⟨mA,O,r,_,_,_⟩:=Zew I.hok e
 obtain⟨u,hu,ru⟩:=RelO.some_of (v:=v) (o:=mA f) (by rw[<-l];exact r f)
 exact ZlP I.kIn O (c.get f) c.hd n hu (ZiW ru) (h u _ (I.tok _) ru)
theorem ZcQ {m:Str}{g:Addr}{pl:Sem Bool}{Q:Value×List Value->Shared->Prop}(I:Inv X pins U H s)(e:H a=some (.ins C dx fs))(c:Cls X.K C)(k:Meth X.K C m g)(l:fs.lookup m=none)
  (h:Q (.ref g,[.ref a]) s):wpAny (model X.prog X.w) A (getMethod (.ref a) m pl) Q E s:=by
 obtain⟨mA,O,r,_,_,_⟩:=Zew I.hok e
 have hn:mA m=none:=RelO.none_of (by rw[<-l];exact r m)
 exact Zj6 I.kIn O (c.get m) k.at_ k.fn hn h
theorem Zhf {y:V}{u:Value}{Q:Unit->Shared->Prop}(I:Inv X pins U H s)(e:H a=some (.ins C dx fs))(c:Cls X.K C)(n:NoAttr X.K C f)(hl:fs.length<1000)(ry:RelV y u)
  (h:∀s',Inv X pins U (upd H a (.ins C dx (putF f y fs))) s'->Q () s'):wpAny (model X.prog X.w) A (setAttr (.ref a) f u) Q E s:=by
 obtain⟨mA,O,r,wi,_,ho⟩:=Zew I.hok e
 have hz:(fs.map (·.1)).length<=sizeLine:=by rw[YAB,sizeLine_eq];omega
 refine Zle I.kIn O c.sa c.po n.taker c.hd wi hz fun h' O' sb=>h _ ?_
 have hd:∃o,h'.get? dx=some o:=let ⟨o,_,_,e',_⟩:=O'.ns;⟨o,e'⟩
 refine I.write (x:=a) (e:=dx) (by rw[e];exact True.intro) (.inr ho) (fun b q hb z=>(sb.2 b hb).trans z) hd ?_
 refine⟨by rw[Zac O.ne];exact ho,?_,O.ne,O'.obj,_,O'.ns,fun g=>?_,fun g hg=>?_⟩
 .have:=ZdB f y fs;omega
 .show RelO ((putF f y fs).lookup g) (if g=f then some u else mA g)
  rw[Zas]
  by_cases q:g=f
  .rw[YAP q,YAP q];exact ry
  .rw[YAL q,YAL q];exact r g
 .by_cases q:g=f
  .rw[q];exact(ZdD f y fs).1
  .refine(ZdD f y fs).2 g (wi g fun z=>hg ?_)
   show (if g=f then some u else mA g)=none
   rw[YAL q];exact z
theorem Inv.made (I:Inv X pins U H s):Inv X pins U (upd (upd H s.heap.objs.size (.own (s.heap.objs.size+1))) (s.heap.objs.size+1) (.ins C s.heap.objs.size []))
  { s with heap:=(s.heap.push PySem.W.emptyDict).push (PySem.W.instObj C s.heap.objs.size) }:=by
 have e1:(s.heap.push PySem.W.emptyDict).get? s.heap.objs.size=some PySem.W.emptyDict:=YAO s.heap rfl
 have e2:((s.heap.push PySem.W.emptyDict).push (PySem.W.instObj C s.heap.objs.size)).get? (s.heap.objs.size+1)=some (PySem.W.instObj C s.heap.objs.size):=by
  have:=YAO (s.heap.push PySem.W.emptyDict) (o:=PySem.W.instObj C s.heap.objs.size) rfl
  rwa [YBb]at this
 have e3:(s.heap.push PySem.W.emptyDict).Ns s.heap.objs.size (fun _=>none):=⟨PySem.W.emptyDict,#[],_,e1,rfl,(fun e he=>absurd he (by simp)),fun _=>rfl⟩
 have I1:=I.laid (a:=s.heap.objs.size) (o:=.own (s.heap.objs.size+1)) (h':=s.heap.push PySem.W.emptyDict) (t':=s.toks) (fun b u q=>YAC _ q) (YAH _) ⟨_,e1⟩
 refine I1.laid (a:=s.heap.objs.size+1) (o:=.ins C s.heap.objs.size []) (t':=s.toks) (fun b u q=>YAC _ q) (YCS (YBb _ _)) ?_
 have ne:s.heap.objs.size≠s.heap.objs.size+1:=YAd (YDF _)
 refine⟨by rw[Zac ne,Zad],YAq _,ne,e2,fun _=>none,(Heap.Ns1.of_empty e3).at fun o q=>YAC _ q,fun _=>True.intro,fun y hy=>absurd rfl hy⟩
theorem Zl4 {prog:Program}{w:World}{env:Env}{e:Expr}{f:Str}{pos:Pos}{s:Shared}{Q:Q33}(hb:attributeBase e f env (eval e env)=eval e env)
  (h:wpAny (model prog w) A (eval e env) (fun o s_1=>wpAny (model prog w) A (getAttr o f true) Q E s_1) E s):wpAny (model prog w) A (eval (.Attribute e f pos) env) Q E s:=
 Attribute_any_ h (by rw[arm_eval_Attribute,hb])
end
def tFld (K:Q44)(ta:TE)(f:Str):TE:=fun U H Q=>ta U H fun x H1=>∃a C dx fs v,x=.ref a/\H1 a=some (.ins C dx fs)/\Cls K C/\NoAttr K C f/\fs.lookup f=some v/\Q v H1
def sFld (K:Q44)(ta tv:TE)(f:Str):TS:=fun D U H=>tv U H fun y H1=>ta U H1 fun x H2=>∃a C dx fs,x=.ref a/\H2 a=some (.ins C dx fs)/\Cls K C/\NoAttr K C f/\fs.length<1000 /\
 D.nx U (upd H2 a (.ins C dx (putF f y fs)))
def InOp (X:Cx)(op:Operator)(rd:V->V->Hp->VK->Prop):Prop:=
 ∀(pins:List (Addr×Obj)) (s:Shared) (U:St) (H:Hp) (x y:V) (u v:Value) (Q:VK),Inv X pins U H s->RelV x u->RelV y v->rd x y H Q->wpAny (model X.prog X.w) X.A (inplaceOp op u v) (EP X pins U Q) X.xe s
section
variable {X:Cx}{o e value:Expr}{f:Str}{pos pos' tpos:Pos}{ta tv:TE}
theorem ZmS (he:PE X e ta)(hb:attributeBase e f X.env (eval e X.env)=eval e X.env):PE X (.Attribute e f pos) (tFld X.K ta f):=by
 intro pins s U H Q I h
 refine Zl4 hb (thn (he pins s U H _ I h) fun u s1 ⟨x,H1,I1,rx,a,C,dx,fs,v,ex,ea,c,n,l,q⟩=>?_)
 subst ex
 obtain rfl:u=Value.ref a:=rx
 exact Zhy I1 ea c n l fun u' s2 I2 ru=>⟨v,H1,I2,ru,q⟩
theorem ZdZ (ha:PE X o ta)(hv:PE X value tv)(hs:swapsWith value (some (.Attribute o f pos')) pos.line X.env=pure false):PS X (.Assign [.Attribute o f pos'] value pos) (sFld X.K ta tv f):=by
 intro pins s U H D I h
 refine plainObj_wpAny_Assign_Attribute (thn (hv pins s U H _ I h) fun u s1 ⟨y,H1,I1,ry,q⟩=>thn (ha pins s1 U H1 _ I1 q) fun ov s2 ⟨x,H2,I2,rx,a,C,dx,fs,ex,ea,c,n,l,q2⟩=>?_) hs
 subst ex
 obtain rfl:ov=Value.ref a:=rx
 exact Zhf I2 ea c n l ry fun s3 I3=>⟨U,_,I3,q2⟩
def rSub:V->V->Hp->VK->Prop:=fun x y H Q=>∃i j,x=.int i/\y=.int j/\Q (.int (i-j)) H
theorem ZnC:InOp X .Sub rSub:=by
 rintro pins s U H x y u v Q I rx ry ⟨i,j,rfl,rfl,q⟩
 obtain⟨t,rfl⟩:=(show ∃t,u=Value.int i t from rx)
 obtain⟨t',rfl⟩:=(show ∃t',v=Value.int j t' from ry)
 exact PyProof.Rows.isub_int ⟨.int (i-j),H,I.tok _,⟨_,rfl⟩,q⟩
theorem ZlD {pl:Sem Bool}{m:Str}{apos:Pos}{args:List Expr}{pins:List (Addr×Obj)}{s:Shared}{U:St}{H:Hp}{Q:Q33}{te:TE}(he:PE X e te)(I:Inv X pins U H s)
  (h:te U H fun x H1=>∃a C dx fs g,x=.ref a/\H1 a=some (.ins C dx fs)/\Cls X.K C/\Meth X.K C m g/\fs.lookup m=none /\
   ∀s1,Inv X pins U H1 s1->wpAny (model X.prog X.w) X.A (callWith pos (.ref g) [.ref a] (backTo pos (starEach args X.env)) (backToKw pos (keywordEach [] X.env))) Q X.xe s1)
  (ht:eval (.Call (.Attribute e m apos) args [] pos) X.env=(do
   let ov <-eval e X.env
   standAt apos.atName
   let (f,first) <-holding [ov] (getMethod ov m pl)
   callWith pos f first (backTo pos (starEach args X.env)) (backToKw pos (keywordEach [] X.env)))):
  wpAny (model X.prog X.w) X.A (eval (.Call (.Attribute e m apos) args [] pos) X.env) Q X.xe s:=by
 refine YCy (pl:=pl) (thn (he pins s U H _ I h) fun u s1 ⟨x,H1,I1,rx,a,C,dx,fs,g,ex,ea,c,k,l,q⟩=>?_) ht
 subst ex
 obtain rfl:u=Value.ref a:=rx
 exact ZcQ I1 ea c k l (q s1 I1)
end
section
variable {X:Cx}{pins:List (Addr×Obj)}{U:St}{H:Hp}{s:Shared}{A:Around}{E:Q33}{Q:Q33}{c:Value}{b:Bool}
inductive TyOf (K:Q44) (H:Hp):V->Value->Prop where
 | non:TyOf K H .non (.type "NoneType")
 | bl (x:Bool):TyOf K H (.bl x) (.type "bool")
 | int (i:Int):TyOf K H (.int i) (.type "int")
 | str (x:Str):TyOf K H (.str x) (.type "str")
 | flt (x:UInt64):TyOf K H (.flt x) (.type "float")
 | lst {a:Addr} {xs:List V} (e:H a=some (.lst xs)):TyOf K H (.ref a) (.type "list")
 | frz {a:Addr} {o:Obj} {xs:List V} (e:H a=some (.frz o (.lst xs))):TyOf K H (.ref a) (.type "list")
 | tup {a:Addr} {xs:List V} (e:H a=some (.tup xs)):TyOf K H (.ref a) (.type "tuple")
 | dK {a:Addr} {kvs:List (Key×V)} (e:H a=some (.dK kvs)):TyOf K H (.ref a) (.type "dict")
 | dT {a:Addr} {kvs:List (List Key×V)} (e:H a=some (.dT kvs)):TyOf K H (.ref a) (.type "dict")
 | ins {a C dx:Addr} {fs:List (Str×V)} (e:H a=some (.ins C dx fs)) (cl:Cls K C) (ha:PySem.W.findIn K (.ref C) "__class__"=some (some (.builtin "object.__class__")))
   (hn:PySem.W.specialIn K (.builtin "object.__class__") "__get__"=some (some (.builtin "getset_descriptor.__get__"))) (htk:PySem.W.takesIn K (.builtin "object.__class__")=some true)
   (hm:PySem.W.mroIn K C (.type "object")=some true):TyOf K H (.ref a) (.ref C)
theorem ZiQ {x:V}{u t:Value}(I:Inv X pins U H s)(rx:RelV x u)(ty:TyOf X.K H x t)(e:PySem.W.kitOne X.K t c=some b)(h:∀tk,Q (.bool b) { s with toks:=tk }):
  wpAny (model X.prog X.w) A (call (.builtin "isinstance") [u,c]) Q E s:=by
 cases ty with
 | non=>cases (show u=Value.none from rx);exact YBK PySem.W.kitx_none I.kIn True.intro e (fun z=>nomatch z) h
 | bl y=>cases (show u=Value.bool y from rx);exact YBK PySem.W.kitx_bool I.kIn True.intro e (fun z=>nomatch z) h
 | int i=>obtain⟨t,q⟩:=(show ∃t,u=Value.int i t from rx);cases q;exact YBK PySem.W.kitx_int I.kIn True.intro e (fun z=>nomatch z) h
 | str y=>obtain⟨t,q⟩:=(show ∃t,u=Value.str y t from rx);cases q;exact YBK PySem.W.kitx_str I.kIn True.intro e (fun z=>nomatch z) h
 | flt y=>obtain⟨t,q⟩:=(show ∃t,u=Value.float y t from rx);cases q;exact YBK PySem.W.kitx_float I.kIn True.intro e (fun z=>nomatch z) h
 | @lst a xs ea=>
  cases (show u=Value.ref a from rx)
  obtain⟨_,_,n,_,h1⟩:=(show ObjOk X.prog X.w H s.heap a (.lst xs) from I.hok a _ ea)
  exact YBK PySem.W.kitx_list I.kIn ⟨_,h1,rfl⟩ e (fun z=>nomatch z) h
 | @frz a ob xs ea=>
  cases (show u=Value.ref a from rx)
  obtain⟨_,_,_,n,_,h1⟩:=(show ObjOk X.prog X.w H s.heap a (.frz ob (.lst xs)) from I.hok a _ ea)
  exact YBK PySem.W.kitx_list I.kIn ⟨_,h1,rfl⟩ e (fun z=>nomatch z) h
 | @tup a xs ea=>
  cases (show u=Value.ref a from rx)
  obtain⟨_,_,_,p⟩:=(show ObjOk X.prog X.w H s.heap a (.tup xs) from I.hok a _ ea)
  obtain⟨o,h1,h2,_⟩:=p
  exact YBK PySem.W.kitx_tuple I.kIn ⟨o,h1,h2⟩ e (fun z=>nomatch z) h
 | @dK a kvs ea=>
  cases (show u=Value.ref a from rx)
  obtain⟨_,_,vs,_,p⟩:=(show ObjOk X.prog X.w H s.heap a (.dK kvs) from I.hok a _ ea)
  obtain⟨o,es,ep,h1,h2,_⟩:=p
  exact YBK PySem.W.kitx_dict I.kIn ⟨o,h1,h2.1⟩ e (fun z=>nomatch z) h
 | @dT a kvs ea=>
  cases (show u=Value.ref a from rx)
  obtain⟨_,_,xs,_,o,es,ep,h1,h2,_⟩:=(show ObjOk X.prog X.w H s.heap a (.dT kvs) from I.hok a _ ea)
  exact YBK PySem.W.kitx_dict I.kIn ⟨o,h1,h2.1⟩ e (fun z=>nomatch z) h
 | @ins a C dx fs ea cl ha hn htk hm=>
  cases (show u=Value.ref a from rx)
  obtain⟨mA,O,_⟩:=Zew I.hok ea
  obtain⟨od,J,_⟩:=O.look
  exact YBK (PySem.W.kitx_own (cl.get _) cl.hd ha hn htk hm) I.kIn J e (fun z=>nomatch z) h
end
structure Room (k:Nat)(A:Around):Prop where
 hd:A.handled=none
 dp:A.depth+3*k+5<recursionLimit
 un:A.units+16*k+200<cLine
theorem Room.mono {j k:Nat}{A:Around}(r:Room k A)(h:j<=k):Room j A:=⟨r.hd,by have:=r.dp;omega,by have:=r.un;omega⟩
theorem Room.deeper {k:Nat}{A:Around}(r:Room (k+1) A)(env:Env):Room k (A.deeper env):=
 ⟨r.hd,by have:=r.dp;show A.depth+1+3*k+5<_;omega,by have:=r.un;show A.units+3+16*k+200<_;omega⟩
theorem Zht {A:Around}{C:Addr}{us:List Value}{kw:List (Str×Value)}:(A.under (.builtin "type.__call__" ⟨.ref C::us,kw⟩)).depth=A.depth+1:=by
 first | rfl | simp[Around.under,Code.weight,Code.isCreation,Code.isGuard,Code.isCaller,Code.frames,Code.isFrame,guardIds]
theorem Zhs {A:Around}{C:Addr}{us:List Value}{kw:List (Str×Value)}:(A.under (.builtin "type.__call__" ⟨.ref C::us,kw⟩)).units=A.units+1:=by
 first | rfl | simp[Around.under,Code.cUnits,Code.frames,Code.isFrame]
theorem Room.make {k:Nat}{A:Around}(r:Room (k+1) A)(C:Addr)(us:List Value)(kw:List (Str×Value)):Room k (A.under (.builtin "type.__call__" ⟨.ref C::us,kw⟩)):=
 ⟨r.hd,by have:=r.dp;rw[Zht];omega,by have:=r.un;rw[Zhs];omega⟩
theorem Room.depth {k:Nat}{A:Around}(r:Room k A):A.depth<recursionLimit:=by have:=r.dp;omega
theorem Room.units {k:Nat}{A:Around}(r:Room k A):A.units+64<cLine:=by have:=r.un;omega
def tNil:TA:=fun _ H Q=>Q [] H
def Zms (ta:TE)(tr:TA):TA:=fun U H Q=>ta U H fun x H1=>tr U H1 fun xs H2=>Q (x::xs) H2
section
variable {X:Cx}{e:Expr}{es:List Expr}{te:TE}{t:TA}{pos:Pos}
theorem Zae:PA X [] tNil:=fun _ _ _ _ H Q I h=>YCR ⟨[],H,I,.nil,h⟩
theorem Zaa (ha:PE X e te)(hr:PA X es t)(hs:starEach (e::es) X.env=(false,eval e X.env)::starEach es X.env:=by rfl):PA X (e::es) (Zms te t):=by
 intro pos pins s U H Q I h
 rw[hs]
 show wpAny _ _ (spliced ((false,eval e X.env)::backTo pos (starEach es X.env))) _ _ s
 refine YBe (thn (ha pins s U H _ I h) fun u s1 ⟨x,H1,I1,r1,q1⟩=>?_)
 exact thn (hr pos pins s1 U H1 _ I1 q1) fun us s2 ⟨xs,H2,I2,r2,q2⟩=>⟨x::xs,H2,I2,.cons r1 r2,q2⟩
def tTup (t:TA):TE:=fun U H Q=>t U H fun xs H1=>xs.length<=sizeLine/\∀p,H1 p=none->Q (.ref p) (upd H1 p (.tup xs))
def tLst (t:TA):TE:=fun U H Q=>t U H fun xs H1=>xs.length<=sizeLine/\∀p,H1 p=none->Q (.ref p) (upd H1 p (.lst xs))
theorem Zbp {x1}(h:PA X es t):PE X (.Tuple es x1 pos) (tTup t):=by
 intro pins s U H Q I hq
 refine wpAny_Tuple_spliced (thn (h pos pins s U H _ I hq) fun us s1 ⟨xs,H1,I1,r,z,q⟩=>⟨by rw[<-r.length];exact z,?_⟩)
 have hf:H1 s1.heap.objs.size=none:=I1.hok.fresh (YAH _)
 refine⟨.ref s1.heap.objs.size,upd H1 s1.heap.objs.size (.tup xs),I1.laid (t':=s1.toks) (fun b u e=>YAC _ e) (YAH _) ?_,rfl,q _ hf⟩
 exact⟨z,us,r,⟨_,YAO _ rfl,rfl,_,rfl⟩⟩
theorem Zci (h:PA X es t):PE X (.List es pos) (tLst t):=by
 intro pins s U H Q I hq
 refine wpAny_List_spliced (thn (h pos pins s U H _ I hq) fun us s1 ⟨xs,H1,I1,r,z,q⟩=>⟨by rw[<-r.length];exact z,?_⟩)
 have hf:H1 s1.heap.objs.size=none:=I1.hok.fresh (YAH _)
 refine⟨.ref s1.heap.objs.size,upd H1 s1.heap.objs.size (.lst xs),I1.laid (t':=s1.toks) (fun b u e=>YAC _ e) (YAH _) ?_,rfl,q _ hf⟩
 exact⟨z,us,0,r,YAO _ rfl⟩
end
abbrev Sp:=List V->Hp->VK->XK->Prop
abbrev CXT:=List Env->Hp->Shared->XK->Value->Shared->Prop
structure Env0 (P:Program)(w:World)(K:Q44)(mg:Str->Option Value)(base:Heap)(A:Around)(outer:List Env)(s:Shared)(H:Hp):Prop where
 frames:A.frames=some outer
 mod:Mod K mg base
 bs:∀b o,base.get? b=some o->s.heap.get? b=some o/\H b=none
 bsz:base.objs.size<=s.heap.objs.size
 funs:s.heap.FunFrames base outer
 frf:∀b∈frs outer,H b=none
 hok:HOk P w H s.heap
 bare:AllBare s.gens
def CE (outer:List Env)(P:Program)(w:World)(H:Hp)(s:Shared)(Q:VK)(u:Value)(s':Shared):Prop:=
 ∃v H',s'.os=s.os/\AllBare s'.gens/\Un (frs outer) [] H H' s.heap s'.heap/\HOk P w H' s'.heap/\RelV v u/\Q v H'
def CR (CX:CXT)(outer:List Env)(P:Program)(w:World)(H:Hp)(s:Shared)(Q:VK)(E:XK)(r:Result)(s':Shared):Prop:=
 match r with
 | .ok (.ret u)=>CE outer P w H s Q u s'
 | .ok _=>False
 | .error e=>CX outer H s E e s'
structure FnOk (P:Program)(w:World)(K:Q44)(mg:Str->Option Value)(base:Heap)(CX:CXT)(k:Nat)(f:Addr)(fd:FuncData)(ps:List Str)(sp:Sp):Prop where
 len:∀vs H Q E,sp vs H Q E->vs.length=ps.length
 run:∀(A:Around) (outer:List Env) (s:Shared) (H:Hp) (args:Args) (us:List Value) (vs:List V) (Q:VK) (E:XK),Room k A->Env0 P w K mg base A outer s H->BindsTo s fd args (ps.zip us)->Vals vs us->sp vs H Q E ->
  codeAny (model P w) A (.call (.ref f) args) (CR CX outer P w H s Q E) s
theorem Env0.make {P:Program}{w:World}{K:Q44}{mg:Str->Option Value}{base:Heap}{A:Around}{outer:List Env}{s:Shared}{H:Hp}(e:Env0 P w K mg base A outer s H)(C:Addr)(us:List Value)(kw:List (Str×Value)):
  Env0 P w K mg base (A.under (.builtin "type.__call__" ⟨.ref C::us,kw⟩)) outer s H:=⟨by first | exact e.frames | (simpa [Around.under,Code.envs,Code.isFrame,pushEnvs] using e.frames),e.mod,e.bs,e.bsz,e.funs,e.frf,e.hok,e.bare⟩
section
variable {X:Cx}{pins:List (Addr×Obj)}{U:St}{H:Hp}{s s':Shared}
theorem Inv.env0 (I:Inv X pins U H s):Env0 X.prog X.w X.K X.mg X.base X.A X.stack s H:=
 ⟨I.ok.frames,I.ok.mod,I.bs,YAJ I.ok.bsz I.sz,I.stack,I.stkFree,I.hok,I.bare⟩
theorem Inv.after {Q:VK}{u:Value}(I:Inv X pins U H s)(h:CE X.stack X.prog X.w H s Q u s'):EP X pins U Q u s':=by
 obtain⟨v,H',os,bare,un,hok,r,q⟩:=h
 obtain⟨hh,g,d,t,os'⟩:=s'
 obtain rfl:os'=s.os:=os
 exact⟨v,H',I.call (h':=hh) (g':=g) (d':=d) (t':=t) (ch:=[]) un hok bare (fun b z=>absurd z (by simp)),r,q⟩
end
def Zk6 (sp:Sp)(dvs:List V)(E:XK)(t:TA):TE:=fun U H Q=>t U H fun vs H1=>sp (vs++dvs) H1 Q E
def Zk3 (C:Addr)(m:Str)(sp:Sp)(dvs:List V)(E:XK)(ta:TE)(t:TA):TE:=fun U H Q=>ta U H fun x H1=>∃a dx fs,x=.ref a/\H1 a=some (.ins C dx fs)/\fs.lookup m=none /\
 t U H1 fun vs H2=>sp (x::(vs++dvs)) H2 Q E
def Zmk (C:Addr)(sp:Sp)(dvs:List V)(E:XK)(t:TA):TE:=fun U H Q=>t U H fun vs H1=>∀x dx,H1 x=none->H1 dx=none->dx≠x ->
 sp (.ref x::(vs++dvs)) (upd (upd H1 dx (.own x)) x (.ins C dx [])) (fun v H2=>v=.non/\Q (.ref x) H2) E
def Binds (K:Q44)(fd:FuncData)(ps:List Str)(ds:List Value):Prop:=
 ∀(s:Shared) (us:List Value),K.In s.heap->(us++ds).length=ps.length->BindsTo s fd ⟨us,[]⟩ (ps.zip (us++ds))
theorem Binds.all {K:Q44}{fd:FuncData}{ps:List Str}(h:∀us:List Value,us.length=ps.length->bindArgs fd ⟨us,[]⟩=pure (ps.zip us)):Binds K fd ps []:=fun s us _ hl=>by
 rw[YCF]at hl ⊢
 exact .of_eq (h us hl)
def Zc5 (CX:CXT)(X:Cx)(E:XK):Prop:=∀(pins:List (Addr×Obj)) (U:St) (H:Hp) (s:Shared) (e:Value) (s':Shared),Inv X pins U H s->CX X.stack H s E e s'->X.xe e s'
section
variable {X:Cx}{CX:CXT}{k:Nat}{f C:Addr}{fd:FuncData}{ps:List Str}{sp:Sp}{dvs:List V}{ds:List Value}{E:XK}{x m:Str}{p pos apos:Pos}{e o:Expr}{es:List Expr}{ta:TE}{t:TA}
theorem Zgy {pins:List (Addr×Obj)}{U:St}{H:Hp}{s:Shared}{Q:VK}{us:List Value}{vs:List V}(F:FnOk X.prog X.w X.K X.mg X.base CX k f fd ps sp)(hr:Room k X.A)(hb:Binds X.K fd ps ds)(hd:Vals dvs ds)(hx:Zc5 CX X E)
  (I:Inv X pins U H s) (r:Vals vs us) (h:sp (vs++dvs) H Q E):wpAny (model X.prog X.w) X.A (call (.ref f) us) (EP X pins U Q) X.xe s:=by
 have r2:Vals (vs++dvs) (us++ds):=r.append hd
 have hl:(us++ds).length=ps.length:=by rw[<-r2.length];exact F.len _ _ _ _ h
 refine wpAny_call (codeAny_mono (F.run X.A X.stack s H ⟨us,[]⟩ (us++ds) (vs++dvs) Q E hr I.env0 (hb s us I.kIn hl) r2 h) fun r s' hq=>?_)
 cases r with
 | error e=>exact hx pins U H s e s' I hq
 | ok fl=>
  cases fl with
  | ret u=>exact I.after hq
  | next=>exact False.elim hq
  | brk=>exact False.elim hq
  | cont=>exact False.elim hq
theorem Zal (F:FnOk X.prog X.w X.K X.mg X.base CX k f fd ps sp)(hr:Room k X.A)(hg:Gl X x)(hm:X.mg x=some (.ref f))(hk:PySem.W.keepIn X.K (.ref f)=true)(hb:Binds X.K fd ps ds)(hd:Vals dvs ds)(hx:Zc5 CX X E)
  (ha:PA X (e::es) t) (hdb:(x == ("__debug__":Str))=false:=by decide) (he:starEach (e::es) X.env=(false,eval e X.env)::starEach es X.env:=by rfl) (hpl:(backTo pos (starEach es X.env)).any (·.1)=false:=by rfl):
  PE X (.Call (.Name x p) (e::es) [] pos) (Zk6 sp dvs E t):=by
 intro pins s U H Q I h
 refine YBu (Zer I hg hm ?_ hdb)
 refine YDX (h₀:=X.base) I.ok.mod.kin hk (thn (ha pos pins s U H _ I h) fun us s1 ⟨vs,H1,I1,r,q⟩=>⟨I1.kIn,?_⟩) he hpl
 exact Zgy F hr hb hd hx I1 r q
theorem ZbF {pl:Sem Bool}(he:PE X o ta)(c:Cls X.K C)(hm:Meth X.K C m f)(F:FnOk X.prog X.w X.K X.mg X.base CX k f fd ps sp)(hr:Room k X.A)(hb:Binds X.K fd ps ds)(hd:Vals dvs ds)(hx:Zc5 CX X E)(ha:PA X (e::es) t)
  (hst:starEach (e::es) X.env=(false,eval e X.env)::starEach es X.env:=by rfl) (hpl:(backTo pos (starEach es X.env)).any (·.1)=false:=by rfl)
  (ht:eval (.Call (.Attribute o m apos) (e::es) [] pos) X.env=(do
   let ov <-eval o X.env
   standAt apos.atName
   let (f,first) <-holding [ov] (getMethod ov m pl)
   callWith pos f first (backTo pos (starEach (e::es) X.env)) (backToKw pos (keywordEach [] X.env))):=by rfl):
  PE X (.Call (.Attribute o m apos) (e::es) [] pos) (Zk3 C m sp dvs E ta t):=by
 intro pins s U H Q I h
 refine YCy (pl:=pl) (thn (he pins s U H _ I h) fun u s1 ⟨x,H1,I1,rx,a,dx,fs,ex,ea,l,q⟩=>?_) ht
 subst ex
 obtain rfl:u=Value.ref a:=rx
 refine ZcQ I1 ea c hm l ?_
 refine YDX (first:=[.ref a]) (h₀:=X.base) I.ok.mod.kin hm.kp (thn (ha pos pins s1 U H1 _ I1 q) fun us s2 ⟨vs,H2,I2,r,q2⟩=>⟨I2.kIn,?_⟩) hst hpl
 exact Zgy (us:=.ref a::us) (vs:=.ref a::vs) F hr hb hd hx I2 (.cons rfl r) q2
theorem ZaW {pl:Sem Bool}(he:PE X o ta)(c:Cls X.K C)(hm:Meth X.K C m f)(F:FnOk X.prog X.w X.K X.mg X.base CX k f fd ps sp)(hr:Room k X.A)(hb:Binds X.K fd ps ds)(hd:Vals dvs ds)(hx:Zc5 CX X E)
  (ht:eval (.Call (.Attribute o m apos) [] [] pos) X.env=(do
   let ov <-eval o X.env
   standAt apos.atName
   let (f,first) <-holding [ov] (getMethod ov m pl)
   callWith pos f first (backTo pos (starEach [] X.env)) (backToKw pos (keywordEach [] X.env))):=by rfl):
  PE X (.Call (.Attribute o m apos) [] [] pos) (Zk3 C m sp dvs E ta tNil):=by
 intro pins s U H Q I h
 refine YCy (pl:=pl) (thn (he pins s U H _ I h) fun u s1 ⟨x,H1,I1,rx,a,dx,fs,ex,ea,l,q⟩=>?_) ht
 subst ex
 obtain rfl:u=Value.ref a:=rx
 refine ZcQ I1 ea c hm l ?_
 exact PySem.W.callWith_K0 (first:=[.ref a]) I1.kIn hm.kp (Zgy (us:=[.ref a]) (vs:=[.ref a]) F hr hb hd hx I1 (.cons rfl .nil) q)
structure Mk (K:Q44)(C f:Addr):Prop where
 makes:PySem.W.makesIn K C=true
 init:PySem.W.findIn K (.ref C) "__init__"=some (some (.ref f))
 fn:PySem.W.isFn K (.ref f)=true
 kp:PySem.W.keepIn K (.ref C)=true
theorem ZjB {pins:List (Addr×Obj)}{U:St}{H:Hp}{s:Shared}{Q:VK}{us:List Value}{vs:List V}(M:Mk X.K C f)(F:FnOk X.prog X.w X.K X.mg X.base CX k f fd ps sp)(hr:Room (k+1) X.A)(hb:Binds X.K fd ps ds)(hd:Vals dvs ds)
  (hx:Zc5 CX X E) (I:Inv X pins U H s) (r:Vals vs us)
  (h:∀x dx,H x=none->H dx=none->dx≠x->sp (.ref x::(vs++dvs)) (upd (upd H dx (.own x)) x (.ins C dx [])) (fun v H2=>v=.non/\Q (.ref x) H2) E):
  wpAny (model X.prog X.w) X.A (call (.ref C) us) (EP X pins U Q) X.xe s:=by
 have hq:=h (s.heap.objs.size+1) s.heap.objs.size (I.hok.fresh (YCi _)) (I.hok.fresh (YAH _)) (YAd (YDF _))
 have I2:=Inv.made (C:=C) I
 have r2:Vals (V.ref (s.heap.objs.size+1)::(vs++dvs)) (Value.ref (s.heap.objs.size+1)::(us++ds)):=.cons rfl (r.append hd)
 have hl:(Value.ref (s.heap.objs.size+1)::us++ds).length=ps.length:=by
  have e:=r2.length
  rw[F.len _ _ _ _ hq]at e
  exact e.symm
 refine wpAny_call (ZjQ (f:=f) I.kIn M.makes M.init (beq_iff_eq.mp M.fn) (codeAny_mono (F.run _ X.stack _ _ ⟨Value.ref (s.heap.objs.size+1)::us,[]⟩ (Value.ref (s.heap.objs.size+1)::(us++ds)) _ _ E (hr.make C us [])
  (I2.env0.make C us []) (hb _ (Value.ref (s.heap.objs.size+1)::us) I2.kIn hl) r2 hq) fun r s' hq'=>?_))
 cases r with
 | error e=>exact hx pins U _ _ e s' I2 hq'
 | ok fl=>
  cases fl with
  | ret u=>
   obtain⟨v,H',I3,rv,ev,q3⟩:=I2.after hq'
   subst ev
   exact⟨rv,⟨V.ref (s.heap.objs.size+1),H',I3,rfl,q3⟩⟩
  | next=>exact False.elim hq'
  | brk=>exact False.elim hq'
  | cont=>exact False.elim hq'
theorem ZfX (M:Mk X.K C f)(F:FnOk X.prog X.w X.K X.mg X.base CX k f fd ps sp)(hr:Room (k+1) X.A)(hg:Gl X x)(hm:X.mg x=some (.ref C))(hb:Binds X.K fd ps ds)(hd:Vals dvs ds)(hx:Zc5 CX X E)
  (ha:PA X (e::es) t) (hdb:(x == ("__debug__":Str))=false:=by decide) (he:starEach (e::es) X.env=(false,eval e X.env)::starEach es X.env:=by rfl) (hpl:(backTo pos (starEach es X.env)).any (·.1)=false:=by rfl):
  PE X (.Call (.Name x p) (e::es) [] pos) (Zmk C sp dvs E t):=by
 intro pins s U H Q I h
 refine YBu (Zer I hg hm ?_ hdb)
 refine YDX (h₀:=X.base) I.ok.mod.kin M.kp (thn (ha pos pins s U H _ I h) fun us s1 ⟨vs,H1,I1,r,q⟩=>⟨I1.kIn,?_⟩) he hpl
 exact ZjB M F hr hb hd hx I1 r q
end
section
variable {X:Cx}{CX:CXT}{k:Nat}{f C:Addr}{fd:FuncData}{ps ks:List Str}{sp:Sp}{E:XK}{x m:Str}{p pos apos kpos:Pos}{e o:Expr}{es:List Expr}{kws:List Keyword}{te ta:TE}{t tk:TA}{nm:Option Str}
variable {g:List Value->List Value->List Value}{gV:List V->List V->List V}
end
structure FnScope (N P:List Str)(sc:Scope):Prop where
 kind:sc.kind=.function
 co:sc.isCoroutine=false
 gen:sc.isGenerator=false
 nd:N.Nodup
 pre:N.take P.length=P
 par:∀x∈P,sc.names.lookup x=some .local\/sc.names.lookup x=some .cell
 nofree:∀y∈sc.names,y.2≠.free
theorem ZfB {kindOf:Str->Option NameKind}{x:Str}:∀ {binds:List (Str×Value)} {m:Str->Option Value},(∀v,(x,v)∉binds)->bindL kindOf binds m x=m x
 | [],_,_=>rfl
 | (n,v)::r,m,h=>by
  unfold bindL
  rw[ZfB fun w hw=>h w (YAY _ hw)]
  split
  .have:x≠n:=by rintro rfl;exact h v YAi
   simp[this]
  .rfl
theorem ZfD {kindOf:Str->Option NameKind}{x:Str}:∀ {binds:List (Str×Value)} {m:Str->Option Value},(∀v,(x,v)∉binds)->bindC kindOf binds m x=m x
 | [],_,_=>rfl
 | (n,v)::r,m,h=>by
  unfold bindC
  rw[ZfD fun w hw=>h w (YAY _ hw)]
  split
  .rfl
  .have:x≠n:=by rintro rfl;exact h v YAi
   simp[this]
theorem ZfC {kindOf:Str->Option NameKind}{x:Str}{v:Value}:∀ {P:List Str} {vs:List Value} {i:Nat} {m:Str->Option Value},P.Nodup->P[i]?=some x->vs[i]?=some v->kindOf x=some .local ->
  bindL kindOf (P.zip vs) m x=some v
 | [],_,_,_,_,h,_,_=>by simp at h
 | _::_,[],_,_,_,_,h,_=>by simp at h
 | p::P,w::vs,0,m,nd,h1,h2,hk=>by
  simp at h1 h2;subst h1;subst h2
  show bindL kindOf ((p,w)::P.zip vs) m p=_
  unfold bindL
  rw[ZfB fun v hv=>(YBf.mp nd).1 (List.of_mem_zip hv).1,YAP hk]
  simp
 | p::P,w::vs,i+1,m,nd,h1,h2,hk=>by
  show bindL kindOf ((p,w)::P.zip vs) m x=_
  unfold bindL
  exact ZfC (i:=i) (YBf.mp nd).2 (by simpa using h1) (by simpa using h2) hk
theorem ZfE {kindOf:Str->Option NameKind}{x:Str}{v:Value}:∀ {P:List Str} {vs:List Value} {i:Nat} {m:Str->Option Value},P.Nodup->P[i]?=some x->vs[i]?=some v->kindOf x≠some .local ->
  bindC kindOf (P.zip vs) m x=some v
 | [],_,_,_,_,h,_,_=>by simp at h
 | _::_,[],_,_,_,_,h,_=>by simp at h
 | p::P,w::vs,0,m,nd,h1,h2,hk=>by
  simp at h1 h2;subst h1;subst h2
  show bindC kindOf ((p,w)::P.zip vs) m p=_
  unfold bindC
  rw[ZfD fun v hv=>(YBf.mp nd).1 (List.of_mem_zip hv).1,YAL hk]
  simp
 | p::P,w::vs,i+1,m,nd,h1,h2,hk=>by
  show bindC kindOf ((p,w)::P.zip vs) m x=_
  unfold bindC
  exact ZfE (i:=i) (YBf.mp nd).2 (by simpa using h1) (by simpa using h2) hk
noncomputable def start (N:List Str)(vs:List V):St:=vs.map some++List.replicate (N.length-vs.length) none
noncomputable def cxOf (CX:CXT)(P:Program)(w:World)(K:Q44)(mg:Str->Option Value)(base:Heap)(N:List Str)(qual:Str)(scope:Scope)(f:Addr)(cd:Value)(A:Around)(outer:List Env)(s:Shared)(H:Hp)(E:XK):Cx where
 prog:=P
 w:=w
 K:=K
 mg:=mg
 base:=base
 A:=A.deeper (envOfC qual scope s.heap.objs.size f cd)
 N:=N
 s_0:=s
 H_0:=H
 env:=envOfC qual scope s.heap.objs.size f cd
 outer:=outer
 stack:=envOfC qual scope s.heap.objs.size f cd::outer
 ex:=[]
 calm:=true
 fn:=fun _=>true
 pn:=[]
 xe:=fun e s'=>wpAny (model P w) (A.deeper (envOfC qual scope s.heap.objs.size f cd)) (leaving (envOfC qual scope s.heap.objs.size f cd) e) (fun _ s''=>CX outer H s E e s'') (fun e' s''=>CX outer H s E e' s'') s'
theorem Zg5 {sc:Scope}{n:Nat}{x:Str}(h:sc.names.lookup x=some .cell):∃c,(cellsFrom n sc.names []).lookup x=some c:=by
 have q:=PySem.W.cellsFrom_some sc.names n [] (.inl h)
 exact Option.isSome_iff_exists.mp q
theorem ZiT {CX:CXT}{P:Program}{w:World}{K:Q44}{mg:Str->Option Value}{base:Heap}{N ps:List Str}{qual:Str}{scope:Scope}{f:Addr}{cd:Value}{A:Around}{outer:List Env}{s s1:Shared}{H:Hp}{E:XK}{us:List Value}{vs:List V}
  (S:FnScope N ps scope) (hd:A.handled=none) (e0:Env0 P w K mg base A outer s H) (hl:vs.length=ps.length) (r:Vals vs us)
  (x:InCallC s s.heap.objs.size (bindL (envOfC qual scope s.heap.objs.size f cd).kindOf (ps.zip us) fun _=>none) (cellsFrom (s.heap.objs.size+1) scope.names []) (bindC (envOfC qual scope s.heap.objs.size f cd).kindOf (ps.zip us) fun _=>none) s1):
  Inv (cxOf CX P w K mg base N qual scope f cd A outer s H E) [] (start N vs) H s1:=by
 have hpl:ps.length<=N.length:=by have:=congrArg List.length S.pre;rw[YAc]at this;omega
 obtain⟨h1,tk,rfl,hk⟩:=x.done
 have noA:∀b:Addr,b∉(cxOf CX P w K mg base N qual scope f cd A outer s H E).ex:=fun b z=>absurd (show b∈([]:List Addr) from z) (by simp)
 refine⟨⟨e0.mod,S.kind,rfl,rfl,YAH _,fun y z c h1 h2=>?_,fun y hy=>?_,fun y c _ h=>?_,fun _=>hd,Around.frames_deeper e0.frames,.inr ⟨rfl,rfl⟩,fun b z=>absurd z (noA b),e0.bs,e0.bsz,fun b _ _=>noA b,fun b z=>absurd z (noA b),e0.funs,e0.frf⟩,
  rfl,e0.bare,Un.kept hk,⟨_,x.toInCall.ns,fun i y v h1 h2 h3=>?_⟩,fun y c h=>⟨_,x.cell y c h⟩,e0.hok.fresh (YAH _),fun y c h=>?_,fun p hp=>absurd (show p∈([]:List (Addr×Obj)) from hp) (by simp),e0.hok.kept hk,?_⟩
 .exact name_of_addr x.apart (YBq h1) (YBq h2)
 .have hy:scope.names.lookup y=some .cell\/scope.names.lookup y=some .free:=hy
  rcases hy with hy | hy
  .exact Zg5 hy
  .exact absurd rfl (S.nofree _ (YBq hy))
 .exact YCk (x.above y c (YBq h))
 .have hi:i<vs.length:=by
   unfold start at h2
   by_cases hi:i<vs.length
   .exact hi
   .rw[YAn (by simpa using hi)]at h2
    rw[List.getElem?_replicate]at h2
    split at h2<;>cases h2
  have ha:vs[i]?=some v:=by
   unfold start at h2
   rw[YAl (by simpa using hi),YAW]at h2
   cases e:vs[i]? with
   | none=>rw[e]at h2;cases h2
   | some a=>rw[e]at h2;cases h2;rfl
  obtain⟨u,hu,rv⟩:=r.get ha
  have hp:ps[i]?=some y:=by
   rw[<-S.pre,List.getElem?_take_of_lt (by omega)];exact h1
  have ndP:ps.Nodup:=by rw[<-S.pre];exact S.nd.sublist (YCB _ _)
  refine⟨u,rv,?_⟩
  rcases S.par y (YAT hp) with k | k
  .exact .inl ⟨k,ZfC ndP hp hu k⟩
  .obtain⟨c,e⟩:=Zg5 (n:=s.heap.objs.size+1) k
   refine .inr ⟨.inl k,c,e,?_⟩
   have q:=x.cell y c e
   rw[ZfE ndP hp hu (by show scope.names.lookup y≠_;rw[k];decide)]at q
   exact q
 .exact e0.hok.fresh (YCk (x.above y c (YBq h)))
 .unfold start
  show _=N.length
  rw[YAE,YAB,List.length_replicate]
  omega
theorem ZnN {CX:CXT}{P:Program}{w:World}{K:Q44}{mg:Str->Option Value}{base:Heap}{k:Nat}{f:Addr}{name qual:Str}{params:Arguments}{body:List Stmt}{scope:Scope}{dV kV doc pm cdv ct oc:Value}{an od:Option Addr}
  {osl:Array (Option Value)} {N ps:List Str} {sp:Sp} (lk:K.lookup f=some ⟨oc,od,.func (PySem.W.fnOf name qual params body scope dV kV doc pm an cdv ct),osl⟩) (hcd:PySem.W.codeIn K cdv qual=true) (S:FnScope N ps scope)
  (len:∀vs H Q E,sp vs H Q E->vs.length=ps.length)
  (hbody:∀(A:Around) (outer:List Env) (s:Shared) (H:Hp) (vs:List V) (Q:VK) (E:XK),Room k (A.deeper (envOfC qual scope s.heap.objs.size f cdv))->sp vs H Q E ->
   ∃t,PSs (cxOf CX P w K mg base N qual scope f cdv A outer s H E) body t/\t { nx:=fun _ H'=>Q .non H',rt:=Q } (start N vs) H):
  FnOk P w K mg base CX (k+1) f (PySem.W.fnOf name qual params body scope dV kV doc pm an cdv ct) ps sp:=by
 refine⟨len,fun A outer s H args us vs Q E hr e0 hb r hsp=>?_⟩
 have hl:=len _ _ _ _ hsp
 have KX:K.In s.heap:=e0.mod.kin.keeps fun b o e=>(e0.bs b o e).1
 have lim:s.heap.NoLimit:=e0.mod.nolimit.keeps fun b o e=>(e0.bs b o e).1
 have hkind:∀y∈ps.zip us,scope.names.lookup y.1=some .local\/(scope.names.lookup y.1=some .cell/\((cellsFrom (s.heap.objs.size+1) scope.names []).lookup y.1).isSome=true):=fun ⟨n,v⟩ hy=>by
  rcases S.par n (List.of_mem_zip hy).1 with q | q
  .exact .inl q
  .exact .inr ⟨q,PySem.W.cellsFrom_some _ _ _ (.inl q)⟩
 refine codeAny_call_function hr.depth (KX _ _ lk) rfl S.co S.gen rfl (PySem.W.codeRec_of KX hcd) (hb _ _ _ _ ?_)
 refine wpAny_newFunctionEnv_cells S.kind hkind fun env he s1 x=>?_
 subst he
 refine⟨lim.keeps x.toInCall.keep,codeAny_func ?_⟩
 obtain⟨t,ht,hq⟩:=hbody A outer s H vs Q E (hr.deeper _) hsp
 have I:Inv (cxOf CX P w K mg base N qual scope f cdv A outer s H E) [] (start N vs) H s1:=ZiT S hr.hd e0 hl r x
 refine YBp (ht [] s1 (start N vs) H _ I hq) (fun fl s' hs=>?_) fun e s' hs=>hs
 have fin:∀ {U':St} {H':Hp} {v:V} {u:Value},Inv (cxOf CX P w K mg base N qual scope f cdv A outer s H E) [] U' H' s'->RelV v u->Q v H'->CE outer P w H s Q u s':=
  fun {U' H' v u} J rv q=>⟨v,H',J.os,J.bare,J.base,J.hok,rv,q⟩
 cases fl with
 | ret u=>
  obtain⟨v,U',H',J,rv,q⟩:=hs
  exact fin J rv q
 | next=>
  obtain⟨U',H',J,q⟩:=hs
  exact fin (v:=V.non) (u:=Value.none) J rfl q
 | brk=>
  obtain⟨_,_,_,q⟩:=hs
  exact False.elim q
 | cont=>
  obtain⟨_,_,_,q⟩:=hs
  exact False.elim q
section
variable {X:Cx}{x:Str}{p pos:Pos}{e:Expr}{es:List Expr}{t:TA}{id T:String}{r:List V->Hp->VK->Prop}
def tCB (r:List V->Hp->VK->Prop)(t:TA):TE:=fun U H Q=>t U H fun vs H1=>r vs H1 Q
theorem Zan (hc:ZbU X (.builtin id) r) (hg:Gl X x) (hm:X.mg x=none) (hv:bootBuiltins x=some (.builtin id)) (ha:PA X (e::es) t) (hn:x≠"__name__":=by decide) (hdb:(x == ("__debug__":Str))=false:=by decide)
  (he:starEach (e::es) X.env=(false,eval e X.env)::starEach es X.env:=by rfl) (hpl:(backTo pos (starEach es X.env)).any (·.1)=false:=by rfl):PE X (.Call (.Name x p) (e::es) [] pos) (tCB r t):=by
 intro pins s U H Q I h
 refine YBu (Zcy I hg hm hv ?_ hn hdb)
 exact PyProof.Rows.callWith_builtin1 (thn (ha pos pins s U H _ I h) fun us s1 ⟨vs,H1,I1,r1,q1⟩=>hc pins s1 U H1 vs us Q I1 r1 q1) he hpl
theorem Za5 (hc:ZbU X (.type T) r) (hg:Gl X x) (hm:X.mg x=none) (hv:bootBuiltins x=some (.type T)) (ha:PA X (e::es) t) (hn:x≠"__name__":=by decide) (hdb:(x == ("__debug__":Str))=false:=by decide)
  (he:starEach (e::es) X.env=(false,eval e X.env)::starEach es X.env:=by rfl) (hpl:(backTo pos (starEach es X.env)).any (·.1)=false:=by rfl):PE X (.Call (.Name x p) (e::es) [] pos) (tCB r t):=by
 intro pins s U H Q I h
 refine YBu (Zcy I hg hm hv ?_ hn hdb)
 exact YCE (thn (ha pos pins s U H _ I h) fun us s1 ⟨vs,H1,I1,r1,q1⟩=>hc pins s1 U H1 vs us Q I1 r1 q1) he hpl
end
end L2
namespace HT
open PySem PyProof.Rows
section
open PySem.SeqAt
open PySem.AutoSeq1 (wpAny_loadPart')
open PySem.MeetsSeq PySem.MeetsSeq2 PySem.MeetsSeq3
end
section
variable {prog:Program}{w:World}{A:Around}{E:Q33}{s:Shared}
noncomputable def sIx (n d:Nat):Option Int->Nat
 | none=>d
 | some v=>if v<0 then (v+(n:Int)).toNat else min v.toNat n
theorem sIx_none (n d:Nat):sIx n d none=d:=rfl
theorem sIx_nat (n d k:Nat):sIx n d (some (k:Int))=min k n:=by
 show (if (k:Int)<0 then ((k:Int)+(n:Int)).toNat else min (k:Int).toNat n)=min k n
 rw[YAL (by omega),Int.toNat_natCast]
theorem sIx_le (n d:Nat)(hd:d<=n)(o:Option Int):sIx n d o<=n:=by
 cases o with
 | none=>exact hd
 | some v=>
  show (if v<0 then (v+(n:Int)).toNat else min v.toNat n)<=n
  by_cases hv:v<0
  .rw[YAP hv];omega
  .rw[YAL hv];exact Nat.min_le_right _ _
theorem clip_eq (v:Int)(n d:Nat):(if v<0 then max (v+(n:Int)) 0 else min v (n:Int))=((sIx n d (some v):Nat):Int):=by
 show (if v<0 then max (v+(n:Int)) 0 else min v (n:Int))=(((if v<0 then (v+(n:Int)).toNat else min v.toNat n):Nat):Int)
 by_cases hv:v<0
 .simp only[YAP hv];omega
 .simp only[YAL hv];omega
end
end HT
namespace L2
open PySem PySem.Spec PyProof.Rows
abbrev TO:=St->Hp->(Option Int->Hp->Prop)->Prop
def PO (X:Cx)(e:Option Expr)(t:TO):Prop:=
 ∀(pins:List (Addr×Obj)) (s:Shared) (U:St) (H:Hp) (Q:Option Int->Hp->Prop),Inv X pins U H s->t U H Q ->
  wpAny (model X.prog X.w) X.A (evalPart e X.env) (fun u s'=>∃o H',Inv X pins U H' s'/\IsPart u o/\Q o H') X.xe s
def tNoPart:TO:=fun _ H Q=>Q none H
def Zmg (t:TE):TO:=fun U H Q=>t U H fun x H1=>∃i,x=.int i/\Q (some i) H1
section
variable {X:Cx}{e:Expr}{te:TE}{lo hi:Option Expr}{tl th:TO}{pos p2:Pos}
theorem Zbc:PO X none tNoPart:=by
 intro pins s U H Q I h
 rw[evalPart_none]
 exact YAF ⟨none,H,I,.none,h⟩
theorem ZaS (h:PE X e te):PO X (some e) (Zmg te):=by
 intro pins s U H Q I hw
 rw[evalPart_some]
 refine thn (h pins s U H _ I hw) fun u s1 ⟨x,H1,I1,r1,q1⟩=>?_
 obtain⟨i,rfl,q⟩:=q1
 obtain⟨t,rfl⟩:=r1
 exact⟨some i,H1,I1,.int i t,q⟩
def SlR (X:Cx)(r:V->Option Int->Option Int->Hp->VK->Prop):Prop:=
 ∀(pins:List (Addr×Obj)) (s:Shared) (U:St) (H:Hp) (x:V) (v vl vu:Value) (lo hi:Option Int) (sl:Addr) (Q:VK),Inv X pins U H s->RelV x v->s.heap.IsSliceOf sl vl vu .none->IsPart vl lo->IsPart vu hi->r x lo hi H Q ->
  ∃T id,typeLookup (.type T) "__getitem__"=pure (some (.builtin id))/\s.TypeIs v T/\wpAny (model X.prog X.w) X.A (getItem v (.ref sl)) (EP X pins U Q) X.xe s
def tSl (r:V->Option Int->Option Int->Hp->VK->Prop)(te:TE)(tl th:TO):TE:=fun U H Q=>te U H fun x H1=>tl U H1 fun l H2=>th U H2 fun u H3=>r x l u H3 Q
theorem ZaM {r:V->Option Int->Option Int->Hp->VK->Prop}(hr:SlR X r)(he:PE X e te)(hl:PO X lo tl)(hu:PO X hi th):PE X (.Subscript e (.Slice lo hi none p2) pos) (tSl r te tl th):=by
 intro pins s U H Q I h
 refine Subscript_ (thn (he pins s U H _ I h) fun v s1 ⟨x,H1,I1,r1,q1⟩=>?_)
 refine wpAny_Slice (thn (hl pins s1 U H1 _ I1 q1) fun vl s2 ⟨l,H2,I2,pl,q2⟩=>thn (hu pins s2 U H2 _ I2 q2) fun vu s3 ⟨u,H3,I3,pu,q3⟩=>?_)
 rw[evalPart_none]
 refine YAF ?_
 have I4:Inv X pins U H3 { s3 with heap:=s3.heap.push { cls:=.type "slice",data:=.fields #[vl,vu,.none] } }:=I3.kept (t':=s3.toks) fun b ob q=>YAC _ q
 obtain⟨T,id,hT,ht,hg⟩:=hr pins { s3 with heap:=s3.heap.push { cls:=.type "slice",data:=.fields #[vl,vu,.none] } } U H3 x v vl vu l u s3.heap.objs.size Q I4 r1 (Heap.IsSliceOf.new ..) pl pu q3
 show wpAny (model X.prog X.w) X.A (subscriptTail e (.Slice lo hi none p2) v (.ref s3.heap.objs.size)) (EP X pins U Q) X.xe { s3 with heap:=s3.heap.push { cls:=.type "slice",data:=.fields #[vl,vu,.none] } }
 exact tail_any (ops:=[.ref s3.heap.objs.size,v]) ht hT hg (by with_unfolding_all rfl)
noncomputable def cutV (xs:List V)(lo hi:Option Int):List V:=(xs.drop (HT.sIx xs.length 0 lo)).take (HT.sIx xs.length xs.length hi-HT.sIx xs.length 0 lo)
theorem Zgf (xs:List V)(lo hi:Option Int):(cutV xs lo hi).length<=xs.length:=by
 unfold cutV
 rw[YAc,YAj]
 omega
end
end L2
namespace L2
open PySem PySem.Spec PyProof.Rows
noncomputable def ixN (n:Nat)(i:Int):Option Nat:=if 0<=i then (if i<n then some i.toNat else none) else if -(n:Int)<=i then some (i+n).toNat else none
noncomputable def atI {α:Type}(xs:List α)(i:Int):Option α:=(ixN xs.length i).bind fun j=>xs[j]?
theorem ZlL {n:Nat}{i:Int}{j:Nat}(h:ixN n i=some j):seqIndex? i n=some j/\j<n/\-(n:Int)<=i/\i<n:=by
 unfold ixN at h
 by_cases h0:0<=i
 .rw[YAP h0]at h
  by_cases h1:i<n
  .rw[YAP h1]at h
   have e:i.toNat=j:=Option.some.inj h
   exact⟨by rw[seqIndex_of h0 h1,e],by omega,by omega,h1⟩
  .rw[YAL h1]at h;cases h
 .rw[YAL h0]at h
  by_cases h1:-(n:Int)<=i
  .rw[YAP h1]at h
   have e:(i+n).toNat=j:=Option.some.inj h
   exact⟨by rw[seqIndex_neg (by omega) h1,e],by omega,h1,by omega⟩
  .rw[YAL h1]at h;cases h
theorem Zgj {α:Type}{xs:List α}{i:Int}{v:α}(h:atI xs i=some v):∃j,seqIndex? i xs.length=some j/\xs[j]?=some v/\j<xs.length/\-(xs.length:Int)<=i/\i<xs.length:=by
 unfold atI at h
 cases e:ixN xs.length i with
 | none=>rw[e]at h;cases h
 | some j=>
  rw[e]at h
  obtain⟨h1,h2,h3,h4⟩:=ZlL e
  exact⟨j,h1,h,h2,h3,h4⟩
theorem Zl5 {α:Type}{xs:List α}{j:Nat}{v:α}(h:xs[j]?=some v):atI xs (j:Int)=some v:=by
 have hj:j<xs.length:=(YAK.mp h).1
 have e:ixN xs.length (j:Int)=some j:=by
  unfold ixN
  rw[YAP (by omega),YAP (by omega)];simp
 unfold atI;rw[e];exact h
def Zl9 (b:Expr):Prop:=∀o i,subscripted b false o i=operate [o,i] (getItem o i)
def IxR (X:Cx)(r:R2):Prop:=
 ∀(value slice:Expr) (pins:List (Addr×Obj)) (s:Shared) (U:St) (H:Hp) (x y:V) (v u:Value) (Q:VK),Inv X pins U H s->RelV x v->RelV y u->r x y H Q ->
  subscripted slice false v u=operate [v,u] (getItem v u)->wpAny (model X.prog X.w) X.A (subscriptTail value slice v u) (EP X pins U Q) X.xe s
def MtR (X:Cx)(id:String)(r:V->List V->Hp->VK->Prop):Prop:=
 ∀(pins:List (Addr×Obj)) (s:Shared) (U:St) (H:Hp) (x:V) (xs:List V) (v:Value) (us:List Value) (Q:VK),Inv X pins U H s->RelV x v->Vals xs us->r x xs H Q ->
  wpAny (model X.prog X.w) X.A (call (.builtin id) (v::us)) (EP X pins U Q) X.xe s
section
variable {X:Cx}{a b:Expr}{ta tb:TE}{pos:Pos}
theorem Zbj {r:R2}(hr:IxR X r)(ha:PE X a ta)(hb:PE X b tb)(hs:Zl9 b):PE X (.Subscript a b pos) (tOp r ta tb):=by
 intro pins s U H Q I h
 exact Subscript_ (binT ha hb I h fun v u s2 x y H2 I2 rx ry q=>hr a b pins s2 U H2 x y v u Q I2 rx ry q (hs _ _))
def rIxL (K:Q44):R2:=fun x y H Q=>∃p xs i v,x=.ref p/\y=.int i/\SqL K H p xs/\atI xs i=some v/\Q v H
def rIxT (K:Q44):R2:=fun x y H Q=>∃p xs i v,x=.ref p/\y=.int i/\SqT K H p xs/\atI xs i=some v/\Q v H
def rIxS:R2:=fun x y H Q=>∃z i c,x=.str z/\y=.int i/\z.length<=sizeLine/\atI z.cps.toList i=some c/\Q (.str ⟨#[c]⟩) H
theorem ZlK:IxR X (rIxL X.K):=by
 intro value slice pins s U H x y v u Q I rx ry h hs
 obtain⟨p,xs,i,z,rfl,rfl,hq,he,q⟩:=h
 cases rx
 obtain⟨t,rfl⟩:=ry
 obtain⟨its,r,pl,hz⟩:=I.list hq
 obtain⟨j,h1,h2,h3,h4,h5⟩:=Zgj he
 obtain⟨w,ew,rw'⟩:=r.get h2
 have hl:=r.length
 have hn:=Zfd
 have fin:EP X pins U Q w s:=⟨z,H,I,rw',q⟩
 by_cases h0:0<=i
 .have hj:i.toNat=j:=by
   rw[seqIndex_of h0 h5]at h1
   exact Option.some.inj h1
  exact item_listR pl.isList h0 (by omega) (by rw[hj];simpa using ew) fin hs
 .have hj:(i+(its.toArray.size:Int)).toNat=j:=by
   rw[seqIndex_neg (by omega) h4]at h1
   rw[YAM,<-hl]
   exact Option.some.inj h1
  exact subscriptTail_builtinR (x:=w) pl.isList.typeIs slot_list_getitem.lookup
   (wpAny_getItem_list_neg (Q:=fun r s'=>r=w/\EP X pins U Q r s') pl.isList (by omega) (by rw[YAM]<;>omega) (by omega) (by rw[hj];simpa using ew) ⟨rfl,fin⟩) hs
theorem Znx:IxR X (rIxT X.K):=by
 intro value slice pins s U H x y v u Q I rx ry h hs
 obtain⟨p,xs,i,z,rfl,rfl,hq,he,q⟩:=h
 cases rx
 obtain⟨t,rfl⟩:=ry
 obtain⟨its,r,pl,hz⟩:=I.tuple hq
 obtain⟨j,h1,h2,h3,h4,h5⟩:=Zgj he
 obtain⟨w,ew,rw'⟩:=r.get h2
 have hl:=r.length
 have hn:=Zfd
 have fin:EP X pins U Q w s:=⟨z,H,I,rw',q⟩
 exact subscriptTail_builtinR (x:=w) pl.typeIs slot_tuple_getitem.lookup
  (getItem_tuple (j:=j) (Q:=fun r s'=>r=w/\EP X pins U Q r s') pl (by omega) (by omega) (by rw[YAM,<-hl];exact h1) (by simpa using ew) ⟨rfl,fin⟩) hs
theorem Zny:IxR X rIxS:=by
 intro value slice pins s U H x y v u Q I rx ry h hs
 obtain⟨z,i,c,rfl,rfl,hz,he,q⟩:=h
 obtain⟨t,rfl⟩:=rx
 obtain⟨t',rfl⟩:=ry
 obtain⟨j,h1,h2,h3,h4,h5⟩:=Zgj he
 have hl:z.cps.toList.length=z.length:=by simp[Str.length]
 rw[hl]at h1 h4 h5
 have hn:=Zfd
 exact tail_any (typeIs_str s z t) slot_str_getitem.lookup (getItem_str (c:=c) (by
  have e1:decide (i < -(2 ^ 63:Int))=false:=decide_eq_false (by omega)
  have e2:decide (i>=2 ^ 63)=false:=decide_eq_false (by omega)
  rw[e1,e2,Bool.or_false]) (by rw[h1];simpa using h2) ⟨.str ⟨#[c]⟩,H,I.tok _,⟨_,rfl⟩,q⟩) hs
theorem ZeV (lo hi:Option Int)(n:Nat):(sliceBounds lo hi none n).1=((HT.sIx n 0 lo:Nat):Int)/\(sliceBounds lo hi none n).2.1=((HT.sIx n n hi:Nat):Int)/\(sliceBounds lo hi none n).2.2=1:=by
 refine⟨?_,?_,rfl⟩
 .cases lo with
  | none=>simp[sliceBounds,HT.sIx]
  | some i=>
   simp only[sliceBounds,HT.sIx,Option.getD_none,show (1:Int)>0 by decide,if_true]
   by_cases h:i<0
   .simp only[h,if_true]<;>omega
   .simp only[h,if_false]<;>omega
 .cases hi with
  | none=>simp[sliceBounds,HT.sIx]
  | some i=>
   simp only[sliceBounds,HT.sIx,Option.getD_none,show (1:Int)>0 by decide,if_true]
   by_cases h:i<0
   .simp only[h,if_true]<;>omega
   .simp only[h,if_false]<;>omega
theorem Zel (its:List Value)(lo hi:Option Int):slicePick its.toArray lo hi none=((its.drop (HT.sIx its.length 0 lo)).take (HT.sIx its.length its.length hi-HT.sIx its.length 0 lo)).toArray:=by
 obtain⟨h1,h2,h3⟩:=ZeV lo hi its.toArray.size
 unfold slicePick
 rw[h1,h2,h3]
 simp only[sliceRange_one,pick_run,YAM]<;>rfl
def rSlL (K:Q44):V->Option Int->Option Int->Hp->VK->Prop:=fun x lo hi H Q=>∃a xs,x=.ref a/\SqL K H a xs/\∀p,H p=none->Q (.ref p) (upd H p (.lst (cutV xs lo hi)))
theorem Zlc:SlR X (rSlL X.K):=by
 intro pins s U H x v vl vu lo hi sl Q I rx hs pl pu h
 obtain⟨a,xs,rfl,hx,q⟩:=h
 cases rx
 obtain⟨its,r,ht,hz⟩:=I.list hx
 have hlen:=r.length
 refine⟨"list",_,slot_list_getitem.lookup,ht.isList.typeIs,?_⟩
 refine wpAny_getItem_list_slice ht.isList hs pl pu .none (by simp) ?_ (by rw[YAM]<;>omega)
 rw[Zel,<-hlen]
 refine⟨.ref s.heap.objs.size,_,I.laid (t':=s.toks) (o:=.lst (cutV xs lo hi)) (fun b ob q=>YAC _ q) (YAH _) ?_,rfl,q _ (I.hok.fresh (YAH _))⟩
 exact⟨YAJ (Zgf xs lo hi) hz,_,0,(r.drop (HT.sIx xs.length 0 lo)).take (HT.sIx xs.length xs.length hi-HT.sIx xs.length 0 lo),YAO _ rfl⟩
noncomputable def ZbA:V->Bool
 | .non=>true
 | .bl _=>true
 | .int _=>true
 | .str _=>true
 | _=>false
noncomputable def eqV:V->V->Bool
 | .non,.non=>true
 | .bl a,.bl b=>a == b
 | .bl a,.int b=>(if a then 1 else 0) == b
 | .int a,.bl b=>a == (if b then 1 else 0)
 | .int a,.int b=>a == b
 | .str a,.str b=>a == b
 | _,_=>false
theorem ZkP {A:Around}{s:Shared}{y x:V}{u v:Value}(ry:RelV y u)(rx:RelV x v)(fy:ZbA y=true)(fx:ZbA x=true):SeqAt.EqAt A s u v (eqV y x):=by
 cases y with
 | non=>
  cases ry
  cases x with
  | non=>cases rx;exact SeqAt.EqAt.same _
  | bl b=>cases rx;exact SeqAt.EqAt.none_bool b
  | int b=>obtain⟨t,rfl⟩:=rx;exact SeqAt.EqAt.none_int b t
  | str b=>obtain⟨t,rfl⟩:=rx;exact SeqAt.EqAt.none_str b t
  | _=>exact absurd (show false=true from fx) YAD
 | bl a=>
  cases ry
  cases x with
  | non=>cases rx;exact SeqAt.EqAt.bool_none a
  | bl b=>cases rx;exact SeqAt.EqAt.bool_bool a b
  | int b=>obtain⟨t,rfl⟩:=rx;exact SeqAt.EqAt.bool_int a b t
  | str b=>obtain⟨t,rfl⟩:=rx;exact SeqAt.EqAt.bool_str a b t
  | _=>exact absurd (show false=true from fx) YAD
 | int a=>
  obtain⟨t',rfl⟩:=ry
  cases x with
  | non=>cases rx;exact SeqAt.EqAt.int_none a t'
  | bl b=>cases rx;exact SeqAt.EqAt.int_bool a t' b
  | int b=>obtain⟨t,rfl⟩:=rx;exact SeqAt.EqAt.int_int a t' b t
  | str b=>obtain⟨t,rfl⟩:=rx;exact SeqAt.EqAt.int_str a t' b t
  | _=>exact absurd (show false=true from fx) YAD
 | str a=>
  obtain⟨t',rfl⟩:=ry
  cases x with
  | non=>cases rx;exact SeqAt.EqAt.str_none a t'
  | bl b=>cases rx;exact SeqAt.EqAt.str_bool a t' b
  | int b=>obtain⟨t,rfl⟩:=rx;exact SeqAt.EqAt.str_int a t' b t
  | str b=>obtain⟨t,rfl⟩:=rx;exact SeqAt.EqAt.str_str a t' b t
  | _=>exact absurd (show false=true from fx) YAD
 | _=>exact absurd (show false=true from fy) YAD
noncomputable def eqU (x:V)(u:Value):Bool:=match u with
 | .none=>eqV .non x
 | .bool b=>eqV (.bl b) x
 | .int i _=>eqV (.int i) x
 | .str z _=>eqV (.str z) x
 | _=>false
theorem ZkN {x y:V}{u:Value}(r:RelV y u)(f:ZbA y=true):eqU x u=eqV y x:=by
 cases y with
 | non=>cases r;rfl
 | bl b=>cases r;rfl
 | int i=>obtain⟨t,rfl⟩:=r;rfl
 | str z=>obtain⟨t,rfl⟩:=r;rfl
 | _=>exact absurd (show false=true from f) YAD
theorem ZdP {x:V}:∀ {xs:List V} {us:List Value},Vals xs us->xs.all ZbA=true->us.any (eqU x)=xs.any fun y=>eqV y x
 | _,_,.nil,_=>rfl
 | y::xs,u::us,.cons r t,f=>by
  rw[List.all_cons,YAV]at f
  rw[List.any_cons,List.any_cons,ZkN r f.1,ZdP t f.2]
theorem Zcw {A:Around}{s:Shared}{x:V}{v:Value}(rx:RelV x v)(fx:ZbA x=true):∀ {xs:List V} {us:List Value},Vals xs us->xs.all ZbA=true->∀u∈us,SeqAt.EqAt A s u v (eqU x u)
 | _,_,.nil,_=>fun u hu=>by cases hu
 | y::xs,u::us,.cons r t,f=>fun u' hu=>by
  rw[List.all_cons,YAV]at f
  rcases YAU.mp hu with rfl | hu
  .rw[ZkN r f.1];exact ZkP r rx f.1 fx
  .exact Zcw rx fx t f.2 u' hu
noncomputable def inV (x:V)(xs:List V):Bool:=xs.any fun y=>eqV y x
def rIn (K:Q44)(neg:Bool):R2:=fun x y H Q=>∃p xs,y=.ref p/\(SqL K H p xs\/SqT K H p xs)/\ZbA x=true/\xs.all ZbA=true/\Q (.bl (if neg then !inV x xs else inV x xs)) H
theorem Zil:OpR X (compareOp .In) (rIn X.K false):=by
 intro pins s U H x y v u Q I rx ry h
 obtain⟨p,xs,rfl,hq,fx,fs,q⟩:=h
 cases ry
 rcases hq with hq | hq
 .obtain⟨its,r,pl,hz⟩:=I.list hq
  refine SeqAt.in_listAt (eqU x) pl.isList (fun w hw=>Zcw rx fx r fs w (by simpa using hw)) ⟨.bl _,H,I,rfl,?_⟩
  rw[show its.toArray.any (eqU x)=its.any (eqU x) by simp,ZdP r fs]
  exact q
 .obtain⟨its,r,pl,hz⟩:=I.tuple hq
  refine SeqAt.in_tupleAt (eqU x) pl (fun w hw=>Zcw rx fx r fs w (by simpa using hw)) ⟨.bl _,H,I,rfl,?_⟩
  rw[show its.toArray.any (eqU x)=its.any (eqU x) by simp,ZdP r fs]
  exact q
theorem Ze6:OpR X (compareOp .NotIn) (rIn X.K true):=by
 intro pins s U H x y v u Q I rx ry h
 obtain⟨p,xs,rfl,hq,fx,fs,q⟩:=h
 cases ry
 rcases hq with hq | hq
 .obtain⟨its,r,pl,hz⟩:=I.list hq
  refine SeqAt.notIn_listAt (eqU x) pl.isList (fun w hw=>Zcw rx fx r fs w (by simpa using hw)) ⟨.bl _,H,I,rfl,?_⟩
  rw[show its.toArray.any (eqU x)=its.any (eqU x) by simp,ZdP r fs]
  exact q
 .obtain⟨its,r,pl,hz⟩:=I.tuple hq
  refine SeqAt.notIn_tupleAt (eqU x) pl (fun w hw=>Zcw rx fx r fs w (by simpa using hw)) ⟨.bl _,H,I,rfl,?_⟩
  rw[show its.toArray.any (eqU x)=its.any (eqU x) by simp,ZdP r fs]
  exact q
theorem ZfA:ZbU X (.type "list") (fun xs H Q=>∃p ys,xs=[.ref p]/\(SqL X.K H p ys\/SqT X.K H p ys)/\∀l,H l=none->Q (.ref l) (upd H l (.lst ys))):=by
 intro pins s U H xs us Q I r h
 obtain⟨p,ys,rfl,hq,q⟩:=h
 obtain⟨u,rfl,rx⟩:=vals1 r
 cases rx
 have fin:∀(its:List Value),Vals ys its->ys.length<=sizeLine->∀(h':Heap) (c':Nat),(∀b o',s.heap.get? b=some o'->h'.get? b=some o') ->
   h'.get? s.heap.objs.size=some { cls:=.type "list",dict:=none,data:=.seq its.toArray c',slots:=#[] }->EP X pins U Q (.ref s.heap.objs.size) { s with heap:=h' }:=fun its r' hz h' c' kp e=>
  ⟨.ref s.heap.objs.size,_,I.laid (t':=s.toks) kp (YAH _) (show ObjOk X.prog X.w _ h' _ (.lst ys) from⟨hz,its,c',r',e⟩),rfl,q _ (I.hok.fresh (YAH _))⟩
 rcases hq with hq | hq
 .obtain⟨its,r',pl,hz⟩:=I.list hq
  have hlen:=r'.length
  obtain⟨o,ho,hc,n,hd⟩:=pl.isList
  exact call_list_seq p (.inl rfl) ho hc hd (fun h' c' kp e=>fin its r' hz h' c' kp e) (by simp only[YAM]<;>omega)
 .obtain⟨its,r',pl,hz⟩:=I.tuple hq
  have hlen:=r'.length
  obtain⟨o,ho,hc,n,hd⟩:=pl
  exact call_list_seq p (.inr rfl) ho hc hd (fun h' c' kp e=>fin its r' hz h' c' kp e) (by simp only[YAM]<;>omega)
def tyV (K:Q44)(T:String)(x:V)(H:Hp):Prop:=match x with
 | .str _=>T="str"
 | .int _=>T="int"
 | .ref p=>(T="list"/\∃xs,SqL K H p xs)\/(T="tuple"/\∃o,K.lookup p=some o/\o.cls=.type "tuple"/\o.dict=none) \/
   (T="dict"/\((∃kvs,H p=some (.dK kvs))\/∃kvs,H p=some (.dT kvs)))\/(T="set"/\∃S n,H p=some (.set S n))
 | _=>False
theorem Zkr {pins:List (Addr×Obj)}{U:St}{H:Hp}{s:Shared}{T:String}{x:V}{v:Value}(I:Inv X pins U H s)(r:RelV x v)(ty:tyV X.K T x H):
  s.TypeIs v T/\∀a,v=.ref a->∃ob,s.heap.get? a=some ob/\ob.dict=none:=by
 cases x with
 | str z=>
  obtain⟨t,rfl⟩:=r
  cases (show T="str" from ty)
  exact⟨typeIs_str s z t,fun _ e=>nomatch e⟩
 | int i=>
  obtain⟨t,rfl⟩:=r
  cases (show T="int" from ty)
  exact⟨typeIs_int s i t,fun _ e=>nomatch e⟩
 | ref p=>
  cases r
  rcases ty with⟨rfl,xs,hq⟩|⟨rfl,o,hk,hc,hd⟩|⟨rfl,hk⟩|⟨rfl,S,n,hk⟩
  .obtain⟨its,_,pl,_⟩:=I.list hq
   refine⟨pl.isList.typeIs,fun a e=>?_⟩
   cases e
   obtain⟨o,n,e,c,hd,_⟩:=pl
   exact⟨o,e,hd⟩
  .refine⟨⟨o,I.kIn p o hk,hc⟩,fun a e=>?_⟩
   cases e
   exact⟨o,I.kIn _ o hk,hd⟩
  .have z:∃o,s.heap.get? p=some o/\o.ExactDict:=by
    rcases hk with⟨kvs,hk⟩|⟨kvs,hk⟩
    .obtain⟨_,_,_,_,o,_,_,e,ex,_⟩:=I.hok p _ hk
     exact⟨o,e,ex⟩
    .obtain⟨_,_,_,_,o,_,_,e,ex,_⟩:=I.hok p _ hk
     exact⟨o,e,ex⟩
   obtain⟨o,e,ex⟩:=z
   refine⟨⟨o,e,ex.1⟩,fun a e2=>?_⟩
   cases e2
   exact⟨o,e,ex.2.1⟩
  .obtain⟨o,_,_,_,e,ex,_⟩:=I.hok p _ hk
   refine⟨⟨o,e,ex.1⟩,fun a e2=>?_⟩
   cases e2
   exact⟨o,e,ex.2.1⟩
 | _=>exact False.elim ty
def tBM0 (K:Q44)(T:String)(r:V->List V->Hp->VK->Prop)(to:TE):TE:=fun U H Q=>to U H fun x H1=>tyV K T x H1/\r x [] H1 Q
def tBM (K:Q44)(T:String)(r:V->List V->Hp->VK->Prop)(to:TE)(t:TA):TE:=fun U H Q=>to U H fun x H1=>tyV K T x H1/\t U H1 fun xs H2=>r x xs H2 Q
variable {o e:Expr}{es:List Expr}{to:TE}{t:TA}{name:Str}{apos cpos:Pos}{T id:String}{r:V->List V->Hp->VK->Prop}
theorem ZmT (pa:PlainAttrs T) (slot:Slot T name id) (hty:typeOf (.builtin id)=pure (.type "method_descriptor")) (hm:MtR X id r) (ho:PE X o to)
  (hbase:attributeBase o name X.env (eval o X.env)=eval o X.env:=by rfl) (hline:(apos.endLine == cpos.line)=true:=by rfl):PE X (.Call (.Attribute o name apos) [] [] cpos) (tBM0 X.K T r to):=by
 intro pins s U H Q I h
 refine wpAny_Call_method0_late hbase hline (thn (ho pins s U H _ I h) fun v s1 ⟨x,H1,I1,r1,ty,q1⟩=>?_)
 obtain⟨h1,h2⟩:=Zkr I1 r1 ty
 exact⟨T,id,pa,slot,hty,h1,h2,YCU rfl (PySem.evalArgs_none (hm pins s1 U H1 x [] v [] Q I1 r1 .nil q1))⟩
theorem ZdS (pa:PlainAttrs T) (slot:Slot T name id) (hty:typeOf (.builtin id)=pure (.type "method_descriptor")) (hm:MtR X id r) (ho:PE X o to) (ha:PA X (e::es) t)
  (hbase:attributeBase o name X.env (eval o X.env)=eval o X.env:=by rfl)
  (hfew:((backTo cpos (starEach (e::es) X.env)).all (fun x=>!x.1)&&(backToKw cpos (keywordEach [] X.env)).all (fun x=>x.1.isSome)
   && decide ((e::es).length+([]:List Keyword).length+(if ([]:List Keyword).isEmpty then 0 else 1)<30))=true:=by rfl)
  (hline:(apos.endLine == cpos.line)=true:=by rfl) (hs:starEach (e::es) X.env=(false,eval e X.env)::starEach es X.env:=by rfl) (hplain:(backTo cpos (starEach es X.env)).any (·.1)=false:=by rfl):
  PE X (.Call (.Attribute o name apos) (e::es) [] cpos) (tBM X.K T r to t):=by
 intro pins s U H Q I h
 refine wpAny_Call_method_late hbase hfew hline rfl (thn (ho pins s U H _ I h) fun v s1 ⟨x,H1,I1,r1,ty,q1⟩=>?_)
 obtain⟨h1,h2⟩:=Zkr I1 r1 ty
 refine⟨T,id,pa,slot,hty,h1,h2,?_⟩
 have hA:=ha cpos pins s1 U H1 _ I1 q1
 rw[hs]at hA ⊢
 refine YCU (by show (false || (backTo cpos (starEach es X.env)).any (·.1))=false;rw[hplain]<;>rfl) (YDK ?_)
 exact thn hA fun us s2 ⟨vs,H2,I2,r2,q2⟩=>hm pins s2 U H2 x vs v us Q I2 r1 r2 q2
end
def MtM (X:Cx)(id:String)(r:V->List V->Hp->VK->Prop):Prop:=
 ∀(pins:List (Addr×Obj)) (s:Shared) (U:St) (H:Hp) (x:V) (xs:List V) (v:Value) (us:List Value) (Q:VK),Inv X pins U H s->RelV x v->Vals xs us->r x xs H Q ->
  wpAny (model X.prog X.w) X.A (call (.builtin id) (v::us)) (EP X pins U Q) X.xe s
theorem Vals.one:∀ {x:V} {us:List Value},Vals [x] us->∃u,us=[u]/\RelV x u
 | _,_,.cons r .nil=>⟨_,rfl,r⟩
theorem Vals.two:∀ {x y:V} {us:List Value},Vals [x,y] us->∃u v,us=[u,v]/\RelV x u/\RelV y v
 | _,_,_,.cons r (.cons q .nil)=>⟨_,_,rfl,r,q⟩
theorem Vals.zero:∀ {us:List Value},Vals [] us->us=[]
 | _,.nil=>rfl
theorem Vals.dropLast {xs:List V}{us:List Value}(h:Vals xs us):Vals xs.dropLast us.dropLast:=by
 induction h with
 | nil=>exact .nil
 | cons r t ih=>
  cases t with
  | nil=>exact .nil
  | cons q t'=>exact .cons r ih
theorem ZhB {α:Type}(l:List α):l.eraseIdx (l.length-1)=l.dropLast:=by
 induction l with
 | nil=>rfl
 | cons a r ih=>
  cases r with
  | nil=>rfl
  | cons b r=>
   have e:(a::b::r).length-1=((b::r).length-1)+1:=by
    have h1:(a::b::r).length=r.length+2:=rfl
    have h2:(b::r).length=r.length+1:=rfl
    omega
   rw[e,List.eraseIdx_cons_succ,ih]
   all_goals rfl
section
variable {X:Cx}{pins:List (Addr×Obj)}{U:St}{H:Hp}{s:Shared}{l b:Addr}{xs ys zs:List V}
theorem Inv.lset {its its':List Value}{n:Nat}{f:Array Value->Array Value}{t':Nat}(I:Inv X pins U H s)(hH:H l=some (.lst xs))
  (e:s.heap.get? l=some { cls:=.type "list",data:=.seq its.toArray n }) (hf:f its.toArray=its'.toArray) (hv:Vals ys its') (hz:ys.length<=sizeLine):
  Inv X pins U (upd H l (.lst ys)) { s with heap:=s.heap.update l (Obj.mapSeq f),toks:=t' }:=by
 have q:=PySem.IsL.update e f
 rw[hf]at q
 refine I.write (x:=l) (e:=l) (by rw[hH];exact trivial) (.inl rfl) (fun b' u hb hu=>(YCH s.heap (Obj.mapSeq f) (YAv hb)).trans hu) ⟨_,q⟩ ?_
 exact⟨hz,its',_,hv,q⟩
theorem Inv.lnew {its:List Value}{t':Nat}(I:Inv X pins U H s)(hv:Vals ys its)(hz:ys.length<=sizeLine):
  Inv X pins U (upd H s.heap.objs.size (.lst ys)) { s with heap:=s.heap.push { cls:=.type "list",data:=.seq its.toArray },toks:=t' }:=
 I.laid (fun _ _ q=>YAC _ q) (YAH _) ⟨hz,its,0,hv,YAO _ rfl⟩
theorem Inv.fresh (I:Inv X pins U H s):H s.heap.objs.size=none:=I.hok.fresh (YAH _)
theorem Inv.lstM (I:Inv X pins U H s)(hH:H l=some (.lst xs)):xs.length<=sizeLine/\∃(its:List Value) (n:Nat),Vals xs its/\xs.length=its.length/\s.heap.get? l=some { cls:=.type "list",data:=.seq its.toArray n }:=by
 obtain⟨z,its,n,r,e⟩:=I.hok l _ hH
 exact⟨z,its,n,r,r.length,e⟩
theorem ZjL {n:Nat}(h:n<=sizeLine):Builtin.List.listTooLong n=false:=by
 unfold Builtin.List.listTooLong
 exact decide_eq_false (by omega)
end
section
variable {X:Cx}
def rAppend:V->List V->Hp->VK->Prop:=fun x vs H Q=>∃l xs y,x=.ref l/\vs=[y]/\H l=some (.lst xs)/\xs.length<sizeLine/\Q .non (upd H l (.lst (xs++[y])))
theorem Zbl:MtM X "list.append" rAppend:=by
 intro pins s U H x vs v us Q I rx rv h
 obtain⟨l,xs,y,rfl,rfl,hH,hz,q⟩:=h
 cases rx
 obtain⟨u,rfl,ru⟩:=rv.one
 obtain⟨z,its,n,r,hl,e⟩:=I.lstM hH
 refine call_meets F.slot_list_append ⟨_,e,rfl⟩ F.entry_list_append (F.args_list_append_2 _ _) (PySem.list_append l its.toArray n u (by rw[YAM];omega)) ⟨e,?_⟩
 refine⟨.non,_,I.lset (its':=its++[u]) hH e (by simp) (r.append (.cons ru .nil)) ?_,rfl,q⟩
 rw[YAE,YAg]
 omega
def rExtend:V->List V->Hp->VK->Prop:=fun x vs H Q=>∃l b xs zs,x=.ref l/\vs=[.ref b]/\H l=some (.lst xs)/\H b=some (.lst zs)/\xs.length+zs.length<=sizeLine/\Q .non (upd H l (.lst (xs++zs)))
theorem Ziv:MtM X "list.extend" rExtend:=by
 intro pins s U H x vs v us Q I rx rv h
 obtain⟨l,b,xs,zs,rfl,rfl,hH,hB,hz,q⟩:=h
 cases rx
 obtain⟨u,rfl,ru⟩:=rv.one
 cases ru
 obtain⟨z,its,n,r,hl,e⟩:=I.lstM hH
 obtain⟨z2,its2,n2,r2,hl2,e2⟩:=I.lstM hB
 have hsz:its.toArray.size+its2.toArray.size<=sizeLine:=by rw[YAM,YAM];omega
 have hlong:¬(!its.toArray.isEmpty&&Builtin.List.listTooLong (its.toArray.size+its2.toArray.size))=true:=by
  rw[ZjL hsz,YCw]
  exact YAD
 refine call_meets F.slot_list_extend ⟨_,e,rfl⟩ F.entry_list_extend (F.args_list_extend_2 _ _)
  (AutoSeq1.list_extend_list_list_0 l its.toArray n b its2.toArray n2 hlong (by rw[YAM];omega) (by omega)) ⟨e,e2,?_⟩
 refine⟨.non,_,I.lset (its':=its++its2) hH e (by simp) (r.append r2) ?_,rfl,q⟩
 rw[YAE]
 omega
def rPop:V->List V->Hp->VK->Prop:=fun x vs H Q=>∃l xs y,x=.ref l/\vs=[]/\H l=some (.lst xs)/\xs[xs.length-1]?=some y/\Q y (upd H l (.lst xs.dropLast))
theorem Znj:MtM X "list.pop" rPop:=by
 intro pins s U H x vs v us Q I rx rv h
 obtain⟨l,xs,y,rfl,rfl,hH,hy,q⟩:=h
 cases rx
 have hus:=rv.zero
 subst hus
 obtain⟨z,its,n,r,hl,e⟩:=I.lstM hH
 obtain⟨u,hu,ru⟩:=r.get hy
 have hy':its.toArray[its.toArray.size-1]?=some u:=by
  show its.toArray[its.length-1]?=some u
  rw[<-YAs,<-hl]
  exact hu
 refine call_meets F.slot_list_pop ⟨_,e,rfl⟩ F.entry_list_pop (F.args_list_pop_1 _) (MeetsSeq.list_pop_last l its.toArray n u hy' (by rw[YAM];omega)) ⟨e,?_⟩
 refine⟨y,_,I.lset (its':=its.dropLast) hH e ?_ r.dropLast ?_,ru,q⟩
 .show its.toArray.eraseIdxIfInBounds (its.toArray.size-1)=its.dropLast.toArray
  rw[YAM,List.eraseIdxIfInBounds_toArray,ZhB]
 .rw[YAx]
  omega
def rCat:R2:=fun x y H Q=>∃l b xs zs,x=.ref l/\y=.ref b/\H l=some (.lst xs)/\H b=some (.lst zs)/\xs.length+zs.length<=sizeLine/\∀p,H p=none->Q (.ref p) (upd H p (.lst (xs++zs)))
theorem Zim:OpR X (binaryOp .Add) rCat:=by
 intro pins s U H x y v u Q I rx ry h
 obtain⟨l,b,xs,zs,rfl,rfl,hH,hB,hz,q⟩:=h
 cases rx
 cases ry
 obtain⟨z,its,n,r,hl,e⟩:=I.lstM hH
 obtain⟨z2,its2,n2,r2,hl2,e2⟩:=I.lstM hB
 refine PySem.P.add_list e e2 ?_ (by rw[YAM,YAM];omega)
 have ea:its.toArray++its2.toArray=(its++its2).toArray:=by simp
 rw[ea]
 exact⟨.ref _,_,I.lnew (t':=s.toks) (r.append r2) (by rw[YAE];omega),rfl,q _ I.fresh⟩
end
section
variable {prog:Program}{w:World}{A:Around}{E:Q33}{s:Shared}
end
section
variable {X:Cx}
end
end L2
namespace Att
open PySem PySem.W PySem.Calls PyProof.Rows
theorem ZdH {P:Params}{h:Heap}:∀(ns:List Int) (vs:List Value),WellAll P h vs (ns.map WData.int)->IntsAre vs ns:=by
 intro ns
 induction ns with
 | nil=>
  intro vs w
  rw[YDB]at w
  cases w
  exact .nil
 | cons n ns ih=>
  intro vs w
  rw[YAr]at w
  cases w with
  | cons a b=>
   cases a
   exact .cons _ _ (ih _ b)
theorem Zh3 {l:OpenLaw}{n:Nat}(hn:l.most=some n){P:Params}{h:Heap}{args:List WData}{vals:List Value}
  (hpre:l.row.toRowW.claim.pre args=true) (hwl:WellAll P h vals args):
  ∃a vs ns,vals=[Value.ref a]/\args=[WData.list (ns.map WData.int)]/\h.get? a=some { cls:=.type "list",data:=.seq vs.toArray }/\IntsAre vs ns/\ns.length<=n:=by
 have hsh:WShape.hasAll [] args [.list .int]=true:=(pre_splitW hpre).1
 have hc:l.pre.holds [] { args:=args }=true:=(pre_splitW hpre).2
 obtain⟨d,r,rfl,h1,h2⟩:=hasAllW_cons hsh
 obtain rfl:=hasAllW_nil h2
 obtain⟨xs,rfl,h3⟩:=hasW_list h1
 obtain⟨ns,rfl⟩:=items_int h3
 have hlen:ns.length<=n:=by
  unfold OpenLaw.pre at hc
  have h4:(WTm.not (.lt (.lit (.int (n:Int))) (.len (.arg 0)))).holds [] { args:=[.list (ns.map .int)] }=true:=by
   have h4:=(holds_andW hc).1
   rw[hn]at h4
   exact h4
  have h5:=condW_of h4 (w_not (w_lt w_lit (w_len_list (w_arg rfl))))
  rw[YAB]at h5
  refine Nat.le_of_not_lt fun q=>?_
  have q':(n:Int)<((ns.length:Nat):Int):=by omega
  first
   | (rw[decide_eq_true q']at h5;exact absurd h5 (by decide))
   | (simp at h5;omega)
 cases hwl with
 | cons w1 w2=>
  cases w2
  cases w1 with
  | list ho hall=>exact⟨_,_,ns,rfl,rfl,ho,ZdH ns _ hall,hlen⟩
theorem Zie (l:OpenLaw)(args:List WData):l.row.toRowW.claim.post args (.bool true) args=true:=
 postW_of (r:=l.row.toRowW) (X:=(true == true))
  (show WShape.has [] (.bool true) .bool=true by first | rfl | decide | simp[WShape.has,WShape.arms,WShape.armsAll])
  (show (WTm.eq .res (.lit (.bool true))).value [] { args:=args,res:=some (.bool true),after:=args }=some (.bool (true == true)) from w_eq_bool (w_res rfl) w_lit) rfl
theorem attach_call {l:OpenLaw}{n:Nat}{q:Program}{loose:List Str}{XP:(Str->Option Value)->Heap->Prop}{YP:World->Heap->Prop}{d:DefRec}
  (hn:l.most=some n) (hdf:d.params.defaults=[])
  (call:∀(w:World) (s_0 s_1:Shared) (mg mb:Str->Option Value) (fa:Addr) (o:Obj) (pm cd doc:Value) (a:Addr) (vs:List Value) (ns:List Int),
   Ground q loose [] XP w s_0 mg mb s_1.heap->YP w s_1.heap ->
   s_1.heap.get? fa=some o->o.data=.func (docDef d.name d.params d.body d.scope pm cd doc)->s_1.heap.CodeRec cd d.name->mg d.name=some (.ref fa) ->
   s_1.heap.get? a=some { cls:=.type "list",data:=.seq vs.toArray }->IntsAre vs ns->ns.length<=n->s_1.gens=#[] ->
   codeAny (model l.prog w) callerA (.call (.ref fa) ⟨[.ref a],[]⟩) (fun r s'=>r=.ok (.ret (.bool true))/\OldK s_1.heap s'.heap/\s'.os=s_1.os/\AllBare s'.gens) s_1):
  WalkO q loose XP YP l.row.toRowW d [] (fun f vs=>PySem.call f vs):=by
 intro w s_0 s_1 mg mb G Y fa o pm cd doc dV kV ho hd hcd hD hmg hg args vals as hpre hlay hrd hwl hlo
 obtain rfl:dV=.none:=Dflts.none hD hdf
 obtain rfl:kV=.none:=Dflts.noKw hD
 obtain⟨a,vs,ns,rfl,rfl,hobj,hints,hlen⟩:=Zh3 hn hpre hwl
 refine enter_call (codeAny_mono (call w s_0 s_1 mg mb fa o pm cd doc a vs ns G Y ho (fd_plain hd) hcd hmg hobj hints hlen hg) fun r s' hq=>?_)
 obtain⟨rfl,h2,h3,h4⟩:=hq
 exact⟨.inl ⟨.bool true,.bool true,[],rfl,fun _=>rfl,.bool true,Zie l _,fun _=>⟨List.Pairwise.nil,fun _ hm=>(nomatch hm)⟩⟩,h2,h3,h4⟩
section
variable {prog:Program}{w:World}{A:Around}{E:Q33}{s:Shared}{K:Frag}
noncomputable def ledger (h:Heap)(L d:Addr):List (Addr×Obj):=(List.range h.objs.size).filterMap fun a=>if a=L\/a=d then none else (h.get? a).map fun o=>(a,o)
end
end Att
namespace L2
open PySem PySem.Spec PyProof.Rows
theorem Zdj:∀ {vs:List Value} {ns:List Int},IntsAre vs ns->Vals (ns.map V.int) vs
 | _,_,.nil=>.nil
 | _,_,.cons n t h=>.cons ⟨t,rfl⟩ (Zdj h)
def Only (H:Hp):Prop:=∀b,H b=none\/∃o xs,H b=some (.frz o (.lst xs))
theorem ZjY {P:Program}{w:World}{K:Q44}{mg mb:Str->Option Value}{CX:CXT}{k:Nat}{fa a:Addr}{fd:FuncData}{x:Str}{sp:Sp}{s_1:Shared}{vs:List Value}{ns:List Int}
  (KX:K.In s_1.heap) (hns:s_1.heap.Ns mainGlobals mg) (hb:s_1.heap.Ns builtinsNs mb) (hbb:∀x:Str,x≠"__name__"->mb x=bootBuiltins x) (hlim:s_1.heap.NoLimit) (hg:s_1.gens=#[])
  (ha:s_1.heap.get? a=some { cls:=.type "list",data:=.seq vs.toArray }) (hi:IntsAre vs ns) (hl:ns.length<=sizeLine) (hr:Room k callerA)
  (F:∀base:Heap,K.In base->base.Ns mainGlobals mg->FnOk P w K mg base CX k fa fd [x] sp) (hbind:∀(s:Shared) (u:Value),BindsTo s fd ⟨[u],[]⟩ [(x,u)])
  (hsp:∀H:Hp,Only H->SqL K H a (ns.map V.int)->sp [.ref a] H (fun v _=>v=.bl true) fun _ _ _=>False)
  (hCX:∀H e s',CX [] H s_1 (fun _ _ _=>False) e s'->False):
  codeAny (model P w) callerA (.call (.ref fa) ⟨[.ref a],[]⟩) (fun r s'=>r=.ok (.ret (.bool true))/\OldK s_1.heap s'.heap/\s'.os=s_1.os/\AllBare s'.gens) s_1:=by
 have rv:=Zdj hi
 have lenV:=hi.length
 have core:∀H:Hp,Only H->SqL K H a (ns.map V.int)->HOk P w H s_1.heap->(∀b,H b≠none->b=a)->(H a≠none->K.lookup a=none) ->
   codeAny (model P w) callerA (.call (.ref fa) ⟨[.ref a],[]⟩) (fun r s'=>r=.ok (.ret (.bool true))/\OldK s_1.heap s'.heap/\s'.os=s_1.os/\AllBare s'.gens) s_1:=by
  intro H hO hS hok hA hK
  have base_of:∀ {b:Addr} {o:Obj},s_1.heap.get? b=some o->H b=none->(hidT s_1.heap H).get? b=some o:=fun e n=>ZgT e n
  have noA:∀ {b:Addr} {o:Obj} {es:Array DictEntry} {ep:Nat},s_1.heap.get? b=some o->o.data=.dict es ep->H b=none:=fun {b o es ep} e d=>by
   cases q:H b with
   | none=>rfl
   | some u=>
    have e':b=a:=hA b (by rw[q];simp)
    subst e'
    rw[ha]at e;cases e
    have d':Data.seq vs.toArray _=Data.dict es ep:=d
    cases d'
  have nsK:∀ {b:Addr} {m:Str->Option Value},s_1.heap.Ns b m->(hidT s_1.heap H).Ns b m:=fun {b m} ⟨o,es,ep,e,d,r⟩=>⟨o,es,ep,base_of e (noA e d),d,r⟩
  have hKb:K.In (hidT s_1.heap H):=fun b o e=>base_of (KX b o e) (by
   cases q:H b with
   | none=>rfl
   | some u=>
    have e':b=a:=hA b (by rw[q];simp)
    subst e'
    rw[hK (by rw[q];simp)]at e;cases e)
  have hM:Mod K mg (hidT s_1.heap H):=⟨hKb,nsK hns,⟨mb,nsK hb,hbb⟩,let ⟨mc,h1,h2⟩:=hlim;⟨mc,nsK h1,h2⟩⟩
  have e0:Env0 P w K mg (hidT s_1.heap H) callerA [] s_1 H:=⟨rfl,hM,fun b o e=>Ziq e,YCS (Zfm _ _),trivial,fun b hb=>absurd (show b∈([]:List Addr) from hb) (by simp),hok,.of_eq hg⟩
  refine codeAny_mono ((F _ hKb (nsK hns)).run callerA [] s_1 H ⟨[.ref a],[]⟩ [.ref a] [.ref a] _ _ hr e0 (hbind s_1 (.ref a)) (.cons rfl .nil) (hsp H hO hS)) fun r s' h=>?_
  cases r with
  | error e=>exact(hCX H e s' h).elim
  | ok fl=>
   cases fl with
   | next=>exact False.elim h
   | brk=>exact False.elim h
   | cont=>exact False.elim h
   | ret u=>
    obtain⟨v,H',os,bare,un,hok',r',q⟩:=h
    have q':v=.bl true:=q
    subst q'
    obtain rfl:u=Value.bool true:=r'
    refine⟨rfl,OldK.of_keep fun b o e=>?_,os,bare⟩
    cases q:H b with
    | none=>exact un.keep b o e q (by intro z;exact absurd (show b∈([]:List Addr) from z) (by simp)) (by simp)
    | some u=>
     rcases hO b with z | ⟨ob,xs,z⟩
     .rw[q]at z;cases z
     .have z2:=un.frzs b ob _ z
      obtain⟨e1,_⟩:=hok b _ z
      obtain⟨e2,_⟩:=hok' b _ z2
      rw[e]at e1;cases e1
      exact e2
 cases hk:K.lookup a with
 | some o=>
  have e:=KX a o hk
  rw[ha]at e
  cases e
  refine core (fun _=>none) (fun _=>.inl rfl) (.inr ⟨_,vs.toArray,_,hk,rfl,rfl,rfl,by rw[YAM,lenV];exact hl,by simpa using rv⟩) (fun b u z=>by have z':(none:Option HO)=some u:=z;cases z') (fun b z=>absurd rfl z) fun z=>absurd rfl z
 | none=>
  refine core (fun b=>if b=a then some (.frz { cls:=.type "list",data:=.seq vs.toArray } (.lst (ns.map V.int))) else none) (fun b=>?_) (.inl (.inr ⟨{ cls:=.type "list",data:=.seq vs.toArray },YAP rfl⟩)) (fun b u z=>?_) (fun b z=>?_) fun _=>hk
  .by_cases hb:b=a
   .exact .inr ⟨_,_,YAP hb⟩
   .exact .inl (YAL hb)
  .by_cases hb:b=a
   .have z':=(YAP hb).symm.trans z
    cases z'
    subst hb
    exact⟨ha,by rw[YAB];exact hl,vs,_,rv,ha⟩
   .have z':=(YAL hb).symm.trans z
    cases z'
  .by_cases hb:b=a
   .exact hb
   .exact absurd (YAL hb) z
noncomputable abbrev KOf {K:Q44}{h:Heap}(_:K.In h):Q44:=K
theorem Zn6 {l:PySem.W.OpenLaw}{n k:Nat}{q:Program}{loose:List Str}{XP:(Str->Option Value)->Heap->Prop}{YP:World->Heap->Prop}{d:DefRec}{K:Params->Q44}{CX:World->CXT}{sp:World->Sp}{x:Str}
  (hn:l.most=some n) (hn2:n<=sizeLine) (hdf:d.params.defaults=[]) (hr:Room k callerA)
  (hY:∀(w:World) (h:Heap),YP w h->(K w.params).In h)
  (F:∀(w:World) (mg:Str->Option Value) (fa:Addr) (h:Heap),(K w.params).In h->h.Ns mainGlobals mg->mg d.name=some (.ref fa) ->
   ∃fd:FuncData,(∀(s:Shared) (u:Value),BindsTo s fd ⟨[u],[]⟩ [(x,u)]) /\
    ∀base:Heap,(K w.params).In base->base.Ns mainGlobals mg->FnOk l.prog w (K w.params) mg base (CX w) k fa fd [x] (sp w))
  (hsp:∀(w:World) (H:Hp) (a:Addr) (ns:List Int),ns.length<=n->Only H->SqL (K w.params) H a (ns.map V.int)->sp w [.ref a] H (fun v _=>v=.bl true) fun _ _ _=>False)
  (hCX:∀(w:World) (H:Hp) (s:Shared) (e:Value) (s':Shared),CX w [] H s (fun _ _ _=>False) e s'->False):
  PySem.W.WalkO q loose XP YP l.row.toRowW d [] (fun f vs=>PySem.call f vs):=by
 refine Att.attach_call hn hdf fun w s_0 s_1 mg mb fa o pm cd doc a vs ns G Y ho hd hcd hmg hobj hints hlen hg=>?_
 have KX:=hY w _ Y
 obtain⟨fd,hb,hF⟩:=F w mg fa _ KX G.T.g hmg
 exact ZjY KX G.T.g G.T.b G.T.builtins G.T.nolimit hg hobj hints (YAJ hlen hn2) hr hF hb (fun H hO hS=>hsp w H a ns hlen hO hS) fun H e s'=>hCX w H s_1 e s'
noncomputable def inClass (s:Stmt)(j:Nat):Stmt:=match s with
 | .ClassDef _ _ _ body _ _ _ _ _ _ _=>body.getD j (.Pass ⟨0,0,0,0⟩)
 | _=>.Pass ⟨0,0,0,0⟩
noncomputable def Zb2 (s:Stmt):Arguments:=match s with
 | .FunctionDef _ a _ _ _ _ _ _ _ _=>a
 | _=>{ posonlyargs:=[],args:=[],vararg:=none,kwonlyargs:=[],kw_defaults:=[],kwarg:=none,defaults:=[] }
noncomputable def ZbI (s:Stmt):List Stmt:=match s with
 | .FunctionDef _ _ b _ _ _ _ _ _ _=>b
 | _=>[]
noncomputable def Zaj (s:Stmt):Scope:=match s with
 | .FunctionDef _ _ _ _ _ _ sc _ _ _=>sc
 | _=>{ kind:=.function,names:=[],isGenerator:=false,isCoroutine:=false }
abbrev CX0:CXT:=fun _ _ _ _ _ _=>False
abbrev E0:XK:=fun _ _ _=>False
theorem Zaw {X:Cx}:Zc5 CX0 X E0:=fun _ _ _ _ _ _ _ h=>h.elim
structure Fun (K:Q44)(x qual:Str)(st:Stmt)(f:Addr)(fd:FuncData):Prop where
 ex:∃(oc:Value) (od:Option Addr) (kV doc pm:Value) (an:Option Addr) (cdv ct:Value) (osl:Array (Option Value)),
  fd=PySem.W.fnOf x qual (Zb2 st) (ZbI st) (Zaj st) .none kV doc pm an cdv ct/\K.lookup f=some ⟨oc,od,.func fd,osl⟩/\PySem.W.codeIn K cdv qual=true
 kp:PySem.W.keepIn K (.ref f)=true
section
variable {P:Program}{w:World}{K:Q44}{mg:Str->Option Value}{base:Heap}
theorem Fun.ok {x qual:Str}{st:Stmt}{f:Addr}{fd:FuncData}{N ps:List Str}{k:Nat}{sp:Sp}(F:Fun K x qual st f fd)(S:FnScope N ps (Zaj st))(len:∀vs H Q E,sp vs H Q E->vs.length=ps.length)
  (hbody:∀(cdv:Value) (A:Around) (outer:List Env) (s:Shared) (H:Hp) (vs:List V) (Q:VK) (E:XK),Room k (A.deeper (envOfC qual (Zaj st) s.heap.objs.size f cdv))->sp vs H Q E ->
   ∃t,PSs (cxOf CX0 P w K mg base N qual (Zaj st) f cdv A outer s H E).nox (ZbI st) t/\t { nx:=fun _ H'=>Q .non H',rt:=Q } (start N vs) H):FnOk P w K mg base CX0 (k+1) f fd ps sp:=by
 obtain⟨oc,od,kV,doc,pm,an,cdv,ct,osl,rfl,lk,hcd⟩:=F.ex
 refine ZnN lk hcd S len fun A outer s H vs Q E hr hsp=>?_
 obtain⟨t,h,q⟩:=hbody cdv A outer s H vs Q E hr hsp
 exact⟨t,h.nox,q⟩
theorem Fun.binds {x qual:Str}{st:Stmt}{f:Addr}{fd:FuncData}{ps:List Str}(F:Fun K x qual st f fd)
  (h:∀(kV doc pm:Value) (an:Option Addr) (cdv ct:Value) (us:List Value),us.length=ps.length->bindArgs (PySem.W.fnOf x qual (Zb2 st) (ZbI st) (Zaj st) .none kV doc pm an cdv ct) ⟨us,[]⟩=pure (ps.zip us)):Binds K fd ps []:=by
 obtain⟨oc,od,kV,doc,pm,an,cdv,ct,osl,rfl,lk,hcd⟩:=F.ex
 exact .all (h kV doc pm an cdv ct)
theorem ZkJ {x qual:Str}{st:Stmt}{f:Addr}{oc:Value}{od an:Option Addr}{osl:Array (Option Value)}{kV doc pm cdv ct:Value}(l:K.lookup f=some ⟨oc,od,.func (PySem.W.fnOf x qual (Zb2 st) (ZbI st) (Zaj st) .none kV doc pm an cdv ct),osl⟩)
  (c:PySem.W.codeIn K cdv qual=true) (k:PySem.W.keepIn K (.ref f)=true):Fun K x qual st f (PySem.W.fnOf x qual (Zb2 st) (ZbI st) (Zaj st) .none kV doc pm an cdv ct):=⟨⟨oc,od,kV,doc,pm,an,cdv,ct,osl,rfl,l,c⟩,k⟩
end
theorem ZaH {A:Around}{k:Nat}(hr:Room k A):A.units+1<cLine:=YCn (Nat.add_le_add_left (by decide:1<=64) _) hr.units
theorem Zdm {n:Nat}(h:n<=1000):n<sizeLine:=YCn h (by decide)
section
variable {X:Cx}
theorem pv (i:Nat) {x:Str} {pos:Pos} (hN:X.N[i]?=some x:=by rfl) (hv:Vis X.env.scope x:=by first | exact Or.inl rfl | exact Or.inr (Or.inl rfl) | exact Or.inr (Or.inr rfl)) (hd:(x == ("__debug__":Str))=false:=by decide)
  (hcd:(x == ("__classdict__":Str))=false:=by decide):PE X (.Name x pos) (tVar i):=ZmP hN hv hd hcd
end
theorem iteF {A B:Prop}(h:B):if false=true then A else B:=by
 rw[YAL YAD]
 exact h
theorem iteT {A B:Prop}(h:A):if true=true then A else B:=by
 rw[YAP rfl]
 exact h
theorem ite2 {c A B:Prop}[Decidable c](h1:c->A)(h2:¬c->B):if c then A else B:=by
 by_cases h:c
 .rw[YAP h]
  exact h1 h
 .rw[YAL h]
  exact h2 h
def Same (H H':Hp):Prop:=∀b o,H b=some o->H' b=some o
theorem Same.refl (H:Hp):Same H H:=fun _ _ h=>h
theorem Same.trans {H H1 H2:Hp}(a:Same H H1)(b:Same H1 H2):Same H H2:=fun c o h=>b c o (a c o h)
theorem Same.free {H H':Hp}(e:Same H H'){l:Addr}(h:H' l=Option.none):H l=Option.none:=by
 cases q:H l with
 | none=>rfl
 | some o=>
  rw[e l o q]at h
  cases h
theorem Same.seq {K:Q44}{H H':Hp}{a:Addr}{xs:List V}(e:Same H H')(h:SqL K H a xs):SqL K H' a xs:=by
 rcases h with (h | ⟨o,h⟩) | h
 .exact .inl (.inl (e _ _ h))
 .exact .inl (.inr ⟨o,e _ _ h⟩)
 .exact .inr h
section
variable {κ:Type}[DecidableEq κ]
noncomputable def valV (kvs:List (κ×V))(k:κ):Option V:=(kvs.find? fun kv=>decide (kv.1=k)).map (·.2)
noncomputable def putK (kvs:List (κ×V))(k:κ)(v:V):List (κ×V):=
 if (kvs.any fun kv=>decide (kv.1=k))=true then kvs.map (fun kv=>if kv.1=k then (kv.1,v) else kv) else kvs++[(k,v)]
noncomputable def ZeF (kvs:List (κ×V))(k:κ):List (κ×V):=kvs.filter fun kv=>decide (kv.1≠k)
theorem Za6 {p:κ×V}{r:List (κ×V)}{k:κ}(e:p.1=k):valV (p::r) k=some p.2:=by simp[valV,YCq,e]
theorem Za7 {p:κ×V}{r:List (κ×V)}{k:κ}(e:¬p.1=k):valV (p::r) k=valV r k:=by simp[valV,YCq,e]
theorem ZbO (k:κ):∀kvs:List (κ×V),(kvs.any fun kv=>decide (kv.1=k))=(valV kvs k).isSome
 | []=>rfl
 | p::r=>by
  rw[List.any_cons]
  by_cases e:p.1=k
  .simp only[Za6 e,decide_eq_true e,Bool.true_or,Option.isSome_some]
  .rw[Za7 e,decide_eq_false e,Bool.false_or];exact ZbO k r
theorem Zgo (k j:κ)(y:V):∀kvs:List (κ×V),valV (kvs.map fun kv=>if kv.1=k then (kv.1,y) else kv) j=(valV kvs j).map fun x=>if j=k then y else x
 | []=>rfl
 | p::r=>by
  have ih:=Zgo k j y r
  rw[YAr]
  by_cases h:p.1=k
  .rw[YAP h]
   by_cases e:p.1=j
   .rw[Za6 (p:=(p.1,y)) e,Za6 e,YDP,YAP (e.symm.trans h)]
   .rw[Za7 (p:=(p.1,y)) e,Za7 e,ih]
  .rw[YAL h]
   by_cases e:p.1=j
   .rw[Za6 (p:=p) e,Za6 e,YDP,YAL (fun z=>h (e.trans z))]
   .rw[Za7 (p:=p) e,Za7 e,ih]
theorem ZeP (k j:κ)(y:V):∀kvs:List (κ×V),valV kvs k=none->valV (kvs++[(k,y)]) j=if j=k then some y else valV kvs j
 | [],_=>by
  by_cases e:k=j
  .rw[YAP e.symm];exact Za6 (p:=(k,y)) e
  .rw[YAL (fun z=>e z.symm)];exact Za7 (p:=(k,y)) e
 | p::r,hn=>by
  rw[YDJ]
  have hk:¬p.1=k:=fun z=>by rw[Za6 z]at hn;cases hn
  rw[Za7 hk]at hn
  have ih:=ZeP k j y r hn
  by_cases e:p.1=j
  .rw[Za6 e,Za6 e,YAL (fun z=>hk (e.trans z))]
  .rw[Za7 e,Za7 e,ih]
theorem ZaU (kvs:List (κ×V))(k j:κ)(y:V):valV (putK kvs k y) j=if j=k then some y else valV kvs j:=by
 unfold putK
 by_cases a:(kvs.any fun kv=>decide (kv.1=k))=true
 .rw[YAP a,Zgo]
  rw[ZbO]at a
  by_cases e:j=k
  .obtain⟨x,hx⟩:=Option.isSome_iff_exists.mp a
   rw[YAP e,e,hx,YDP,YAP rfl]
  .rw[YAL e]
   cases valV kvs j with
   | none=>rfl
   | some x=>rw[YDP,YAL e]
 .rw[YAL a]
  refine ZeP k j y kvs ?_
  rw[ZbO]at a
  cases q:valV kvs k with
  | none=>rfl
  | some x=>rw[q]at a;exact(a rfl).elim
theorem ZaK (kvs:List (κ×V))(k:κ)(v:V):(putK kvs k v).length<=kvs.length+1:=by
 unfold putK
 split
 .rw[YAB];omega
 .rw[YAE,YAk,YDQ];omega
theorem Zcs {kvs:List (κ×V)}{k:κ}(v:V)(h:valV kvs k=none):putK kvs k v=kvs++[(k,v)]:=by
 unfold putK
 rw[ZbO,h]
 exact YAL (by decide)
theorem RelO.isSome_eq {o:Option V}{u:Option Value}(r:RelO o u):o.isSome=u.isSome:=by
 cases o with
 | none=>cases u with
  | none=>rfl
  | some _=>exact(show False from r).elim
 | some _=>cases u with
  | none=>exact(show False from r).elim
  | some _=>rfl
theorem RelO.getD {o:Option V}{u:Option Value}{d:V}{d':Value}(r:RelO o u)(rd:RelV d d'):RelV (o.getD d) (u.getD d'):=by
 cases o with
 | none=>cases u with
  | none=>exact rd
  | some _=>exact(show False from r).elim
 | some _=>cases u with
  | none=>exact(show False from r).elim
  | some _=>exact r
theorem KV.val {kvs:List (κ×V)}{vs:List (κ×Value)}(r:KV kvs vs)(k:κ):RelO (valV kvs k) (valueAt vs k):=by
 unfold KV at r
 induction r with
 | nil=>exact True.intro
 | @cons p q ps qs h t ih=>
  obtain⟨h1,h2⟩:=h
  by_cases e:p.1=k
  .have e':q.1=k:=h1.symm.trans e
   have b:valueAt (q::qs) k=some q.2:=by simp[valueAt,YCq,e']
   rw[Za6 e,b];exact h2
  .have e':¬q.1=k:=fun z=>e (h1.trans z)
   have b:valueAt (q::qs) k=valueAt qs k:=by simp[valueAt,YCq,e']
   rw[Za7 e,b];exact ih
theorem KV.any {kvs:List (κ×V)}{vs:List (κ×Value)}(r:KV kvs vs)(k:κ):(kvs.any fun kv=>decide (kv.1=k))=vs.any fun kv=>decide (kv.1=k):=by
 unfold KV at r
 induction r with
 | nil=>rfl
 | cons h t ih=>rw[List.any_cons,List.any_cons,ih,h.1]
theorem KV.repl {kvs:List (κ×V)}{vs:List (κ×Value)}(r:KV kvs vs)(k:κ){y:V}{u:Value}(ry:RelV y u):
  KV (kvs.map fun kv=>if kv.1=k then (kv.1,y) else kv) (vs.map fun kv=>if kv.1=k then (kv.1,u) else kv):=by
 unfold KV at r ⊢
 induction r with
 | nil=>exact .nil
 | @cons p q ps qs h t ih=>
  rw[YAr,YAr]
  refine .cons ?_ ih
  obtain⟨h1,h2⟩:=h
  by_cases e:p.1=k
  .rw[YAP e,YAP (h1.symm.trans e)];exact⟨h1,ry⟩
  .rw[YAL e,YAL (fun z=>e (h1.trans z))];exact⟨h1,h2⟩
theorem KV.put {kvs:List (κ×V)}{vs:List (κ×Value)}(r:KV kvs vs)(k:κ){y:V}{u:Value}(ry:RelV y u):KV (putK kvs k y) (stored vs k u):=by
 unfold putK stored
 rw[r.any k]
 by_cases e:(vs.any fun kv=>decide (kv.1=k))=true
 .rw[YAP e,YAP e];exact r.repl k ry
 .rw[YAL e,YAL e];exact Paired.snoc r ⟨rfl,ry⟩
theorem KV.drop {kvs:List (κ×V)}{vs:List (κ×Value)}(r:KV kvs vs)(k:κ):KV (ZeF kvs k) (without vs k):=by
 unfold KV at r ⊢
 unfold ZeF without
 induction r with
 | nil=>exact .nil
 | @cons p q ps qs h t ih=>
  obtain⟨h1,h2⟩:=h
  rw[YDH,YDH]
  by_cases e:p.1=k
  .have a:¬decide (p.1≠k)=true:=by simp[e]
   have b:¬decide (q.1≠k)=true:=by simp[h1.symm.trans e]
   rw[YAL a,YAL b];exact ih
  .have e':¬q.1=k:=fun z=>e (h1.trans z)
   have a:decide (p.1≠k)=true:=by simp[e]
   have b:decide (q.1≠k)=true:=by simp[e']
   rw[YAP a,YAP b];exact .cons ⟨h1,h2⟩ ih
theorem KV.keys {kvs:List (κ×V)}{vs:List (κ×Value)}(r:KV kvs vs):kvs.map (·.1)=vs.map (·.1):=by
 unfold KV at r
 induction r with
 | nil=>rfl
 | cons h t ih=>rw[YAr,YAr,ih,h.1]
theorem KV.length {kvs:List (κ×V)}{vs:List (κ×Value)}(r:KV kvs vs):kvs.length=vs.length:=Paired.length r
theorem Zg1 (kvs:List (κ×V))(k:κ):(ZeF kvs k).length<=kvs.length:=YAe _ _
end
theorem ZdE {P:Program}{w:World}{k:Key}{u:Value}(r:RelV (kV k) u):(Zaq P w).is k u=true:=by
 cases k with
 | inl i=>obtain⟨t,e⟩:=(show ∃t,u=Value.int i t from r);subst e;exact Zf2 P w i t
 | inr x=>obtain⟨t,e⟩:=(show ∃t,u=Value.str x t from r);subst e;exact Zdy P w x t
theorem Zfj {P:Program}{w:World}:∀ {ks:List Key} {us:List Value},Vals (ks.map kV) us->ItemsAre (Zaq P w) ks us
 | [],_,r=>by rw[YDB]at r;cases r;exact .nil
 | k::ks,_,r=>by
  rw[YAr]at r
  cases r with
  | cons h t=>exact .cons (ZdE h) (Zfj t)
abbrev KT (H:Hp):List (List Key×V)->List (List Key×Addr×Value)->Prop:=Paired fun p q=>p.1=q.1/\H q.2.1=some (.tup (p.1.map kV))/\RelV p.2 q.2.2
theorem KT.val {H:Hp}{kvs:List (List Key×V)}{xs:List (List Key×Addr×Value)}(r:KT H kvs xs)(k:List Key):RelO (valV kvs k) ((atKey xs k).map (·.2)):=by
 induction r with
 | nil=>exact True.intro
 | @cons p q ps qs h t ih=>
  obtain⟨h1,_,h2⟩:=h
  by_cases e:p.1=k
  .have e':q.1=k:=h1.symm.trans e
   have b:atKey (q::qs) k=some q.2:=by simp[atKey,YCq,e']
   rw[Za6 e,b];exact h2
  .have e':¬q.1=k:=fun z=>e (h1.trans z)
   have b:atKey (q::qs) k=atKey qs k:=by simp[atKey,YCq,e']
   rw[Za7 e,b];exact ih
theorem KT.repl {H:Hp}{kvs:List (List Key×V)}{xs:List (List Key×Addr×Value)}(r:KT H kvs xs)(k:List Key){y:V}{u:Value}(ry:RelV y u):
  KT H (kvs.map fun kv=>if kv.1=k then (kv.1,y) else kv) (xs.map (putAt k u)):=by
 induction r with
 | nil=>exact .nil
 | @cons p q ps qs h t ih=>
  rw[YAr,YAr]
  refine .cons ?_ ih
  obtain⟨h1,h2,h3⟩:=h
  unfold putAt
  by_cases e:p.1=k
  .rw[YAP e,YAP (h1.symm.trans e)];exact⟨h1,h2,ry⟩
  .rw[YAL e,YAL (fun z=>e (h1.trans z))];exact⟨h1,h2,h3⟩
theorem KT.put {H:Hp}{kvs:List (List Key×V)}{xs:List (List Key×Addr×Value)}(r:KT H kvs xs)(k:List Key){b:Addr}{y:V}{u:Value}(hb:H b=some (.tup (k.map kV)))(ry:RelV y u):
  KT H (putK kvs k y) (storedH xs k b u):=by
 have e:(kvs.any fun kv=>decide (kv.1=k))=(atKey xs k).isSome:=by
  rw[ZbO,(r.val k).isSome_eq,Option.isSome_map]
 unfold putK storedH
 rw[e]
 by_cases q:(atKey xs k).isSome=true
 .rw[YAP q,YAP q];exact r.repl k ry
 .rw[YAL q,YAL q];exact Paired.snoc r ⟨rfl,hb,ry⟩
theorem KT.keeps {H H':Hp}{kvs:List (List Key×V)}{xs:List (List Key×Addr×Value)}(r:KT H kvs xs)(ht:∀b ys,H b=some (.tup ys)->H' b=some (.tup ys)):KT H' kvs xs:=
 Paired.mapP r fun _ _ z=>⟨z.1,ht _ _ z.2.1,z.2.2⟩
section
variable {P:Program}{w:World}{H:Hp}{h:Heap}{a:Addr}
theorem ZmG {u:HO}(ok:HOk P w H h)(e:Rd H a u):ObjOk P w H h a u:=e.ok ok
theorem Zfr {kvs:List (Key×V)}(ok:HOk P w H h)(e:Rd H a (.dK kvs)):kvs.length<=sizeLine/\(a == sysModules)=false/\∃vs,KV kvs vs/\h.DictOf (Zaq P w) a vs:=
 show ObjOk P w H h a (.dK kvs) from ZmG ok e
theorem ZhE {kvs:List (Key×V)}(ok:HOk P w H h)(e:H a=some (.dK kvs)):kvs.length<=sizeLine/\(a == sysModules)=false/\∃vs,KV kvs vs/\h.DictOf (Zaq P w) a vs:=Zfr ok (.inl e)
theorem Zd3 {ks:List Key}(ok:HOk P w H h)(e:H a=some (.tup (ks.map kV))):(tupleKind (Zaq P w)).is h ks a:=by
 obtain⟨_,its,r,o,h1,h2,n,h3⟩:=(show ObjOk P w H h a (.tup (ks.map kV)) from ok a _ e)
 exact⟨o,its.toArray,n,h1,h2,h3,by simpa using Zfj r⟩
theorem Zga {kvs:List (List Key×V)}(ok:HOk P w H h)(e:Rd H a (.dT kvs)):kvs.length<=sizeLine/\(a == sysModules)=false /\
  ∃xs,KT H kvs xs/\h.DictOfH (tupleKind (Zaq P w)) a xs:=by
 obtain⟨z,y,xs,r,o,es,ep,h1,h2,h3,h4,h5⟩:=(show ObjOk P w H h a (.dT kvs) from ZmG ok e)
 refine⟨z,y,xs,r,o,es,ep,h1,h2,h3,h4,fun x hx=>?_,h5⟩
 have all:∀ {l:List (List Key×V)} {m:List (List Key×Addr×Value)},KT H l m->∀x∈m,(tupleKind (Zaq P w)).is h x.1 x.2.1:=by
  intro l m q
  induction q with
  | nil=>intro x hx;exact nomatch hx
  | @cons p q ps qs hq t ih=>
   intro x hx
   rcases YAU.mp hx with e | hx
   .subst e
    exact Zd3 ok (by rw[<-hq.1];exact hq.2.1)
   .exact ih x hx
 exact all r x hx
theorem Zp6 {kvs:List (List Key×V)}(ok:HOk P w H h)(e:H a=some (.dT kvs)):kvs.length<=sizeLine/\(a == sysModules)=false /\
  ∃xs,KT H kvs xs/\h.DictOfH (tupleKind (Zaq P w)) a xs:=Zga ok (.inl e)
end
def DGet (H:Hp)(a:Addr)(y:V)(r:Option V):Prop:=
 (∃kvs k,Rd H a (.dK kvs)/\y=kV k/\r=valV kvs k)\/∃kvs k b,Rd H a (.dT kvs)/\y=.ref b/\H b=some (.tup (k.map kV))/\r=valV kvs k
def DPut (H:Hp)(a:Addr)(y v:V)(H':Hp):Prop:=
 (∃kvs k,H a=some (.dK kvs)/\y=kV k/\kvs.length<sizeLine/\H'=upd H a (.dK (putK kvs k v))) \/
 ∃kvs k b,H a=some (.dT kvs)/\y=.ref b/\H b=some (.tup (k.map kV))/\kvs.length<sizeLine/\H'=upd H a (.dT (putK kvs k v))
theorem DGet.k {H:Hp}{a:Addr}{kvs:List (Key×V)}{k:Key}(e:H a=some (.dK kvs)):DGet H a (kV k) (valV kvs k):=.inl ⟨kvs,k,.inl e,rfl,rfl⟩
theorem DGet.t {H:Hp}{a b:Addr}{kvs:List (List Key×V)}{k:List Key}(e:H a=some (.dT kvs))(eb:H b=some (.tup (k.map kV))):DGet H a (.ref b) (valV kvs k):=.inr ⟨kvs,k,b,.inl e,rfl,eb,rfl⟩
theorem DPut.k {H:Hp}{a:Addr}{kvs:List (Key×V)}{k:Key}{v:V}(e:H a=some (.dK kvs))(hl:kvs.length<sizeLine):DPut H a (kV k) v (upd H a (.dK (putK kvs k v))):=.inl ⟨kvs,k,e,rfl,hl,rfl⟩
theorem DPut.t {H:Hp}{a b:Addr}{kvs:List (List Key×V)}{k:List Key}{v:V}(e:H a=some (.dT kvs))(eb:H b=some (.tup (k.map kV)))(hl:kvs.length<sizeLine):
  DPut H a (.ref b) v (upd H a (.dT (putK kvs k v))):=.inr ⟨kvs,k,b,e,rfl,eb,hl,rfl⟩
section
variable {X:Cx}{pins:List (Addr×Obj)}{U:St}{H:Hp}{s:Shared}{a:Addr}{y v:V}{u r:Value}{o:Option V}{A:Around}{E:Q33}
theorem Inv.big (I:Inv X pins U H s):sysModules<s.heap.objs.size:=by
 have h:mainGlobals<s.heap.objs.size:=(I.mod.glob.keeps I.bk).lt
 exact Nat.lt_trans (by decide) h
theorem Zfx {Q:Q33}(hu:A.units+1<cLine)(I:Inv X pins U H s)(g:DGet H a y (some v))(ry:RelV y u)(h:∀w' s',Inv X pins U H s'->RelV v w'->Q w' s'):
  wpAny (model X.prog X.w) A (getItem (.ref a) u) Q E s:=by
 rcases g with⟨kvs,k,e,ey,l⟩|⟨kvs,k,b,e,ey,eb,l⟩
 .subst ey
  obtain⟨z,hd,vs,rel,dd⟩:=Zfr I.hok e
  obtain⟨w',hw,rw'⟩:=RelO.some_of (v:=v) (o:=valueAt vs k) (by rw[l];exact rel.val k)
  exact wpAny_getItem_of (ZdE ry) dd.mapOf hw (h w' _ (I.tok _) rw')
 .subst ey
  cases (show u=Value.ref b from ry)
  obtain⟨z,hd,xs,rel,dd⟩:=Zga I.hok e
  obtain⟨w',hw,rw'⟩:=RelO.some_of (v:=v) (o:=(atKey xs k).map (·.2)) (by rw[l];exact rel.val k)
  obtain⟨p,hp,hp2⟩:=Option.map_eq_some_iff.mp hw
  refine wpAny_getItem_heap (tupleKind_room_in1 hu) (Zd3 I.hok eb) dd hp ?_
  rw[hp2]
  exact h w' _ (I.tok _) rw'
theorem d_in {Q:Q33}(hu:A.units+1<cLine)(I:Inv X pins U H s)(g:DGet H a y o)(ry:RelV y u)(h:∀s',Inv X pins U H s'->Q (.bool o.isSome) s'):
  wpAny (model X.prog X.w) A (compareOp .In u (.ref a)) Q E s:=by
 rcases g with⟨kvs,k,e,ey,l⟩|⟨kvs,k,b,e,ey,eb,l⟩
 .subst ey
  obtain⟨z,hd,vs,rel,dd⟩:=Zfr I.hok e
  refine wpAny_in_of (ZdE ry) hd dd.mapOf ?_
  rw[<-(rel.val k).isSome_eq,<-l]
  exact h _ (I.tok _)
 .subst ey
  cases (show u=Value.ref b from ry)
  obtain⟨z,hd,xs,rel,dd⟩:=Zga I.hok e
  refine wpAny_in_heap (tupleKind_room_in1 hu) (Zd3 I.hok eb) hd dd ?_
  have q:=(rel.val k).isSome_eq
  rw[Option.isSome_map]at q
  rw[<-q,<-l]
  exact h _ (I.tok _)
theorem ZlY {Q:Q33}(hu:A.units+1<cLine)(I:Inv X pins U H s)(g:DGet H a y o)(ry:RelV y u)(h:∀s',Inv X pins U H s'->Q (.bool (!o.isSome)) s'):
  wpAny (model X.prog X.w) A (compareOp .NotIn u (.ref a)) Q E s:=by
 rcases g with⟨kvs,k,e,ey,l⟩|⟨kvs,k,b,e,ey,eb,l⟩
 .subst ey
  obtain⟨z,hd,vs,rel,dd⟩:=Zfr I.hok e
  refine wpAny_notIn_of (ZdE ry) hd dd.mapOf ?_
  rw[<-(rel.val k).isSome_eq,<-l]
  exact h _ (I.tok _)
 .subst ey
  cases (show u=Value.ref b from ry)
  obtain⟨z,hd,xs,rel,dd⟩:=Zga I.hok e
  refine wpAny_notIn_heap (tupleKind_room_in1 hu) (Zd3 I.hok eb) hd dd ?_
  have q:=(rel.val k).isSome_eq
  rw[Option.isSome_map]at q
  rw[<-q,<-l]
  exact h _ (I.tok _)
theorem ZcU {h':Heap}{t':Nat}{ob:HO}(I:Inv X pins U H s)(mu:Mut (H a))(hs:Heap.SameBut a s.heap h')(he:∃q,h'.get? a=some q)(new:ObjOk X.prog X.w (upd H a ob) h' a ob):
  Inv X pins U (upd H a ob) { s with heap:=h',toks:=t' }:=
 I.write (x:=a) (e:=a) mu (.inl rfl) (fun b q hb z=>(hs.2 b hb).trans z) he new
theorem Zeb {P:Program}{w:World}{H':Hp}{h':Heap}{kvs:List (Key×V)}{vs:List (Key×Value)}(z:kvs.length<=sizeLine)(hd:(a == sysModules)=false)(rel:KV kvs vs)(dd:h'.DictOf (Zaq P w) a vs):
  ObjOk P w H' h' a (.dK kvs):=⟨z,hd,vs,rel,dd⟩
theorem Zfw {H':Hp}{Q:Unit->Shared->Prop}(hu:A.units+1<cLine)(I:Inv X pins U H s)(g:DPut H a y v H')(ry:RelV y u)(rv:RelV v r)(h:∀s',Inv X pins U H' s'->Q () s'):
  wpAny (model X.prog X.w) A (setItem (.ref a) u r) Q E s:=by
 rcases g with⟨kvs,k,e,ey,l,eH⟩|⟨kvs,k,b,e,ey,eb,l,eH⟩
 .subst ey eH
  obtain⟨z,hd,vs,rel,dd⟩:=ZhE I.hok e
  have hz:vs.length<=sizeLine:=by rw[<-rel.length];exact z
  have hl:(putK kvs k v).length<=sizeLine:=by have:=ZaK kvs k v;omega
  refine wpAny_setItem_pairs (hsz:=hz) (ZdE ry) dd fun h' dd' hs=>h _ ?_
  have he:∃q,h'.get? a=some q:=let ⟨q,_,_,hq,_⟩:=dd';⟨q,hq⟩
  exact ZcU I (by rw[e];exact True.intro) hs he (Zeb hl hd (rel.put k rv) dd')
 .subst ey eH
  cases (show u=Value.ref b from ry)
  obtain⟨z,hd,xs,rel,dd⟩:=Zp6 I.hok e
  have hz:xs.length<=sizeLine:=by rw[<-Paired.length rel];exact z
  have hl:(putK kvs k v).length<=sizeLine:=by have:=ZaK kvs k v;omega
  refine wpAny_setItem_heap (hsz:=hz) (tupleKind_room_in1 hu) (Zd3 I.hok eb) dd fun h' dd' hs=>h _ ?_
  obtain⟨q,es,ep,hq,h2,h3,h4,_,h5⟩:=dd'
  refine ZcU I (by rw[e];exact True.intro) hs ⟨q,hq⟩ ⟨hl,hd,_,(rel.put k eb rv).keeps fun c ys ec=>?_,q,es,ep,hq,h2,h3,h4,h5⟩
  rw[Zac (Zp1 ec e (fun z=>nomatch z))]
  exact ec
end
section
variable {X:Cx}{pins:List (Addr×Obj)}{U:St}{H:Hp}{s:Shared}{a:Addr}{kvs:List (Key×V)}{k:Key}{u:Value}{A:Around}{E:Q33}
theorem ZnW {Q:Unit->Shared->Prop}(I:Inv X pins U H s)(e:H a=some (.dK kvs))(ry:RelV (kV k) u)(l:(valV kvs k).isSome=true)(h:∀s',Inv X pins U (upd H a (.dK (ZeF kvs k))) s'->Q () s'):
  wpAny (model X.prog X.w) A (delItem (.ref a) u) Q E s:=by
 obtain⟨z,hd,vs,rel,dd⟩:=ZhE I.hok e
 refine wpAny_delItem_slot dd.typeIs (by decide) PySem.F.slot_dict_delitem
  (call_meetsIn PySem.F.slot_dict_delitem dd.typeIs PySem.F.entry_dict_delitem (PySem.F.args_dict_delitem_2 _ _) (meets_dict_delitem_pairs (Zaq X.prog X.w) a (ZdE ry)) ⟨vs,dd,by rw[<-rel.length];exact z,by rw[<-(rel.val k).isSome_eq];exact l,fun h' dd' hs=>h _ ?_⟩)
 have he:∃q,h'.get? a=some q:=let ⟨q,_,_,hq,_⟩:=dd';⟨q,hq⟩
 exact ZcU I (by rw[e];exact True.intro) hs he (Zeb (YAJ (Zg1 kvs k) z) hd (rel.drop k) dd')
theorem Zp7 {v:V}{more:List Value}{Q:Q33}(I:Inv X pins U H s)(e:H a=some (.dK kvs))(ry:RelV (kV k) u)(l:valV kvs k=some v)(hm:more=[]\/∃x,more=[x])
  (h:∀w' s',Inv X pins U (upd H a (.dK (ZeF kvs k))) s'->RelV v w'->Q w' s'):wpAny (model X.prog X.w) A (call (.builtin "dict.pop") (.ref a::u::more)) Q E s:=by
 obtain⟨z,hd,vs,rel,dd⟩:=ZhE I.hok e
 obtain⟨w',hw,rw'⟩:=RelO.some_of (v:=v) (o:=valueAt vs k) (by rw[<-l];exact rel.val k)
 have hp:(keyPart u).isSome=true:=by
  cases k with
  | inl i=>obtain⟨t,q⟩:=(show ∃t,u=Value.int i t from ry);subst q;rfl
  | inr x=>obtain⟨t,q⟩:=(show ∃t,u=Value.str x t from ry);subst q;rfl
 have ha:argsOk "dict.pop" ⟨.ref a::u::more,[]⟩:=by
  rcases hm with q | ⟨x,q⟩
  .subst q;exact PySem.F.args_dict_pop_2 _ _
  .subst q;exact PySem.F.args_dict_pop_3 _ _ _
 refine call_meetsIn PySem.F.slot_dict_pop dd.typeIs PySem.F.entry_dict_pop ha (meets_dict_pop_there (Zaq X.prog X.w) a (ZdE ry) more hm hp)
  ⟨vs,w',dd,by rw[<-rel.length];exact z,hw,fun h' dd' hs=>h w' _ ?_ rw'⟩
 have he:∃q,h'.get? a=some q:=let ⟨q,_,_,hq,_⟩:=dd';⟨q,hq⟩
 exact ZcU I (by rw[e];exact True.intro) hs he (Zeb (YAJ (Zg1 kvs k) z) hd (rel.drop k) dd')
theorem Zp8 {Q:Q33}(I:Inv X pins U H s)(e:Rd H a (.dK kvs))(h:∀t s',Inv X pins U H s'->Q (.int kvs.length t) s'):wpAny (model X.prog X.w) A (call (.builtin "len") [.ref a]) Q E s:=by
 obtain⟨z,hd,vs,rel,dd⟩:=Zfr I.hok e
 refine call_len_dict hd dd (by rw[<-rel.length];rw[sizeLine_eq]at z;omega) ?_
 rw[<-rel.length]
 exact h _ _ (I.tok _)
end
def NoSl (i:Expr):Prop:=∀ov iv,subscripted i false ov iv=operate [ov,iv] (getItem ov iv)
theorem Zk7 {prog:Program}{w:World}{A:Around}{E:Q33}{s:Shared}{env:Env}{value slice:Expr}{pos:Pos}{T id:String}{Q:Q33}
  (hl:typeLookup (.type T) "__getitem__"=pure (some (.builtin id))) (hs:NoSl slice)
  (h:wpAny (model prog w) A (eval value env) (fun o s_1=>wpAny (model prog w) A (eval slice env) (fun i s_2=>s_2.TypeIs o T/\wpAny (model prog w) A (getItem o i) Q E s_2) E s_1) E s):
  wpAny (model prog w) A (eval (.Subscript value slice pos) env) Q E s:=by
 refine Subscript_ (YBp h (fun o s_1 h9=>YBp h9 (fun i s_2 h_2=>?_) fun _ _ x=>x) fun _ _ x=>x)
 obtain⟨hT,h_2⟩:=h_2
 unfold subscriptTail
 refine YAA ?_
 rw[getitemInPython_of_ne hT.not_modules]
 refine YAA (YDO hT hl ?_)
 have fin:wpAny (model prog w) A (subscripted slice false o i) (fun r s₃=>wpAny (model prog w) A (letTemporaryGo value o r >>= fun _=>pure r) Q E s₃) E s_2:=by
  rw[hs o i]
  exact wpAny_operating (YBp h_2 (fun r s₃ h₃=>YAA (wpAny_letTemporaryGo (YAF h₃))) fun _ _ x=>x)
 first
  | exact YAF (YAA fin)
  | exact YAA (YAF (YAA fin))
  | exact YAA fin
theorem Zgb {X:Cx}{pins:List (Addr×Obj)}{U:St}{H:Hp}{s:Shared}{a:Addr}{y:V}{o:Option V}(I:Inv X pins U H s)(g:DGet H a y o):s.TypeIs (.ref a) "dict":=by
 rcases g with⟨kvs,k,e,_,_⟩|⟨kvs,k,b,e,_,_,_⟩
 .obtain⟨_,_,vs,_,dd⟩:=Zfr I.hok e
  exact dd.typeIs
 .obtain⟨_,_,xs,_,dd⟩:=Zga I.hok e
  exact dd.typeIs
def Zmr (td ty:TE):TE:=fun U H Q=>td U H fun x H1=>ty U H1 fun y H2=>∃a v,x=.ref a/\DGet H2 a y (some v)/\Q v H2
def tDIn (ty td:TE):TE:=fun U H Q=>ty U H fun y H1=>td U H1 fun x H2=>∃a o,x=.ref a/\DGet H2 a y o/\Q (.bl o.isSome) H2
def ZhX (ty td:TE):TE:=fun U H Q=>ty U H fun y H1=>td U H1 fun x H2=>∃a o,x=.ref a/\DGet H2 a y o/\Q (.bl (!o.isSome)) H2
def ZmD (td ty tv:TE):TS:=fun D U H=>tv U H fun v H1=>td U H1 fun x H2=>ty U H2 fun y H3=>∃a H4,x=.ref a/\DPut H3 a y v H4/\D.nx U H4
def ZmE (td ty tv:TE)(rd:V->V->Hp->VK->Prop):TS:=fun D U H=>td U H fun x H1=>ty U H1 fun y H2=>∃a v,x=.ref a/\DGet H2 a y (some v) /\
 tv U H2 fun y2 H3=>rd v y2 H3 fun z H4=>∃H5,DPut H4 a y z H5/\D.nx U H5
section
variable {X:Cx}{o i e value:Expr}{pos pos' tpos:Pos}{td ty tv:TE}
theorem Zbx (hu:X.A.units+1<cLine)(ho:PE X o td)(hi:PE X i ty)(hs:NoSl i):PE X (.Subscript o i pos) (Zmr td ty):=by
 intro pins s U H Q I h
 refine Zk7 PySem.F.slot_dict_getitem.lookup hs (thn (ho pins s U H _ I h) fun u s1 ⟨x,H1,I1,rx,q1⟩=>thn (hi pins s1 U H1 _ I1 q1) fun iv s2 ⟨y,H2,I2,ry,a,v,ex,g,q2⟩=>?_)
 subst ex
 obtain rfl:u=Value.ref a:=rx
 exact⟨Zgb I2 g,Zfx hu I2 g ry fun w' s3 I3 rw'=>⟨v,H2,I3,rw',q2⟩⟩
theorem ZkA (hu:X.A.units+1<cLine)(hi:PE X i ty)(ho:PE X o td):PC X .In i o (tDIn ty td):=by
 intro pins s U H Q I h
 refine thn (hi pins s U H _ I h) fun iv s1 ⟨y,H1,I1,ry,q1⟩=>thn (ho pins s1 U H1 _ I1 q1) fun u s2 ⟨x,H2,I2,rx,a,ov,ex,g,q2⟩=>?_
 subst ex
 obtain rfl:u=Value.ref a:=rx
 exact d_in hu I2 g ry fun s3 I3=>⟨.bl ov.isSome,H2,I3,rfl,q2⟩
theorem Ze4 (hu:X.A.units+1<cLine)(hi:PE X i ty)(ho:PE X o td):PC X .NotIn i o (ZhX ty td):=by
 intro pins s U H Q I h
 refine thn (hi pins s U H _ I h) fun iv s1 ⟨y,H1,I1,ry,q1⟩=>thn (ho pins s1 U H1 _ I1 q1) fun u s2 ⟨x,H2,I2,rx,a,ov,ex,g,q2⟩=>?_
 subst ex
 obtain rfl:u=Value.ref a:=rx
 exact ZlY hu I2 g ry fun s3 I3=>⟨.bl (!ov.isSome),H2,I3,rfl,q2⟩
theorem ZbP (hu:X.A.units+1<cLine)(ho:PE X o td)(hi:PE X i ty)(hv:PE X value tv)(hs:swapsWith value (some (.Subscript o i pos')) pos.line X.env=pure false):
  PS X (.Assign [.Subscript o i pos'] value pos) (ZmD td ty tv):=by
 intro pins s U H D I h
 refine wpAny_Assign_Subscript (thn (hv pins s U H _ I h) fun r s1 ⟨v,H1,I1,rv,q1⟩=>thn (ho pins s1 U H1 _ I1 q1) fun u s2 ⟨x,H2,I2,rx,q2⟩=>thn (hi pins s2 U H2 _ I2 q2) fun iv s3 ⟨y,H3,I3,ry,a,H4,ex,g,q3⟩=>?_) hs
 subst ex
 obtain rfl:u=Value.ref a:=rx
 exact Zfw hu I3 g ry rv fun s4 I4=>⟨U,H4,I4,q3⟩
theorem Zlt {op:Operator}{rd:V->V->Hp->VK->Prop}(hu:X.A.units+1<cLine)(ho:PE X o td)(hi:PE X i ty)(hv:PE X value tv)(hop:InOp X op rd)
  (ha:∀ov iv new,augStore i ov iv new=(do holding [new,ov,iv] (setItem ov iv new);release [new,ov,iv] [];pure .next)):PS X (.AugAssign (.Subscript o i tpos) op value pos) (ZmE td ty tv rd):=by
 intro pins s U H D I h
 refine wpAny_AugAssign_SubscriptAny (thn (ho pins s U H _ I h) fun u s1 ⟨x,H1,I1,rx,q1⟩=>thn (hi pins s1 U H1 _ I1 q1) fun iv s2 ⟨y,H2,I2,ry,a,v,ex,g,q2⟩=>?_) ha
 subst ex
 obtain rfl:u=Value.ref a:=rx
 refine Zfx hu I2 g ry fun w' s3 I3 rw'=>thn (hv pins s3 U H2 _ I3 q2) fun w2 s4 ⟨y2,H3,I4,ry2,q3⟩=>thn (hop pins s4 U H3 v y2 w' w2 _ I4 rw' ry2 q3) fun w3 s5 ⟨z,H4,I5,rz,H5,g5,q4⟩=>?_
 exact Zfw hu I5 g5 ry rz fun s6 I6=>⟨U,H5,I6,q4⟩
end
theorem Zg2 {P:Program}{w:World}{H:Hp}(h:Heap)(hb:sysModules<h.objs.size):ObjOk P w H (h.push { cls:=.type "dict",data:=.dict #[] }) h.objs.size (.dK []):=
 ⟨YAq _,beq_eq_false_iff_ne.mpr (YAv (YAd hb)),[],.nil,Heap.DictOf.new h⟩
def tDNewK:TE:=fun _ H Q=>∀p,H p=none->Q (.ref p) (upd H p (.dK []))
section
variable {X:Cx}{pos:Pos}
theorem ZbQ:PE X (.Dict [] [] pos) tDNewK:=fun pins s U H Q I h=>
 wpAny_Dict_empty ⟨.ref s.heap.objs.size,_,I.laid (a:=s.heap.objs.size) (o:=.dK []) (t':=s.toks) (fun _ _ q=>YAC _ q) (YAH _) (Zg2 s.heap I.big),rfl,h _ (I.hok.fresh (YAH _))⟩
end
noncomputable def Zgt:List (TE×TE)->St->Hp->(List (V×V)->Hp->Prop)->Prop
 | [],_,H,Q=>Q [] H
 | (tk,tv)::r,U,H,Q=>tk U H fun x H1=>tv U H1 fun y H2=>Zgt r U H2 fun ps H3=>Q ((x,y)::ps) H3
abbrev VV:List (V×V)->List (Value×Value)->Prop:=Paired fun p q=>RelV p.1 q.1/\RelV p.2 q.2
def PPs (X:Cx)(pos:Pos)(keys:List (Option Expr))(values:List Expr)(trs:List (TE×TE)):Prop:=
 ∀(pins:List (Addr×Obj)) (s:Shared) (U:St) (H:Hp) (Q:List (V×V)->Hp->Prop),Inv X pins U H s->Zgt trs U H Q ->
  wpAny (model X.prog X.w) X.A (evalPairs (pairTrees keys values X.env pos)) (fun vs s'=>∃ps H',Inv X pins U H' s'/\VV ps vs/\Q ps H') X.xe s
theorem Zlu {X:Cx}{pos:Pos}:PPs X pos [] [] []:=fun pins s U H Q I h=>pairTrees_nil_walk ⟨[],H,I,.nil,h⟩
theorem ZjD {X:Cx}{pos:Pos}{k v:Expr}{ks:List (Option Expr)}{vs:List Expr}{tk tv:TE}{trs:List (TE×TE)}(hk:PE X k tk)(hv:PE X v tv)(hr:PPs X pos ks vs trs):
  PPs X pos (some k::ks) (v::vs) ((tk,tv)::trs):=fun pins s U H Q I h=>
 pairTrees_cons_walk (thn (hk pins s U H _ I h) fun u s1 ⟨x,H1,I1,rx,q1⟩=>thn (hv pins s1 U H1 _ I1 q1) fun w2 s2 ⟨y,H2,I2,ry,q2⟩=>
  thn (hr pins s2 U H2 _ I2 q2) fun ws s3 ⟨ps,H3,I3,rel,q3⟩=>⟨(x,y)::ps,H3,I3,.cons ⟨rx,ry⟩ rel,q3⟩)
noncomputable def Zbm (kvs more:List (Key×V)):List (Key×V):=more.foldl (fun acc kv=>putK acc kv.1 kv.2) kvs
theorem KV.merge:∀ {more:List (Key×V)} {rs:List (Key×Value)} {kvs:List (Key×V)} {vs:List (Key×Value)},KV more rs->KV kvs vs->KV (Zbm kvs more) (merged vs rs):=by
 intro more rs kvs vs r
 unfold KV at r
 induction r generalizing kvs vs with
 | nil=>intro q;exact q
 | @cons p q ps qs h t ih=>
  intro r0
  have e:KV (putK kvs p.1 p.2) (stored vs q.1 q.2):=by
   have:=r0.put p.1 h.2
   rw[<-h.1];exact this
  exact ih e
theorem Zbt:∀(more kvs:List (Key×V)),(Zbm kvs more).length<=kvs.length+more.length
 | [],kvs=>by show kvs.length<=kvs.length+0;omega
 | p::r,kvs=>by
  have h1:=Zbt r (putK kvs p.1 p.2)
  have h2:=ZaK kvs p.1 p.2
  show (Zbm (putK kvs p.1 p.2) r).length<=_
  rw[YAk];omega
theorem Zee {P:Program}{w:World}:∀ {kvs:List (Key×V)} {ws:List (Value×Value)},VV (kvs.map fun kv=>(kV kv.1,kv.2)) ws->∃rs,Carries (Zaq P w) ws rs/\KV kvs rs
 | [],_,r=>by rw[YDB]at r;cases r;exact⟨[],True.intro,.nil⟩
 | p::kvs,_,r=>by
  rw[YAr]at r
  cases r with
  | @cons a b as bs h t=>
   obtain⟨rs,c,q⟩:=Zee (P:=P) (w:=w) t
   obtain⟨b1,b2⟩:=b
   exact⟨(p.1,b2)::rs,⟨ZdE h.1,rfl,c⟩,.cons ⟨rfl,h.2⟩ q⟩
def Zmn (trs:List (TE×TE)):TE:=fun U H Q=>∀p,H p=none->Zgt trs U (upd H p (.dK [])) fun ps H2=>H2 p=some (.dK [])/\∃kvs:List (Key×V),ps=kvs.map (fun kv=>(kV kv.1,kv.2))/\kvs.length<=15/\Q (.ref p) (upd H2 p (.dK (Zbm [] kvs)))
theorem Zlw {X:Cx}{pos:Pos}{keys:List (Option Expr)}{values:List Expr}{trs:List (TE×TE)}(h:PPs X pos keys values trs)(hall:keys.all (·.isSome)=true)(hl:keys.length=values.length)(h0:keys≠[])
  (h15:keys.length<=15):PE X (.Dict keys values pos) (Zmn trs):=by
 intro pins s U H Q I q
 have hn:=I.hok.fresh (YAH s.heap.objs.size)
 have I1:=I.laid (a:=s.heap.objs.size) (o:=.dK []) (h':=s.heap.push { cls:=.type "dict",data:=.dict #[] }) (t':=s.toks) (fun _ _ q=>YAC _ q) (YAH _) (Zg2 s.heap I.big)
 refine wpAny_Dict_walk (knd:=Zaq X.prog X.w) hall hl h0 h15 (thn (h pins _ U _ _ I1 (q _ hn)) fun ws s2 ⟨ps,H2,I2,rel,e,kvs,ep,lk,q2⟩=>?_)
 subst ep
 obtain⟨rs,c,rk⟩:=Zee (P:=X.prog) (w:=X.w) rel
 obtain⟨z,hd,vs0,r0,dd⟩:=ZhE I2.hok e
 cases r0
 refine⟨rs,c,dd,fun h' dd' hs=>⟨.ref s.heap.objs.size,_,?_,rfl,q2⟩⟩
 have hz:(Zbm [] kvs).length<=sizeLine:=by
  have h1:=Zbt kvs []
  rw[YDQ]at h1
  rw[sizeLine_eq];omega
 have he:∃q,h'.get? s.heap.objs.size=some q:=let ⟨q,_,_,hq,_⟩:=dd';⟨q,hq⟩
 exact ZcU I2 (by rw[e];exact True.intro) hs he (Zeb hz hd (rk.merge .nil) dd')
structure M1 (X:Cx)(o:Expr)(m:Str)(apos:Pos)(e:Expr)(cpos:Pos):Prop where
 base:attributeBase o m X.env (eval o X.env)=eval o X.env
 few:((backTo cpos (starEach [e] X.env)).all (fun x=>!x.1)&&(backToKw cpos (keywordEach [] X.env)).all (fun x=>x.1.isSome)
  && decide (([e]:List Expr).length+([]:List Keyword).length+(if ([]:List Keyword).isEmpty then 0 else 1)<30))=true
 line:(apos.endLine == cpos.line)=true
 trees:backTo cpos (starEach [e] X.env)=[(false,eval e X.env)]
structure M2 (X:Cx)(o:Expr)(m:Str)(apos:Pos)(e f:Expr)(cpos:Pos):Prop where
 base:attributeBase o m X.env (eval o X.env)=eval o X.env
 few:((backTo cpos (starEach [e,f] X.env)).all (fun x=>!x.1)&&(backToKw cpos (keywordEach [] X.env)).all (fun x=>x.1.isSome)
  && decide (([e,f]:List Expr).length+([]:List Keyword).length+(if ([]:List Keyword).isEmpty then 0 else 1)<30))=true
 line:(apos.endLine == cpos.line)=true
 trees:backTo cpos (starEach [e,f] X.env)=[(false,eval e X.env),(false,eval f X.env)]
def IsD (H:Hp)(a:Addr):Prop:=(∃kvs,Rd H a (.dK kvs))\/∃kvs,Rd H a (.dT kvs)
theorem ZiS {X:Cx}{pins:List (Addr×Obj)}{U:St}{H:Hp}{s:Shared}{a:Addr}(I:Inv X pins U H s)(d:IsD H a):
  s.TypeIs (.ref a) "dict"/\(∀b,Value.ref a=.ref b->∃ob,s.heap.get? b=some ob/\ob.dict=none)/\(a == sysModules)=false:=by
 rcases d with⟨kvs,e⟩|⟨kvs,e⟩
 .obtain⟨_,hd,vs,_,dd⟩:=Zfr I.hok e
  refine⟨dd.typeIs,fun b q=>?_,hd⟩
  cases q
  obtain⟨ob,_,_,h1,h2,_⟩:=dd
  exact⟨ob,h1,h2.2.1⟩
 .obtain⟨_,hd,xs,_,dd⟩:=Zga I.hok e
  refine⟨dd.typeIs,fun b q=>?_,hd⟩
  cases q
  obtain⟨ob,_,_,h1,h2,_⟩:=dd
  exact⟨ob,h1,h2.2.1⟩
section
variable {X:Cx}{pins:List (Addr×Obj)}{U:St}{H:Hp}{s:Shared}{a:Addr}{y d:V}{u r:Value}{o:Option V}{A:Around}{E:Q33}
theorem ZnV {Q:Q33}(hu:A.units+1<cLine)(I:Inv X pins U H s)(g:DGet H a y o)(ry:RelV y u)(rd:RelV d r)(h:∀w' s',Inv X pins U H s'->RelV (o.getD d) w'->Q w' s'):
  wpAny (model X.prog X.w) A (call (.builtin "dict.get") [.ref a,u,r]) Q E s:=by
 rcases g with⟨kvs,k,e,ey,l⟩|⟨kvs,k,b,e,ey,eb,l⟩
 .subst ey
  obtain⟨z,hd,vs,rel,dd⟩:=Zfr I.hok e
  refine call_meetsIn PySem.F.slot_dict_get dd.typeIs PySem.F.entry_dict_get (PySem.F.args_dict_get_3 _ _ _) (meets_dict_get_default (Zaq X.prog X.w) a (ZdE ry) hd r) ⟨_,dd.mapOf,h _ _ (I.tok _) ?_⟩
  rw[l]
  exact(rel.val k).getD rd
 .subst ey
  cases (show u=Value.ref b from ry)
  obtain⟨z,hd,xs,rel,dd⟩:=Zga I.hok e
  refine call_meetsIn PySem.F.slot_dict_get dd.typeIs PySem.F.entry_dict_get (PySem.F.args_dict_get_3 _ _ _) (meetsH_dict_get_default (tupleKind (Zaq X.prog X.w)) a b hd r) ⟨tupleKind_room_in1 hu,k,xs,Zd3 I.hok eb,dd,h _ _ (I.tok _) ?_⟩
  rw[l]
  exact(rel.val k).getD rd
end
def Zku (td ty tx:TE):TE:=fun U H Q=>td U H fun x H1=>∃a,x=.ref a/\IsD H1 a/\ty U H1 fun y H2=>tx U H2 fun z H3=>∃o,DGet H3 a y o/\Q (o.getD z) H3
def Zkt (td ty:TE):TE:=fun U H Q=>td U H fun x H1=>∃a,x=.ref a/\IsD H1 a/\ty U H1 fun y H2=>∃kvs k v,H2 a=some (.dK kvs)/\y=kV k/\valV kvs k=some v/\Q v (upd H2 a (.dK (ZeF kvs k)))
section
variable {X:Cx}{o e f:Expr}{apos cpos:Pos}{td ty tx:TE}
theorem ZjI (hu:X.A.units+1<cLine) (ho:PE X o td) (he:PE X e ty) (hf:PE X f tx) (m:M2 X o "get" apos e f cpos):PE X (.Call (.Attribute o "get" apos) [e,f] [] cpos) (Zku td ty tx):=by
 intro pins s U H Q I h
 refine YDZ m.base m.few m.line YCm PySem.F.slot_dict_get PySem.F.type_dict_get (thn (ho pins s U H _ I h) fun u s1 ⟨x,H1,I1,rx,a,ex,d,q1⟩=>?_)
 subst ex
 obtain rfl:u=Value.ref a:=rx
 obtain⟨t1,t2,_⟩:=ZiS I1 d
 refine⟨t1,t2,?_⟩
 rw[m.trees]
 refine YCU rfl (YDK (YBe (thn (he pins s1 U H1 _ I1 q1) fun iv s2 ⟨y,H2,I2,ry,q2⟩=>
  YBe (thn (hf pins s2 U H2 _ I2 q2) fun fv s3 ⟨z,H3,I3,rz,ov,g,q3⟩=>YCR ?_))))
 exact ZnV hu I3 g ry rz fun w' s4 I4 rw'=>⟨_,H3,I4,rw',q3⟩
theorem ZjH (ho:PE X o td) (he:PE X e ty) (m:M1 X o "pop" apos e cpos):PE X (.Call (.Attribute o "pop" apos) [e] [] cpos) (Zkt td ty):=by
 intro pins s U H Q I h
 refine YDZ m.base m.few m.line YCm PySem.F.slot_dict_pop PySem.F.type_dict_pop (thn (ho pins s U H _ I h) fun u s1 ⟨x,H1,I1,rx,a,ex,d,q1⟩=>?_)
 subst ex
 obtain rfl:u=Value.ref a:=rx
 obtain⟨t1,t2,_⟩:=ZiS I1 d
 refine⟨t1,t2,?_⟩
 rw[m.trees]
 refine YCU rfl (YDK (YBe (thn (he pins s1 U H1 _ I1 q1) fun iv s2 ⟨y,H2,I2,ry,kvs,k,v,ea,ey,l,q2⟩=>YCR ?_)))
 subst ey
 exact Zp7 I2 ea ry l (.inl rfl) fun w' s3 I3 rw'=>⟨v,_,I3,rw',q2⟩
end
section
variable {X:Cx}{pins:List (Addr×Obj)}{U:St}{H:Hp}{s:Shared}{a:Addr}{kvs:List (Key×V)}{A:Around}{E:Q33}
end
section
variable {X:Cx}{pins:List (Addr×Obj)}{U:St}{H:Hp}{s:Shared}{a:Addr}{y:V}{u:Value}{A:Around}{E:Q33}
end
section
variable {X:Cx}
theorem Zjh:ZbU X (.builtin "len") (fun xs H Q=>∃a kvs,xs=[V.ref a]/\H a=some (.dK kvs)/\Q (.int kvs.length) H):=by
 intro pins s U H xs us Q I r h
 obtain⟨a,kvs,rfl,ha,q⟩:=h
 obtain⟨u,rfl,ru⟩:=vals1 r
 cases ru
 exact Zp8 I (.inl ha) fun t s' I'=>⟨.int kvs.length,H,I',⟨t,rfl⟩,q⟩
end
section
variable {κ:Type}[DecidableEq κ]
theorem Zgn {kvs:List (κ×V)}{k:κ}(h:valV kvs k=none):¬k∈kvs.map (·.1):=by
 intro m
 obtain⟨p,hp,e⟩:=YAo.mp m
 have q:(kvs.any fun kv=>decide (kv.1=k))=true:=YBa.mpr ⟨p,hp,decide_eq_true e⟩
 rw[ZbO,h]at q
 exact absurd q (by simp)
theorem ZhQ {kvs:List (κ×V)}{k:κ}{v:V}(h:valV kvs k=some v):k∈kvs.map (·.1):=by
 have q:(kvs.any fun kv=>decide (kv.1=k))=true:=by
  rw[ZbO,h]
  all_goals rfl
 obtain⟨p,hp,e⟩:=YBa.mp q
 exact YAo.mpr ⟨p,hp,of_decide_eq_true e⟩
theorem Ziu:∀ {l:List κ} {k:κ},l.Nodup->¬k∈l->(l++[k]).Nodup
 | [],k,_,_=>by simp
 | a::r,k,h,hk=>by
  obtain⟨h1,h2⟩:=YBf.mp h
  show (a::(r++[k])).Nodup
  refine YBf.mpr ⟨fun m=>?_,Ziu h2 fun m=>hk (YAU.mpr (Or.inr m))⟩
  rcases YAZ.mp m with q | q
  .exact h1 q
  .exact hk (YAU.mpr (Or.inl (YAR.mp q).symm))
theorem ZlB {kvs:List (κ×V)}{k:κ}(v:V)(hn:(kvs.map (·.1)).Nodup)(h:valV kvs k=none):((putK kvs k v).map (·.1)).Nodup:=by
 rw[Zcs v h,YBA]
 exact Ziu hn (Zgn h)
end
noncomputable def clOf (cells:List (Str×Addr)):List (Str×NameKind)->List (Str×Addr)->List (Str×Addr)
 | [],acc=>acc
 | (n,k)::r,acc=>if k == NameKind.free then clOf cells r ((n,(cells.lookup n).getD 0)::acc) else clOf cells r acc
theorem ZeK {cells:List (Str×Addr)}:∀(names:List (Str×NameKind)) (acc:List (Str×Addr)) (p:Str×Addr),p∈acc->p∈clOf cells names acc
 | [],_,_,h=>h
 | (n,k)::r,acc,p,h=>by
  unfold clOf
  split
  .exact ZeK r _ p (YAY _ h)
  .exact ZeK r acc p h
theorem ZeL {cells:List (Str×Addr)}{x:Str}:∀(names:List (Str×NameKind)) (acc:List (Str×Addr)),(x,NameKind.free)∈names->(x,(cells.lookup x).getD 0)∈clOf cells names acc
 | [],_,h=>by cases h
 | (n,k)::r,acc,h=>by
  unfold clOf
  rcases YAU.mp h with e | h
  .have e1:x=n:=congrArg Prod.fst e
   have e2:NameKind.free=k:=congrArg Prod.snd e
   subst e1 e2
   exact ZeK r _ _ YAi
  .split
   .exact ZeL r _ h
   .exact ZeL r _ h
theorem Zgg {cells:List (Str×Addr)}:∀(names:List (Str×NameKind)) (acc:List (Str×Addr)) (p:Str×Addr),p∈clOf cells names acc->p∈acc\/((p.1,NameKind.free)∈names/\p.2=(cells.lookup p.1).getD 0)
 | [],_,_,h=>.inl h
 | (n,k)::r,acc,p,h=>by
  unfold clOf at h
  split at h
  .rename_i hk
   have hk':k=NameKind.free:=by simpa using hk
   rcases Zgg r _ p h with q | ⟨q,e⟩
   .rcases YAU.mp q with q | q
    .subst q;subst hk';exact .inr ⟨YAi,rfl⟩
    .exact .inl q
   .exact .inr ⟨YAY _ q,e⟩
  .rcases Zgg r _ p h with q | ⟨q,e⟩
   .exact .inl q
   .exact .inr ⟨YAY _ q,e⟩
theorem Zed {sc:Scope}{env:Env}(h:∀y∈sc.names,y.2=NameKind.free->∃c,env.cells.lookup y.1=some c):closureFor sc env=pure (clOf env.cells sc.names []):=by
 have all:∀(names:List (Str×NameKind)) (acc:List (Str×Addr)),(∀y∈names,y.2=NameKind.free->∃c,env.cells.lookup y.1=some c) ->
   (forIn names acc fun (y:Str×NameKind) (cs:List (Str×Addr))=>(if (y.2 == NameKind.free)=true then (do let a <-cellOf env y.1;pure (ForInStep.yield ((y.1,a)::cs))) else pure (ForInStep.yield cs):Sem (ForInStep (List (Str×Addr)))))=pure (clOf env.cells names acc):=by
  intro names
  induction names with
  | nil=>intro acc _;rfl
  | cons y r ih=>
   intro acc hy
   obtain⟨n,k⟩:=y
   rw[YDR]
   unfold clOf
   by_cases hk:k=NameKind.free
   .subst hk
    obtain⟨c,hc⟩:=hy (n,NameKind.free) YAi rfl
    have hc':env.cells.lookup n=some c:=hc
    simp only[beq_self_eq_true,if_true,cellOf,hc',pure_bind,Option.getD_some]
    exact ih _ fun z hz=>hy z (YAY _ hz)
   .have hb:(k == NameKind.free)=false:=by simpa using hk
    simp only[hb,YCX,if_false,pure_bind]
    exact ih _ fun z hz=>hy z (YAY _ hz)
 have q:=all sc.names [] h
 unfold closureFor
 show (forIn sc.names [] fun (y:Str×NameKind) (cs:List (Str×Addr))=>_) >>= _=_
 first
  | (rw[q];rfl)
  | (refine Eq.trans (congrArg (fun t=>t >>= fun cs=>pure cs) q) ?_;rfl)
structure CmpScope (X:Cx)(sc:Scope):Prop where
 kind:sc.kind=.function
 nocell:∀y∈sc.names,y.2≠NameKind.cell
 loc:∀y∈sc.names,y.2=NameKind.local->sc.names.lookup y.1=some .local
 clos:∀y∈sc.names,y.2=NameKind.free->(X.env.kindOf y.1=some .cell\/X.env.kindOf y.1=some .free)
noncomputable def pick (ix:List (Option Nat))(U:St):St:=ix.map fun o=>o.bind fun i=>(U[i]?).join
noncomputable def ZiV (N M:List Str)(sc:Scope)(ix:List (Option Nat)):Bool:=
 ix.length == N.length&&(N.zip ix).all fun p=>match p.2 with | none=>true | some i=>decide (M[i]?=some p.1)&&decide (sc.names.lookup p.1=some NameKind.free)
noncomputable def bx (X:Cx)(sc:Scope)(N:List Str)(fp:List Addr)(s_0:Shared)(H:Hp)(pn:List (Addr×Obj)):Cx:=
 { X with N:=N,s_0:=s_0,H_0:=H,env:=compEnvC sc (clOf X.env.cells sc.names []) s_0.heap.objs.size X.env,outer:=X.stack,stack:=X.stack,ex:=fp,fn:=fun _=>false,pn:=pn,xe:=fun _ _=>False }
theorem Zdr {sc:Scope}{env:Env}{x:Str}{k:NameKind}(h:(relabel sc env).names.lookup x=some k):(x,k)∈sc.names\/(k=.cell/\(x,NameKind.free)∈sc.names):=by
 have m:=YBq h
 unfold relabel at m
 obtain⟨⟨n,k'⟩,hm,e⟩:=YAo.mp m
 dsimp only at e
 split at e
 .rename_i hc
  have e1:n=x:=congrArg Prod.fst e
  have e2:NameKind.cell=k:=congrArg Prod.snd e
  have e3:k'=NameKind.free:=by
   rw[YAV,YAV]at hc
   simpa using hc.1.1
  subst e1 e2 e3
  exact .inr ⟨rfl,hm⟩
 .have e1:n=x:=congrArg Prod.fst e
  have e2:k'=k:=congrArg Prod.snd e
  subst e1 e2
  exact .inl hm
theorem ZcZ {env:Env}{x:Str}:∀ {names:List (Str×NameKind)},names.lookup x=some NameKind.free ->
  (names.map fun (n,k)=>if (k == NameKind.free&&env.scope.kind == .function&&env.kindOf n == some .cell) then (n,NameKind.cell) else (n,k)).lookup x=some .cell \/
  (names.map fun (n,k)=>if (k == NameKind.free&&env.scope.kind == .function&&env.kindOf n == some .cell) then (n,NameKind.cell) else (n,k)).lookup x=some .free
 | [],h=>by simp at h
 | (n,k)::r,h=>by
  by_cases hx:x=n
  .subst hx
   simp only[YBv,beq_self_eq_true]at h
   cases h
   simp only[YAr]
   split
   .left;simp[YBv]
   .right;simp[YBv]
  .have hb:(x == n)=false:=by simpa using hx
   simp only[YBv,hb]at h
   have ih:=ZcZ (env:=env) h
   simp only[YAr]
   split
   .simpa only[YBv,hb] using ih
   .simpa only[YBv,hb] using ih
theorem Zcx {α:Type}{x:Str}{c:α}:∀ {l:List (Str×α)},(x,c)∈l->∃c',l.lookup x=some c'
 | [],h=>by cases h
 | (n,d)::r,h=>by
  by_cases hx:x=n
  .subst hx;exact⟨d,by simp[YBv]⟩
  .have hb:(x == n)=false:=by simpa using hx
   rcases YAU.mp h with e | h
   .exact absurd (congrArg Prod.fst e) hx
   .obtain⟨c',e⟩:=Zcx h
    exact⟨c',by simpa only[YBv,hb] using e⟩
section
variable {X:Cx}{pins:List (Addr×Obj)}{U:St}{H:Hp}{s:Shared}{sc:Scope}{N:List Str}{fp:List Addr}{ix:List (Option Nat)}
theorem Inv.capt (I:Inv X pins U H s)(S:CmpScope X sc):∀y∈sc.names,y.2=NameKind.free->∃c,X.env.cells.lookup y.1=some c:=fun y hy e=>I.ok.has y.1 (S.clos y hy e)
theorem Inv.clcell (I:Inv X pins U H s)(S:CmpScope X sc){x:Str}{c:Addr}(h:(clOf X.env.cells sc.names []).lookup x=some c):X.env.cells.lookup x=some c:=by
 rcases Zgg _ _ _ (YBq h) with q | ⟨q,e⟩
 .cases q
 .obtain⟨c',hc⟩:=I.capt S _ q rfl
  have hc':X.env.cells.lookup x=some c':=hc
  have e':c=(X.env.cells.lookup x).getD 0:=e
  rw[hc',Option.getD_some]at e'
  rw[e'];exact hc'
theorem Inv.clhas (I:Inv X pins U H s)(S:CmpScope X sc){x:Str}(h:(x,NameKind.free)∈sc.names):∃c,(clOf X.env.cells sc.names []).lookup x=some c/\X.env.cells.lookup x=some c:=by
 obtain⟨c,e⟩:=Zcx (ZeL (cells:=X.env.cells) sc.names [] h)
 exact⟨c,e,I.clcell S e⟩
theorem Inv.block {h1:Heap}{tk:Nat}{m:Str->Option Value}(I:Inv X pins U H s)(S:CmpScope X sc)(hix:ZiV N X.N sc ix=true)(hf:∀b∈fp,FpOk X pins H b/\b<s.heap.objs.size)
  (hk:∀b o,s.heap.get? b=some o->h1.get? b=some o) (hn:h1.Ns s.heap.objs.size m):
  Inv (bx X sc N fp s H (X.pn++pins)) [] (pick ix U) H { s with heap:=h1,toks:=tk }:=by
 have hC:∀b o,s.heap.get? b=some o->b≠s.heap.objs.size:=fun b o e=>YAd (YAN e)
 have hcell:∀x c,(clOf X.env.cells sc.names []).lookup x=some c->∃v,s.heap.IsCell c v:=fun x c e=>I.cell x c (I.clcell S e)
 have stk:∀b,b≠X.env.locals->b∉X.fs->b∉frs X.stack:=fun b h1 h2 hb=>by
  rcases YAU.mp (I.stkSub b hb) with z | z
  .exact h1 z
  .exact h2 z
 rw[ZiV,YAV]at hix
 refine⟨⟨I.ok.mod,S.kind,I.ok.glob,I.ok.blt,YAH _,?_,?_,?_,I.ok.hd,I.ok.frames,.inl rfl,?_,I.bs,YAJ I.ok.bsz I.sz,?_,?_,I.stack,I.stkFree⟩,
  rfl,I.bare,Un.kept hk,⟨m,hn,?_⟩,?_,I.fresh,?_,?_,I.hok.kept hk,?_⟩
 .intro x y c e1 e2
  exact I.ok.inj x y c (I.clcell S e1) (I.clcell S e2)
 .intro x hx
  have hx:(relabel sc X.env).names.lookup x=some .cell\/(relabel sc X.env).names.lookup x=some .free:=hx
  have hm:(x,NameKind.free)∈sc.names:=by
   rcases hx with hx | hx
   .rcases Zdr hx with q | ⟨_,q⟩
    .exact absurd rfl (S.nocell _ q)
    .exact q
   .rcases Zdr hx with q | ⟨q,_⟩
    .exact q
    .cases q
  obtain⟨c,e,_⟩:=I.clhas S hm
  exact⟨c,e⟩
 .intro x c z
  cases z
 .intro b hb
  obtain⟨f,hlt⟩:=hf b hb
  refine⟨YAd hlt,fun x c e=>f.2.2.2.2.1 x c (I.clcell S e)⟩
 .intro b o e hb
  obtain⟨⟨_,_,_,f3,_⟩,_⟩:=hf b hb
  rcases f3 with z | z
  .exact I.ok.noex b o e z
  .exact absurd (YAN e) (YCu.mpr (YAJ I.ok.bsz z))
 .intro b hb
  obtain⟨⟨_,f1,f2,_⟩,_⟩:=hf b hb
  exact stk b f1 f2
 .intro i x v e1 e2 e3
  have e1:N[i]?=some x:=e1
  have hi:∃j,ix[i]?=some (some j)/\U[j]?=some (some v):=by
   unfold pick at e2
   rw[YAW]at e2
   cases q:ix[i]? with
   | none=>rw[q]at e2;cases e2
   | some o=>
    rw[q]at e2
    cases o with
    | none=>cases e2
    | some j=>
     refine⟨j,rfl,?_⟩
     have e4:(U[j]?).join=some v:=Option.some.inj e2
     cases q2:U[j]? with
     | none=>rw[q2]at e4;cases e4
     | some w=>rw[q2]at e4;cases w with
      | none=>cases e4
      | some w=>rw[<-e4];rfl
  obtain⟨j,hj,hU⟩:=hi
  have hz:(x,some j)∈N.zip ix:=by
   have q:(N.zip ix)[i]?=some (x,some j):=by rw[List.getElem?_zip_eq_some];exact⟨e1,hj⟩
   exact YAT q
  have hp:=YBQ.mp hix.2 _ hz
  dsimp only at hp
  rw[YAV]at hp
  have hM:X.N[j]?=some x:=of_decide_eq_true hp.1
  have hfr:sc.names.lookup x=some NameKind.free:=of_decide_eq_true hp.2
  have hmem:=YBq hfr
  obtain⟨mo,hno,hlo⟩:=I.loc
  have hvis:Vis X.env.scope x:=by
   rcases S.clos _ hmem rfl with z | z
   .exact .inr (.inl z)
   .exact .inr (.inr z)
  obtain⟨u,ru,l⟩:=hlo j x v hM hU hvis
  refine⟨u,ru,.inr ⟨?_,?_⟩⟩
  .exact ZcZ (env:=X.env) hfr
  .obtain⟨c,e,e'⟩:=I.clhas S hmem
   refine⟨c,e,?_⟩
   rcases l with⟨k,_⟩|⟨_,c',ec,z⟩
   .rcases S.clos _ hmem rfl with q | q
    .rw[k]at q;cases q
    .rw[k]at q;cases q
   .rw[e']at ec
    cases ec
    obtain⟨o,ho,hd⟩:=z
    exact⟨o,hk _ _ ho,hd⟩
 .intro x c e
  obtain⟨v,o,ho,hd⟩:=hcell x c e
  exact⟨v,o,hk _ _ ho,hd⟩
 .intro x c e
  exact I.freeC x c (I.clcell S e)
 .intro p hp
  have hp:p∈X.pn++pins:=by
   rcases YAZ.mp hp with z | z
   .exact z
   .cases z
  obtain⟨e,n,ne,nf,d⟩:=I.pin p hp
  exact⟨hk _ _ e,n,hC _ _ e,stk p.1 ne nf,d⟩
 .show (pick ix U).length=N.length
  unfold pick
  rw[YAB]
  simpa using hix.1
theorem Inv.unblock {τ:St}{H':Hp}{s':Shared}{h':Heap}(I:Inv X pins U H s)(hf:∀b∈fp,FpOk X pins H b)(J:Inv (bx X sc N fp s H (X.pn++pins)) [] τ H' s')(hs:Heap.SameBut s.heap.objs.size s'.heap h'):
  Inv X pins U H' { s' with heap:=h' }:=by
 have nC:∀b o,s.heap.get? b=some o->b≠s.heap.objs.size:=fun b o e=>YAd (YAN e)
 have hfr:H' s.heap.objs.size=none:=J.free
 have u:Un (frs X.stack) fp H H' s.heap s'.heap:=J.base
 have ok:HOk X.prog X.w H' h':=fun b ob e=>by
  refine(J.hok b ob e).stay (fun c w' hc q=>(hs.2 c ?_).trans q) (fun _ q=>q) fun _ _ q=>q
  rintro rfl
  rcases hc with rfl | hc
  .rw[hfr]at e;cases e
  .rw[hfr]at hc;cases hc
 refine I.call' (ch:=fp) J.os ⟨fun b o e n h1 h2=>(hs.2 b (nC b o e)).trans (u.keep b o e n h1 h2),fun b o e n h1 h2=>?_,u.free,fun b o e h2=>?_,u.tups,u.frzs,u.tbls⟩ ok J.bare fun b hb=>?_
 .obtain⟨sl,q⟩:=u.slot b o e n h1 h2
  exact⟨sl,(hs.2 b (nC b o e)).trans q⟩
 .obtain⟨o',q⟩:=u.there b o e h2
  exact⟨o',(hs.2 b (nC b o e)).trans q⟩
 .obtain⟨_,f1,_,f3,f4,f5⟩:=hf b hb
  exact⟨f3,f1,f4,f5⟩
end
def PIfs (X:Cx)(ifs:List Expr)(t:TT):Prop:=
 ∀(pins:List (Addr×Obj)) (s:Shared) (U:St) (H:Hp) (Q:Bool->Hp->Prop),Inv X pins U H s->t U H Q ->
  wpAny (model X.prog X.w) X.A (forIn ifs true fun c r=>if r=true then do let ok <-isTrue c X.env (eval c X.env);pure (ForInStep.yield ok) else pure (ForInStep.yield r)) (TP X pins U Q) X.xe s
def tAll:TT:=fun _ H Q=>Q true H
theorem ZaV {X:Cx}:PIfs X [] tAll:=fun _ _ _ H _ I h=>wpAny_tests_nil ⟨H,I,h⟩
theorem Zdc {X:Cx}{c:Expr}{t:TT}(h:PT X c t):PIfs X [c] t:=fun pins s U H Q I q=>wpAny_tests_one (h pins s U H Q I q)
theorem Zfy {prog:Program}{w:World}{A:Around}{R:Result->Shared->Prop}{s:Shared}{el tgt iter:Expr}{ifs:List Expr}{scp:Scope}{pos:Pos}{it acc:Value}{env:Env}(W:Nat->Shared->Prop)
  (turn:∀n s,W n s->wpAny (model prog w) A (pyNext it) (fun r s_1=>match r with
   | none=>R (.ok .next) s_1
   | some v=>wpAny (model prog w) A (letOwnedTupleGo tgt it v) (fun _ s1_'=>wpAny (model prog w) A (assign tgt env v) (fun _ s_2=>
     wpAny (model prog w) A (forIn ifs true fun c r=>if r=true then do let ok <-isTrue c env (eval c env);pure (ForInStep.yield ok) else pure (ForInStep.yield r)) (fun ok s₃=>
      if ok=true then wpAny (model prog w) A (eval el env) (fun x s₄=>
       wpAny (model prog w) A (call (.builtin "list.append") [acc,x]) (fun _ s₅=>∃m,m<n/\W m s₅) (fun _ _=>False) s₄) (fun _ _=>False) s₃
      else ∃m,m<n/\W m s₃) (fun _ _=>False) s_2) (fun _ _=>False) s1_') (fun _ _=>False) s_1) (fun _ _=>False) s)
  (n:Nat) (h:W n s):codeAny (model prog w) A (.compLoop (.ListComp el [⟨tgt,iter,ifs,0⟩] scp pos) 0 it acc env) R s:=by
 refine codeAny_loop rfl W (fun n s hI=>?_) n h
 show wpAny _ A ((compTurn (.ListComp el [⟨tgt,iter,ifs,0⟩] scp pos) 0 it acc env).onRaise (fun x=>do noteFrame x env;theTreesLotGoes x)) _ _ s
 refine wpAny_noted ?_
 rw[compTurn_list]
 refine YAA (wpAny_standAt (YAA (YBp (turn n s hI) (fun r s1 q1=>?_) fun _ _ z=>z.elim)))
 cases r with
 | none=>exact YAF q1
 | some v=>
  refine YAA (YBp q1 (fun _ s1' q1'=>?_) fun _ _ z=>z.elim)
  refine YAA (YBp q1' (fun _ s2 q2=>YAA (YBp q2 (fun ok s3 q3=>?_) fun _ _ z=>z.elim)) fun _ _ z=>z.elim)
  cases ok with
  | false=>exact YAF ⟨rfl,q3⟩
  | true=>exact YAA (YAA (YBp q3 (fun x s4 q4=>YAA (YBp q4 (fun _ s5 q5=>YAF (YAF ⟨rfl,q5⟩)) fun _ _ z=>z.elim)) fun _ _ z=>z.elim))
def Zk5 (ix:List (Option Nat))(wi:TI)(g:TG)(tt:TT)(te:TE):TE:=fun U H Q=>wi U H fun J H1=>∀acc,H1 acc=none->∃W:Nat->Nat->St->Hp->Prop,(∃m,W 0 m (pick ix U) (upd H1 acc (.lst []))) /\
 ∀i m τ H2,W i m τ H2->(J.stop i H2/\Q (.ref acc) H2)\/(J.go i H2/\∃Nx:St->Hp->Prop,(∀τ' H',Nx τ' H'->∃m',m'<m/\W (i+1) m' τ' H') /\
  ∀x H3,J.yld i H2 x H3->g x τ H3 fun τ2 H4=>tt τ2 H4 fun b H5=>if b=true then te τ2 H5 fun y H6=>∃ys,H6 acc=some (.lst ys)/\ys.length<sizeLine/\Nx τ2 (upd H6 acc (.lst (ys++[y]))) else Nx τ2 H5)
section
variable {X:Cx}{sc:Scope}{N:List Str}{ix:List (Option Nat)}{elt tg iter:Expr}{ifs:List Expr}{pos:Pos}{wi:TI}{g:TG}{tt:TT}{te:TE}
theorem Zec {Q:VK}{pins:List (Addr×Obj)}{s:Shared}{U:St}{H:Hp}{it:Addr}{fp:List Addr}{tn:Nat->Heap->Prop}{J:It}{RR:Value->Addr->Result->Shared->Prop}
  (hc:X.calm=true) (S:CmpScope X sc) (hix:ZiV N X.N sc ix=true)
  (hg:∀fp s_0 H_0 pn,PG (bx X sc N fp s_0 H_0 pn) tg g) (ht:∀fp s_0 H_0 pn,PIfs (bx X sc N fp s_0 H_0 pn) ifs tt) (he:∀fp s_0 H_0 pn,PE (bx X sc N fp s_0 H_0 pn) elt te)
  (I:Inv X pins U H s) (T:Turn X.prog X.w X.K tg J fp it tn) (st:tn 0 s.heap) (hf:∀b∈fp,FpOk X pins H b)
  (q:∀acc,H acc=none->∃W:Nat->Nat->St->Hp->Prop,(∃m,W 0 m (pick ix U) (upd H acc (.lst []))) /\
   ∀i m τ H2,W i m τ H2->(J.stop i H2/\Q (.ref acc) H2)\/(J.go i H2/\∃Nx:St->Hp->Prop,(∀τ' H',Nx τ' H'->∃m',m'<m/\W (i+1) m' τ' H') /\
    ∀x H3,J.yld i H2 x H3->g x τ H3 fun τ2 H4=>tt τ2 H4 fun b H5=>if b=true then te τ2 H5 fun y H6=>∃ys,H6 acc=some (.lst ys)/\ys.length<sizeLine/\Nx τ2 (upd H6 acc (.lst (ys++[y]))) else Nx τ2 H5))
  (hR:∀(acc:Addr) (s₃ s':Shared) (τ:St) (H':Hp),Inv X pins U (upd H acc (.lst [])) s₃->(∀b∈fp,FpOk X pins (upd H acc (.lst [])) b)->Inv (bx X sc N fp s₃ (upd H acc (.lst [])) (X.pn++pins)) [] τ H' s'->Q (.ref acc) H' ->
   RR (.ref acc) s₃.heap.objs.size (.ok .next) s'):
  wpAny (model X.prog X.w) X.A (newList []) (fun acc s₃=>wpAny (model X.prog X.w) X.A (newFunctionEnv sc X.env.globals (clOf X.env.cells sc.names []) [] X.env.qual none .none (some X.env)) (fun cenv s₄=>
   codeAny (model X.prog X.w) X.A (.compStart (.ListComp elt [⟨tg,iter,ifs,0⟩] sc pos) 0 (.ref it) acc { cenv with scope:=relabel sc X.env }) (RR acc cenv.locals) s₄) X.xe s₃) X.xe s:=by
 refine YCA ?_
 have hfr:=I.fresh
 have I3:=I.lnew (its:=[]) (ys:=[]) (t':=s.toks) .nil (YAq _)
 have fne:∀b∈fp,b<s.heap.objs.size:=fun b hb=>by
  obtain⟨o,e,_⟩:=T.obj 0 _ st b hb
  exact YAN e
 have hf3:∀b∈fp,FpOk X pins (upd H s.heap.objs.size (.lst [])) b:=fun b hb=>by
  obtain⟨f0,f⟩:=hf b hb
  refine⟨?_,f⟩
  rw[Zac (YAd (fne b hb))]
  exact f0
 have q3:=q _ hfr
 have st3:tn 0 (s.heap.push { cls:=.type "list",data:=.seq ([]:List Value).toArray }):=T.keep _ _ _ st fun b _ o e=>YAC _ e
 generalize e3:({ s with heap:=s.heap.push { cls:=.type "list",data:=.seq ([]:List Value).toArray },toks:=s.toks }:Shared)=s3 at I3
 have es3:s3.heap=s.heap.push { cls:=.type "list",data:=.seq ([]:List Value).toArray }:=by rw[<-e3]
 rw[<-es3]at st3
 have hf3':∀b∈fp,FpOk X pins (upd H s.heap.objs.size (.lst [])) b/\b<s3.heap.objs.size:=fun b hb=>⟨hf3 b hb,by rw[es3,YBb];exact YCc (fne b hb)⟩
 refine wpAny_newFunctionEnv S.nocell (by intro y hy;cases hy) (fun h9 hns1 hsb1=>?_) S.kind
 have hk:∀b o,s3.heap.get? b=some o->h9.get? b=some o:=fun b o e=>hsb1.extBut b o (YAd (YAN e)) (YAC _ e)
 have I4:=I3.block (N:=N) (ix:=ix) (tk:=s3.toks+([]:List (Str×Value)).length) S hix hf3' hk hns1
 have st4:tn 0 h9:=T.keep _ _ _ st3 fun b _ o e=>hk b o e
 obtain⟨W,⟨m0,w0⟩,turn⟩:=q3
 have statN:∀ {H':Hp},(∀b∈fp,H' b=none)->∀b∈fp,FpOk (bx X sc N fp s3 (upd H s.heap.objs.size (.lst [])) (X.pn++pins)) [] H' b:=fun {H'} hn b hb=>by
  obtain⟨⟨_,f1,f2,f3,f4,f5⟩,hlt⟩:=hf3' b hb
  refine⟨hn b hb,YAd hlt,fun z=>?_,.inl hb,fun x c e=>f4 x c (I3.clcell S e),fun p hp=>?_⟩
  .rcases YAU.mp (I3.stkSub b z) with z | z
   .exact f1 z
   .exact f2 z
  .refine f5 p ?_
   rcases YAZ.mp hp with z | z
   .exact z
   .cases z
 have loop:∀s4:Shared,s4={ s3 with heap:=h9,toks:=s3.toks+([]:List (Str×Value)).length } ->
   codeAny (model X.prog X.w) X.A (.compLoop (.ListComp elt [⟨tg,iter,ifs,0⟩] sc pos) 0 (.ref it) (.ref s.heap.objs.size) (compEnvC sc (clOf X.env.cells sc.names []) s3.heap.objs.size X.env)) (RR (.ref s.heap.objs.size) s3.heap.objs.size) s4:=by
  rintro s4 rfl
  refine Zfy (fun n s'=>∃i τ H',Inv (bx X sc N fp s3 (upd H s.heap.objs.size (.lst [])) (X.pn++pins)) [] τ H' s'/\tn i s'.heap/\(∀b∈fp,H' b=none)/\W i n τ H') ?_ m0 ⟨0,_,_,I4,st4,fun b hb=>(hf3 b hb).1,w0⟩
  rintro n s5 ⟨i,τ,H5,I5,st5,fr5,w5⟩
  rcases turn i n τ H5 w5 with⟨stop,qn⟩|⟨go,Nx,hN,step⟩
  .refine thn (T.done (bx X sc N fp s3 (upd H s.heap.objs.size (.lst [])) (X.pn++pins)) rfl rfl rfl hc i [] s5 τ H5 (fun _ _=>False) I5 (statN fr5) st5 stop) fun r s6 ⟨hr,I6⟩=>?_
   subst hr
   exact hR _ _ _ _ _ I3 hf3 I6 qn
  .refine thn (T.item (bx X sc N fp s3 (upd H s.heap.objs.size (.lst [])) (X.pn++pins)) rfl rfl rfl hc i [] s5 τ H5 (fun _ _=>False) I5 (statN fr5) st5 go) fun r s6 ⟨u,hr,h6⟩=>?_
   subst hr
   refine thn h6 fun _ s7 ⟨x,H7,I7,r7,y7,st7,fr7⟩=>?_
   have I7':=I7.pinned (statN fr7) (T.obj _ _ st7)
   refine thn (hg _ _ _ _ _ s7 τ H7 x u _ I7' r7 (step x H7 y7)) fun _ s8 ⟨τ8,H8,I8,q8⟩=>?_
   have again:∀ {s9:Shared} {τ9:St} {H9:Hp},Inv (bx X sc N fp s3 (upd H s.heap.objs.size (.lst [])) (X.pn++pins)) ([]++Ze0 fp s7.heap) τ9 H9 s9->Nx τ9 H9 ->
     ∃m,m<n/\∃i τ H',Inv (bx X sc N fp s3 (upd H s.heap.objs.size (.lst [])) (X.pn++pins)) [] τ H' s9/\tn i s9.heap/\(∀b∈fp,H' b=none)/\W i m τ H':=fun {s9 τ9 H9} I9 n9=>by
    obtain⟨m',hm,w9⟩:=hN τ9 H9 n9
    refine⟨m',hm,i+1,τ9,H9,I9.unpinned,T.keep _ _ _ st7 fun b hb o e=>(I9.pin (b,o) (YBL _ (YBL _ (Zb9 hb e)))).1,fun b hb=>?_,w9⟩
    obtain⟨o,e,d⟩:=T.obj _ _ st7 b hb
    exact(I9.pin (b,o) (YBL _ (YBL _ (Zb9 hb e)))).2.1
   refine thn (ht _ _ _ _ _ s8 τ8 H8 _ I8 q8) fun ok s9 ⟨H9,I9,q9⟩=>?_
   cases ok with
   | false=>exact again I9 q9
   | true=>
    rw[YAP rfl]at q9 ⊢
    refine thn (he _ _ _ _ _ s9 τ8 H9 _ I9 q9) fun yv s10 ⟨y,H10,I10,r10,ys,ha,hz,q10⟩=>?_
    refine thn (Zbl _ s10 τ8 H10 (.ref s.heap.objs.size) [y] (.ref s.heap.objs.size) [yv] (fun v H'=>v=.non/\Nx τ8 H') I10 rfl (.cons r10 .nil) ⟨_,ys,y,rfl,rfl,ha,hz,rfl,q10⟩) fun _ s11 ⟨_,H11,I11,_,_,q11⟩=>?_
    exact again I11 q11
 exact codeAny_compStart_list (loop _ rfl) (T.self _ 0 _ _ _ st4 (loop _ rfl))
theorem Zba (hc:X.calm=true)(S:CmpScope X sc)(hix:ZiV N X.N sc ix=true)(hi:PI X tg iter wi)
  (hg:∀fp s_0 H_0 pn,PG (bx X sc N fp s_0 H_0 pn) tg g) (ht:∀fp s_0 H_0 pn,PIfs (bx X sc N fp s_0 H_0 pn) ifs tt) (he:∀fp s_0 H_0 pn,PE (bx X sc N fp s_0 H_0 pn) elt te)
  (hs:∀x,foldedSetIterable iter X.env x=pure x:=by intro _;rfl):PE X (.ListComp elt [⟨tg,iter,ifs,0⟩] sc pos) (Zk5 ix wi g tt te):=by
 intro pins s U H Q I h
 rw[eval_ListComp]
 refine wpAny_comprehension_free (use:=none) rfl hs (Zed (I.capt S)) S.kind S.loc (thn (hi pins s U H _ I h) fun v s1 h1=>thn h1 fun itv s2 h2=>?_)
 obtain⟨it,fp,tn,J,H2,e,I2,T,st2,f2,q⟩:=h2
 subst e
 refine Zec (Q:=Q) (RR:=fun acc C=>compPost (model X.prog X.w) X.A X.xe none (EP X pins U Q) acc C) hc S hix hg ht he I2 T st2 f2 q ?_
 intro acc s3 s' τ H' I3 hf3 J' qq
 obtain⟨m,hn,_⟩:=J'.loc
 exact⟨m,hn,fun h' hs'=>⟨.ref acc,H',I3.unblock hf3 J' hs',rfl,qq⟩⟩
theorem ZfW {i:Nat}{x:Str}{px spos:Pos}(hsw:swapsWith (.ListComp elt [⟨tg,iter,ifs,0⟩] sc pos) (some (.Name x px)) spos.line X.env=pure true)
  (hN:X.N.Nodup) (hi':X.N[i]?=some x) (hx:X.env.scope.names.lookup x=some .local) (hc:X.calm=true) (S:CmpScope X sc) (hix:ZiV N X.N sc ix=true) (hi:PI X tg iter wi)
  (hg:∀fp s_0 H_0 pn,PG (bx X sc N fp s_0 H_0 pn) tg g) (ht:∀fp s_0 H_0 pn,PIfs (bx X sc N fp s_0 H_0 pn) ifs tt) (he:∀fp s_0 H_0 pn,PE (bx X sc N fp s_0 H_0 pn) elt te)
  (hs:∀x,foldedSetIterable iter X.env x=pure x:=by intro _;rfl):PS X (.Assign [.Name x px] (.ListComp elt [⟨tg,iter,ifs,0⟩] sc pos) spos) (tAsg (Zk5 ix wi g tt te) (ZbX i)):=by
 intro pins s U H D I h
 rw[exec_Assign_Name_used _ _ _ _ hsw]
 refine YAA (wpAny_standAt (YAA ?_))
 show wpAny _ X.A (do let _ <-comprehension (.ListComp elt [⟨tg,iter,ifs,0⟩] sc pos) sc X.env _ (newList []) false (eval iter X.env) (some (assign (.Name x px) X.env))) _ _ s
 refine YAA (YBp (wpAny_comprehension_free (use:=some (assign (.Name x px) X.env)) (Q:=fun _ s'=>SP X pins D .next s') rfl hs (Zed (I.capt S)) S.kind S.loc
  (thn (hi pins s U H _ I h) fun v s1 h1=>thn h1 fun itv s2 h2=>?_)) (fun _ s' hq=>YAF (YAF hq)) fun _ _ z=>z)
 obtain⟨it,fp,tn,J,H2,e,I2,T,st2,f2,q⟩:=h2
 subst e
 refine Zec (Q:=fun y H1=>ZbX i y U H1 D.nx) (RR:=fun acc C=>compPost (model X.prog X.w) X.A X.xe (some (assign (.Name x px) X.env)) (fun _ s'=>SP X pins D .next s') acc C) hc S hix hg ht he I2 T st2 f2 q ?_
 intro acc s3 s' τ H' I3 hf3 J' qq
 show wpAny _ X.A (assign (.Name x px) X.env (.ref acc)) _ _ _
 have I5:Inv X pins U H' s':=I3.unblock hf3 J' (.refl ..)
 obtain⟨m,hn,_⟩:=J'.loc
 have hn:s'.heap.Ns s3.heap.objs.size m:=hn
 have hLC:s3.heap.objs.size≠X.env.locals:=Nat.ne_of_gt I3.lt
 refine wpAny_assign_Name (ZeT I5 hN hi' (.inl hx) (v:=.ref acc) rfl (fun s6 I6 ⟨a,sb,ha⟩=>?_) (.inr hx))
 have ea:a≠s3.heap.objs.size:=by
  rcases ha with ha | ha
  .rw[ha];exact YAv hLC
  .obtain⟨v,o,ho,_⟩:=I3.cell x a ha
   exact YAd (YAN ho)
 refine⟨m,hn.sameBut sb (YAv ea),fun h' hs'=>?_⟩
 have hfr:H' s3.heap.objs.size=none:=J'.free
 refine⟨_,H',?_,qq⟩
 have ok:HOk X.prog X.w H' h':=fun b ob e=>by
  refine(I6.hok b ob e).stay (fun c w' hc q=>(hs'.2 c ?_).trans q) (fun _ q=>q) fun _ _ q=>q
  rintro rfl
  rcases hc with rfl | hc
  .rw[hfr]at e;cases e
  .rw[hfr]at hc;cases hc
 have l3:X.s_0.heap.objs.size<=s3.heap.objs.size:=I3.sz
 have cne:∀y c,X.env.cells.lookup y=some c->c≠s3.heap.objs.size:=fun y c e z=>by
  obtain⟨v,o,ho,_⟩:=I3.cell y c e
  exact absurd (YAN ho) (by rw[z];exact YAz _)
 exact I6.turned (t':=s6.toks) (it:=s3.heap.objs.size) (fun b o hb e=>(hs'.2 b hb).trans e) hfr hLC (.inr l3) cne fun p hp z=>by
  have:=(I3.pin p hp).1
  exact absurd (YAN this) (by rw[z];exact YAz _)
end
noncomputable abbrev tx (l:Q11):V:=.str ⟨l.toArray⟩
theorem ZdW {a b:Q11}:tx a=tx b↔a=b:=by
 constructor
 .intro h
  have h1:(⟨a.toArray⟩:Str)=⟨b.toArray⟩:=V.str.inj h
  have h2:a.toArray=b.toArray:=congrArg Str.cps h1
  simpa using h2
 .rintro rfl;rfl
theorem Zcm {a b:Q11}:decide (tx a=tx b)=decide (a=b):=by
 by_cases h:a=b
 .subst h;simp
 .rw[decide_eq_false h,decide_eq_false fun z=>h (ZdW.mp z)]
theorem Zei (l:Q11):(⟨l.toArray⟩:Str).length=l.length:=by
 show l.toArray.size=l.length
 simp
def rT (C:Q11->Q11->Prop)(g:Q11->Q11->V):R2:=fun x y H Q=>∃a b,x=tx a/\y=tx b/\C a b/\Q (g a b) H
noncomputable def cut {α:Type}(l:List α)(lo hi:Option Int):List α:=(l.drop (HT.sIx l.length 0 lo)).take (HT.sIx l.length l.length hi-HT.sIx l.length 0 lo)
theorem ZhH {α:Type}(l:List α)(lo hi:Option Int):(cut l lo hi).length<=l.length:=by
 unfold cut
 rw[YAc,YAj]
 omega
theorem ZnX {α:Type}(l:List α)(a b:Nat):cut l (some (a:Int)) (some (b:Int))=(l.drop a).take (b-a):=by
 unfold cut
 rw[HT.sIx_nat,HT.sIx_nat]
 apply YCC
 intro i
 simp only[YCV,YCW]
 by_cases h1:i<min b l.length-min a l.length
 .rw[YAP h1,YAP (by omega)]
  congr 1;omega
 .rw[YAL h1]
  by_cases h2:i<b-a
  .rw[YAP h2,YBG (by omega)]
  .rw[YAL h2]
theorem Zje {α:Type}(l:List α)(b:Nat):cut l none (some (b:Int))=l.take b:=by
 unfold cut
 rw[HT.sIx_nat,HT.sIx_none]
 apply YCC
 intro i
 simp only[YCV,YCW,Nat.zero_add,Nat.sub_zero]
 by_cases h1:i<min b l.length
 .rw[YAP h1,YAP (by omega)]
 .rw[YAL h1]
  by_cases h2:i<b
  .rw[YAP h2,YBG (by omega)]
  .rw[YAL h2]
theorem ZcH {α:Type}(l:List α)(a:Nat):cut l (some (a:Int)) none=l.drop a:=by
 unfold cut
 rw[HT.sIx_nat,HT.sIx_none]
 apply YCC
 intro i
 simp only[YCV,YCW]
 by_cases h1:i<l.length-min a l.length
 .rw[YAP h1];congr 1;omega
 .rw[YAL h1,YBG (by omega)]
noncomputable def clp (n:Nat)(v:Option Int)(d:Int):Int:=match v with
 | none=>d
 | some i=>max 0 (min (if i<0 then i+(n:Int) else i) (n:Int))
theorem ZkS (n d:Nat)(o:Option Int):clp n o (d:Int)=((HT.sIx n d o:Nat):Int):=by
 cases o with
 | none=>rw[HT.sIx_none];rfl
 | some v=>
  have:=HT.clip_eq v n d
  unfold clp
  dsimp only
  rw[<-this]
  split<;>omega
theorem ZhY (lo hi:Option Int)(n:Nat):Builtin.Str.strSliceIndices lo hi 1 n=(List.range (HT.sIx n n hi-HT.sIx n 0 lo)).map fun k=>HT.sIx n 0 lo+k:=by
 have g:Builtin.Str.strSliceIndices lo hi 1 n=sliceRange (clp n lo ((0:Nat):Int)) (clp n hi (n:Int)) 1:=by
  cases lo<;>cases hi<;>rfl
 rw[g,ZkS,ZkS]
 generalize HT.sIx n 0 lo=a
 generalize HT.sIx n n hi=b
 unfold sliceRange
 have hc:(if (1:Int)>0 then (if (a:Int)<(b:Int) then ((b:Int)-a+1-1)/1 else 0) else (if (a:Int)>(b:Int) then ((a:Int)-b-1-1)/(-1) else 0)).toNat=b-a:=by
  simp only[show (1:Int)>0 by decide,if_true,Int.ediv_one]
  split<;>omega
 dsimp only
 rw[hc]
 apply YCj
 intro k _
 omega
theorem Zjv (l:Q11)(lo hi:Option Int):Txt.slice ⟨l.toArray⟩ lo hi=⟨(cut l lo hi).toArray⟩:=by
 have h1:=HT.sIx_le l.length 0 (YAq _) lo
 have h2:=HT.sIx_le l.length l.length (YAH _) hi
 unfold Txt.slice
 rw[Zei,ZhY]
 have e:((List.range (HT.sIx l.length l.length hi-HT.sIx l.length 0 lo)).map fun k=>HT.sIx l.length 0 lo+k).filterMap (fun i=>l.toArray[i]?)=cut l lo hi:=by
  unfold cut
  generalize HT.sIx l.length 0 lo=a at *
  generalize HT.sIx l.length l.length hi=b at *
  have hab:∀n,a+n<=l.length->((List.range n).map fun k=>a+k).filterMap (fun i=>l.toArray[i]?)=(l.drop a).take n:=by
   intro n
   induction n with
   | zero=>intro _;simp
   | succ n ih=>
    intro hn
    rw[YBX,YBA,List.filterMap_append,ih (by omega),YCP]
    have:(l.drop a)[n]?=l[a+n]?:=YCW
    simp[this,YAG (show a+n<l.length by omega)]
  by_cases hle:a<=b
  .exact hab _ (by omega)
  .have:b-a=0:=by omega
   rw[this];simp
 split
 .rename_i hc
  simp only[beq_self_eq_true,YCd,YAB,YBD]at hc
  have hc':HT.sIx l.length l.length hi-HT.sIx l.length 0 lo=l.length:=by simpa using hc
  have:cut l lo hi=l:=by
   unfold cut
   have ha:HT.sIx l.length 0 lo=0:=by omega
   rw[hc',ha,YBg,YAm (YAH _)]
  rw[this]
 .show (⟨(List.filterMap (fun i=>l.toArray[i]?) _).toArray⟩:Str)=_
  rw[e]
section
variable {X:Cx}
theorem Zbk:OpR X (binaryOp .Add) (rT (fun a b=>a.length+b.length<=sizeLine) fun a b=>tx (a++b)):=by
 rintro pins s U H x y v u Q I rx ry ⟨a,b,rfl,rfl,hz,q⟩
 refine Zhn pins s U H _ _ v u Q I rx ry ⟨_,_,rfl,rfl,by rw[Zei,Zei];exact hz,?_⟩
 have e:((⟨a.toArray⟩:Str)++(⟨b.toArray⟩:Str))=⟨(a++b).toArray⟩:=by
  show (⟨a.toArray++b.toArray⟩:Str)=_
  simp
 rw[e];exact q
theorem Zhk:OpR X (compareOp .In) (fun x y H Q=>∃c l,x=tx [c]/\y=tx l/\Q (.bl (decide (c∈l))) H):=by
 rintro pins s U H x y v u Q I rx ry ⟨c,l,rfl,rfl,q⟩
 refine Ze7 pins s U H _ _ v u Q I rx ry ⟨_,_,rfl,rfl,?_⟩
 have e:=StrLaws.found_one ⟨l.toArray⟩ c
 have e':(!(Builtin.Str.occurrences ⟨l.toArray⟩ ⟨[c].toArray⟩ 0 (⟨l.toArray⟩:Str).length 1).isEmpty)=decide (c∈l):=by
  rw[show ([c].toArray)=#[c] from rfl,e]
 rw[e'];exact q
theorem ZlJ:IxR X (fun x y H Q=>∃l i c,x=tx l/\y=.int i/\l.length<=sizeLine/\atI l i=some c/\Q (tx [c]) H):=by
 rintro value slice pins s U H x y v u Q I rx ry ⟨l,i,c,rfl,rfl,hz,h,q⟩ hs
 exact Zny value slice pins s U H _ _ v u Q I rx ry ⟨_,i,c,rfl,rfl,by rw[Zei];exact hz,h,q⟩ hs
theorem Zco:SlR X (fun x lo hi H Q=>∃l,x=tx l/\l.length<=sizeLine/\Q (tx (cut l lo hi)) H):=by
 rintro pins s U H x v vl vu lo hi sl Q I rx hs pl pu ⟨l,rfl,hz,q⟩
 obtain⟨t,rfl⟩:=rx
 refine⟨"str",_,F.slot_str_getitem.lookup,typeIs_str _ _ _,?_⟩
 have part:∀ {v:Value} {o:Option Int},IsPart v o->∃p:Option (Int×Tok),v=partValue p/\p.map (·.1)=o:=fun {v o} h=>by
  cases h with
  | none=>exact⟨none,rfl,rfl⟩
  | int i t=>exact⟨some (i,t),rfl,rfl⟩
 obtain⟨a,rfl,ea⟩:=part pl
 obtain⟨b,rfl,eb⟩:=part pu
 refine wpAny_getItem_str_slice (l:=a) (u:=b) (st:=none) hs rfl ?_
 have e:(if ((1:Int) == 1&&(Builtin.Str.strSliceIndices lo hi 1 (⟨l.toArray⟩:Str).length).length == (⟨l.toArray⟩:Str).length)=true then (⟨l.toArray⟩:Str) else ⟨((Builtin.Str.strSliceIndices lo hi 1 (⟨l.toArray⟩:Str).length).filterMap ((⟨l.toArray⟩:Str).cps[·]?)).toArray⟩)=⟨(cut l lo hi).toArray⟩:=Zjv l lo hi
 unfold sliceMade slicePicked
 rw[ea,eb]
 refine post_val_or_str ?_
 refine⟨?_,fun t' k=>?_⟩
 .show (if ((1:Int) == 1&&(Builtin.Str.strSliceIndices lo hi 1 (⟨l.toArray⟩:Str).length).length == (⟨l.toArray⟩:Str).length)=true then (⟨l.toArray⟩:Str) else ⟨((Builtin.Str.strSliceIndices lo hi 1 (⟨l.toArray⟩:Str).length).filterMap ((⟨l.toArray⟩:Str).cps[·]?)).toArray⟩).length<=sizeLine
  rw[e,Zei]
  exact YAJ (ZhH _ _ _) hz
 .refine⟨tx (cut l lo hi),H,I.tok _,⟨t',?_⟩,q⟩
  exact congrArg (fun z=>Value.str z t') e
noncomputable def glue (sep:Q11):Q22->Q11
 | []=>[]
 | [x]=>x
 | x::r=>x++sep++glue sep r
theorem ZgU:∀ls:Q22,glue [] ls=ls.flatten
 | []=>rfl
 | [x]=>by simp[glue]
 | x::y::r=>by
  show x++[]++glue [] (y::r)=_
  rw[ZgU (y::r)]
  simp
theorem ZiO (sep:Q11):∀ls:Q22,Str.join ⟨sep.toArray⟩ (ls.map fun l=>(⟨l.toArray⟩:Str))=⟨(glue sep ls).toArray⟩
 | []=>rfl
 | [x]=>rfl
 | x::y::r=>by
  have ih:=ZiO sep (y::r)
  show (⟨x.toArray⟩:Str)++⟨sep.toArray⟩++Str.join ⟨sep.toArray⟩ ((y::r).map fun l=>(⟨l.toArray⟩:Str))=_
  rw[ih]
  show (⟨x.toArray++sep.toArray++(glue sep (y::r)).toArray⟩:Str)=⟨(x++sep++glue sep (y::r)).toArray⟩
  simp
theorem ZcM:∀ {ls:Q22} {us:List Value},Vals (ls.map tx) us->StrsAre us (ls.map fun l=>(⟨l.toArray⟩:Str))
 | [],us,r=>by
  rw[YDB]at r;cases r;exact .nil
 | l::ls,us,r=>by
  rw[YAr]at r
  cases r with
  | cons r1 r2=>
   obtain⟨t,e⟩:=r1
   subst e
   exact .cons _ t (ZcM r2)
theorem ZlC:MtM X "str.join" (fun x vs H Q=>∃sep a ls,x=tx sep/\vs=[.ref a]/\H a=some (.lst (ls.map tx))/\(ls.map List.length).sum+ls.length*sep.length<=16777216/\Q (tx (glue sep ls)) H):=by
 rintro pins s U H x vs v us Q I rx rv ⟨sep,a,ls,rfl,rfl,ha,hz,q⟩
 obtain⟨t,rfl⟩:=rx
 obtain⟨u,rfl,ru⟩:=rv.one
 cases ru
 obtain⟨_,its,n,r,_,e⟩:=I.lstM ha
 refine join_list (PySem.IsL.isList e) (ZcM (by simpa using r)) ?_ fun t' k=>?_
 .have e1:((ls.map fun l=>(⟨l.toArray⟩:Str)).map (·.length)).sum=(ls.map List.length).sum:=by
   rw[YBB]
   congr 1
   all_goals (apply YCj;intro l _;exact Zei l)
  rw[e1,YAB,Zei]
  exact hz
 .refine⟨tx (glue sep ls),H,I.tok _,⟨t',?_⟩,q⟩
  have e2:Txt.join ⟨sep.toArray⟩ (ls.map fun l=>(⟨l.toArray⟩:Str))=⟨(glue sep ls).toArray⟩:=by
   show Builtin.Str.glued _ _=_
   rw[StrLaws.glued_eq_join,ZiO]
  rw[e2]
end
noncomputable def Its (l:Q11):It:=⟨fun i _=>i<l.length,fun i H x H'=>H'=H/\∃c,l[i]?=some c/\x=tx [c],fun i _=>l.length<=i⟩
theorem ZhS {P:Program} {w:World} {K:Q44} {tg:Expr} (l:Q11) (t:Tok) (it:Addr) (ty:String) (hty:ty="str_ascii_iterator"\/ty="str_iterator"):Turn P w K tg (Its l) [it] it (fun i h=>h.IsStrIter it ty ⟨l.toArray⟩ t i) where
 mem:=by simp
 obj:=fun i h st b hb=>by
  have e:b=it:=by simpa using hb
  subst e
  obtain⟨o,e,c,d⟩:=st
  exact⟨o,e,fun v z=>by rw[d]at z;cases z⟩
 keep:=fun i h h' st k=>by
  obtain⟨o,e,r⟩:=st
  exact⟨o,k it (by simp) o e,r⟩
 item:=by
  intro X hP hw hK hc i pins s U H E I hf st hg
  subst hP hw hK
  obtain⟨f0,f1,f2,f3,f4,f5⟩:=hf it (by simp)
  have hg:i<l.length:=hg
  have hx:(⟨l.toArray⟩:Str).cps[i]?=some l[i]:=by
   show l.toArray[i]?=some l[i]
   simp[hg]
  have fin:∀(h':Heap) (tk:Tok),h'.IsStrIter it ty ⟨l.toArray⟩ t (i+1)->Heap.SameBut it s.heap h' ->
    ∃u,some (Value.str ⟨#[l[i]]⟩ s.toks)=some u/\wpAny (model X.prog X.w) X.A (letOwnedTupleGo tg (.ref it) u) (fun _ s2=>∃x H',Inv X pins U H' s2/\RelV x u/\(Its l).yld i H x H'/\s2.heap.IsStrIter it ty ⟨l.toArray⟩ t (i+1)/\∀b∈[it],H' b=none) E { s with heap:=h',toks:=tk }:=fun h' tk st' sb=>by
   have I1:Inv X pins U H { s with heap:=h',toks:=tk }:=I.turned (t':=tk) (fun b o hb e=>(sb.2 b hb).trans e) f0 f1 f3 f4 f5
   obtain⟨o,e,c,d⟩:=id st'
   refine⟨_,rfl,ZiX (s:={ s with heap:=h',toks:=tk }) e c d ?_ ⟨tx [l[i]],H,I1,⟨_,rfl⟩,⟨rfl,l[i],by simp[hg],rfl⟩,st',fun b hb=>(hf b hb).1⟩⟩
   rcases hty with rfl | rfl<;>decide
  rcases hty with rfl | rfl
  .exact wpAny_pyNext_ascii_item st hx fun h' st' sb=>fin h' _ st' sb
  .exact wpAny_pyNext_wide_item st hx fun h' st' sb=>fin h' _ st' sb
 done:=by
  intro X hP hw hK hc i pins s U H E I hf st hg
  subst hP hw hK
  obtain⟨f0,f1,f2,f3,f4,f5⟩:=hf it (by simp)
  have hg:l.length<=i:=hg
  have hx:(⟨l.toArray⟩:Str).cps[i]?=none:=by
   show l.toArray[i]?=none
   simp[hg]
  rcases hty with rfl | rfl
  .exact wpAny_pyNext_ascii_end (I.ok.hd hc) st hx fun h' eb=>⟨rfl,I.turned (t':=s.toks) (fun b o hb e=>eb b o hb e) f0 f1 f3 f4 f5⟩
  .exact wpAny_pyNext_wide_end (I.ok.hd hc) st hx fun h' eb=>⟨rfl,I.turned (t':=s.toks) (fun b o hb e=>eb b o hb e) f0 f1 f3 f4 f5⟩
 self:=by
  intro A i s Q E st h
  rcases hty with rfl | rfl
  .exact wpAny_pyIter_striter_ascii st h
  .exact wpAny_pyIter_striter_wide st h
section
variable {X:Cx}{tg:Expr}
def ZnE (tl:TE):TI:=fun U H R=>tl U H fun x H1=>∃l,x=tx l/\R (Its l) H1
theorem Zem {l:Expr}{tl:TE}(hl:PE X l tl):PI X tg l (ZnE tl):=by
 intro pins s U H R I h
 refine thn (hl pins s U H _ I h) fun v s1 ⟨x,H1,I1,r1,q1⟩=>?_
 obtain⟨l,rfl,q⟩:=q1
 obtain⟨t,rfl⟩:=r1
 have fin:∀ty,(ty="str_ascii_iterator"\/ty="str_iterator")->PIE X pins U tg R (.ref s1.heap.objs.size) { s1 with heap:=s1.heap.push { cls:=.type ty,data:=.fields #[.str ⟨l.toArray⟩ t,.int 0 0] } }:=fun ty hty=>by
  refine⟨s1.heap.objs.size,[s1.heap.objs.size],_,_,H1,rfl,I1.kept (t':=s1.toks) fun b o e=>YAC _ e,ZhS l t _ ty hty,⟨_,YAO _ rfl,rfl,rfl⟩,fun b hb=>?_,q⟩
  have e:b=s1.heap.objs.size:=by simpa using hb
  subst e
  exact I1.fpOk (YAH _) (I1.hok.fresh (YAH _))
 cases ha:(⟨l.toArray⟩:Str).cps.all (· < 128)
 .exact wpAny_pyIter_wide ha (fin _ (.inr rfl))
 .exact wpAny_pyIter_ascii ha (fin _ (.inl rfl))
end
theorem Zj8 {l:Q11}{g:TG}{tb:TS}{D:Ends}{U:St}{H:Hp}(Pv:Nat->St->Hp->Prop)(h0:Pv 0 U H)
  (hs:∀i c U H,l[i]?=some c->Pv i U H->g (tx [c]) U H fun U2 H2=>tb { D with nx:=Pv (i+1),ct:=Pv (i+1),bk:=D.nx } U2 H2) (hd:∀U H,Pv l.length U H->D.nx U H):
  ∃W:Nat->Nat->St->Hp->Prop,(∃m,W 0 m U H)/\∀i m U H,W i m U H ->
   ((Its l).stop i H/\D.nx U H)\/((Its l).go i H/\∃N:St->Hp->Prop,(∀U' H',N U' H'->∃m',m'<m/\W (i+1) m' U' H')/\∀x H',(Its l).yld i H x H'->g x U H' fun U2 H2=>tb { D with nx:=N,ct:=N,bk:=D.nx } U2 H2):=by
 refine⟨fun i m U H=>m=l.length-i/\i<=l.length/\Pv i U H,⟨l.length,by simp,YAq _,h0⟩,?_⟩
 rintro i m U H ⟨rfl,hi,p⟩
 by_cases hlt:i<l.length
 .refine .inr ⟨hlt,Pv (i+1),fun U' H' p'=>⟨l.length-(i+1),by omega,rfl,hlt,p'⟩,fun x H' y=>?_⟩
  obtain⟨e,c,hc,y⟩:=y
  subst e y
  exact hs i c U _ hc p
 .have e:i=l.length:=by omega
  subst e
  exact .inl ⟨YAH _,hd U H p⟩
inductive DT where
 | f (v:V)
 | l (xs:List DT)
 | t (xs:List DT)
section
variable (K:Q44)(H:Hp)
mutual
noncomputable def DatOk:DT->V->Prop
 | .f w,v=>v=w/\ZbA w=true
 | .l ds,v=>∃a vs,v=.ref a/\SqL K H a vs/\DatsOk ds vs
 | .t ds,v=>∃a vs,v=.ref a/\SqT K H a vs/\DatsOk ds vs
noncomputable def DatsOk:List DT->List V->Prop
 | [],vs=>vs=[]
 | d::ds,vs=>∃v r,vs=v::r/\DatOk d v/\DatsOk ds r
end
end
mutual
noncomputable def deq:DT->DT->Bool
 | .f v,.f w=>eqV v w
 | .l xs,.l ys=>deqs xs ys
 | .t xs,.t ys=>deqs xs ys
 | .f _,.l _=>false
 | .f _,.t _=>false
 | .l _,.f _=>false
 | .t _,.f _=>false
 | .l _,.t _=>false
 | .t _,.l _=>false
noncomputable def deqs:List DT->List DT->Bool
 | [],[]=>true
 | x::xs,y::ys=>deq x y&&deqs xs ys
 | [],_::_=>false
 | _::_,[]=>false
end
mutual
noncomputable def dep:DT->Nat
 | .f _=>0
 | .l xs=>deps xs+1
 | .t xs=>deps xs+1
noncomputable def deps:List DT->Nat
 | []=>0
 | x::xs=>max (dep x) (deps xs)
end
theorem Zg0 {v:V}(h:ZbA v=true):eqV v v=true:=by
 cases v<;>first | rfl | (simp[eqV];done) | exact absurd (show false=true from h) YAD
theorem DatsOk.length {K:Q44}{H:Hp}:∀ {ds:List DT} {vs:List V},DatsOk K H ds vs->vs.length=ds.length
 | [],vs,h=>by
  unfold DatsOk at h;subst h;rfl
 | d::ds,vs,h=>by
  unfold DatsOk at h
  obtain⟨v,r,rfl,_,hr⟩:=h
  rw[YAk,YAk,DatsOk.length hr]
noncomputable def ZaO (xs ys:List DT)(j:Nat):Bool:=match xs[j]?,ys[j]? with
 | some x,some y=>deq x y
 | _,_=>false
theorem Zgd:∀xs ys:List DT,deqs xs ys=((List.range (min xs.length ys.length)).all (ZaO xs ys)&&xs.length == ys.length)
 | [],[]=>by simp[deqs]
 | [],_::_=>by simp[deqs]
 | _::_,[]=>by simp[deqs]
 | x::xs,y::ys=>by
  have e:min (x::xs).length (y::ys).length=min xs.length ys.length+1:=by simp only[YAk];omega
  have e2:∀j,ZaO (x::xs) (y::ys) (j+1)=ZaO xs ys j:=fun j=>by simp[ZaO]
  have e3:ZaO (x::xs) (y::ys) 0=deq x y:=by simp[ZaO]
  rw[deqs,Zgd xs ys,e,List.range_succ_eq_map,List.all_cons,e3,List.all_map]
  have e4:((fun j=>ZaO (x::xs) (y::ys) j) ∘ Nat.succ)=ZaO xs ys:=by funext j;exact e2 j
  have e5:(ZaO (x::xs) (y::ys) ∘ Nat.succ)=ZaO xs ys:=e4
  rw[e5,Bool.and_assoc]
  simp
mutual
theorem DatOk.uniq {K:Q44}{X:Cx}{pins:List (Addr×Obj)}{U:St}{H:Hp}{s:Shared}(I:Inv X pins U H s):∀(d e:DT) (v:V),DatOk X.K H d v->DatOk X.K H e v->deq d e=true
 | .f w,.f u,v,h1,h2=>by
  unfold DatOk at h1 h2
  obtain⟨rfl,hf⟩:=h1
  obtain⟨e,_⟩:=h2
  subst e
  unfold deq
  exact Zg0 hf
 | .f w,.l ys,v,h1,h2=>by
  unfold DatOk at h1 h2
  obtain⟨rfl,hf⟩:=h1
  obtain⟨a,vs,rfl,_⟩:=h2
  exact absurd (show false=true from hf) YAD
 | .f w,.t ys,v,h1,h2=>by
  unfold DatOk at h1 h2
  obtain⟨rfl,hf⟩:=h1
  obtain⟨a,vs,rfl,_⟩:=h2
  exact absurd (show false=true from hf) YAD
 | .l xs,.f w,v,h1,h2=>by
  unfold DatOk at h1 h2
  obtain⟨rfl,hf⟩:=h2
  obtain⟨a,vs,rfl,_⟩:=h1
  exact absurd (show false=true from hf) YAD
 | .t xs,.f w,v,h1,h2=>by
  unfold DatOk at h1 h2
  obtain⟨rfl,hf⟩:=h2
  obtain⟨a,vs,rfl,_⟩:=h1
  exact absurd (show false=true from hf) YAD
 | .l xs,.l ys,v,h1,h2=>by
  unfold DatOk at h1 h2
  obtain⟨a,vs,rfl,q1,r1⟩:=h1
  obtain⟨b,ws,e,q2,r2⟩:=h2
  cases e
  have:=I.list_inj q1 q2
  subst this
  unfold deq
  exact DatsOk.uniq (K:=K) I xs ys vs r1 r2
 | .t xs,.t ys,v,h1,h2=>by
  unfold DatOk at h1 h2
  obtain⟨a,vs,rfl,q1,r1⟩:=h1
  obtain⟨b,ws,e,q2,r2⟩:=h2
  cases e
  have:=I.tuple_inj q1 q2
  subst this
  unfold deq
  exact DatsOk.uniq (K:=K) I xs ys vs r1 r2
 | .l xs,.t ys,v,h1,h2=>by
  unfold DatOk at h1 h2
  obtain⟨a,vs,rfl,q1,r1⟩:=h1
  obtain⟨b,ws,e,q2,r2⟩:=h2
  cases e
  obtain⟨_,_,⟨o,n,e1,c1,_⟩,_⟩:=I.list q1
  obtain⟨_,_,⟨o',e2,c2,_⟩,_⟩:=I.tuple q2
  rw[e1]at e2;cases e2
  rw[c1]at c2;exact absurd c2 (by simp)
 | .t xs,.l ys,v,h1,h2=>by
  unfold DatOk at h1 h2
  obtain⟨a,vs,rfl,q1,r1⟩:=h1
  obtain⟨b,ws,e,q2,r2⟩:=h2
  cases e
  obtain⟨_,_,⟨o',e2,c2,_⟩,_⟩:=I.tuple q1
  obtain⟨_,_,⟨o,n,e1,c1,_⟩,_⟩:=I.list q2
  rw[e1]at e2;cases e2
  rw[c1]at c2;exact absurd c2 (by simp)
theorem DatsOk.uniq {K:Q44}{X:Cx}{pins:List (Addr×Obj)}{U:St}{H:Hp}{s:Shared}(I:Inv X pins U H s):∀(xs ys:List DT) (vs:List V),DatsOk X.K H xs vs->DatsOk X.K H ys vs->deqs xs ys=true
 | [],[],vs,h1,h2=>by unfold deqs;rfl
 | [],y::ys,vs,h1,h2=>by
  unfold DatsOk at h1 h2
  subst h1
  obtain⟨_,_,e,_⟩:=h2
  cases e
 | x::xs,[],vs,h1,h2=>by
  unfold DatsOk at h1 h2
  subst h2
  obtain⟨_,_,e,_⟩:=h1
  cases e
 | x::xs,y::ys,vs,h1,h2=>by
  unfold DatsOk at h1 h2
  obtain⟨v,r,rfl,a1,a2⟩:=h1
  obtain⟨v',r',e,b1,b2⟩:=h2
  cases e
  unfold deqs
  rw[DatOk.uniq (K:=K) I x y v a1 b1,DatsOk.uniq (K:=K) I xs ys r a2 b2]
  rfl
end
section
variable {X:Cx}{pins:List (Addr×Obj)}{U:St}{H:Hp}{s:Shared}
open SeqAt
theorem ZeC {A:Around}{w:V}{u:Value}{l:Addr}{items:Array Value}(hf:ZbA w=true)(r:RelV w u)(hl:s.heap.IsList l items)(hu:A.units<cLine):EqAt A s u (.ref l) false/\EqAt A s (.ref l) u false/\RcAt A s u (.ref l) false/\RcAt A s (.ref l) u false/\RcNeAt A s u (.ref l) true/\RcNeAt A s (.ref l) u true:=by
 cases w with
 | non=>cases r;exact⟨.none_list hl hu,.list_none hl hu,.none_list hl hu,.list_none hl hu,.none_list hl hu,.list_none hl hu⟩
 | bl b=>cases r;exact⟨.bool_list b hl hu,.list_bool b hl hu,.bool_list b hl hu,.list_bool b hl hu,.bool_list b hl hu,.list_bool b hl hu⟩
 | int i=>obtain⟨t,rfl⟩:=r;exact⟨.int_list i t hl hu,.list_int i t hl hu,.int_list i t hl hu,.list_int i t hl hu,.int_list i t hl hu,.list_int i t hl hu⟩
 | str i=>obtain⟨t,rfl⟩:=r;exact⟨.str_list i t hl hu,.list_str i t hl hu,.str_list i t hl hu,.list_str i t hl hu,.str_list i t hl hu,.list_str i t hl hu⟩
 | _=>exact absurd (show false=true from hf) YAD
theorem ZeB {A:Around}{w:V}{u:Value}{l:Addr}{items:Array Value}(hf:ZbA w=true)(r:RelV w u)(hl:s.heap.IsTuple l items)(hu:A.units<cLine):EqAt A s u (.ref l) false/\EqAt A s (.ref l) u false/\RcAt A s u (.ref l) false/\RcAt A s (.ref l) u false/\RcNeAt A s u (.ref l) true/\RcNeAt A s (.ref l) u true:=by
 cases w with
 | non=>cases r;exact⟨.none_tuple hl hu,.tuple_none hl hu,.none_tuple hl hu,.tuple_none hl hu,.none_tuple hl hu,.tuple_none hl hu⟩
 | bl b=>cases r;exact⟨.bool_tuple b hl hu,.tuple_bool b hl hu,.bool_tuple b hl hu,.tuple_bool b hl hu,.bool_tuple b hl hu,.tuple_bool b hl hu⟩
 | int i=>obtain⟨t,rfl⟩:=r;exact⟨.int_tuple i t hl hu,.tuple_int i t hl hu,.int_tuple i t hl hu,.tuple_int i t hl hu,.int_tuple i t hl hu,.tuple_int i t hl hu⟩
 | str i=>obtain⟨t,rfl⟩:=r;exact⟨.str_tuple i t hl hu,.tuple_str i t hl hu,.str_tuple i t hl hu,.tuple_str i t hl hu,.str_tuple i t hl hu,.tuple_str i t hl hu⟩
 | _=>exact absurd (show false=true from hf) YAD
theorem ZmJ {A:Around}{l b:Addr}{ps qs:List Value}{xs ys:List DT}(hl:s.heap.IsList l ps.toArray)(hb:s.heap.IsList b qs.toArray)(n1:ps.length=xs.length)(n2:qs.length=ys.length)(hu:A.units<cLine)
  (he:∀j (h1:j<ps.length) (h2:j<qs.length),EqAt A.in1 s ps[j] qs[j] (ZaO xs ys j)):RcAt A s (.ref l) (.ref b) (deqs xs ys)/\RcNeAt A s (.ref l) (.ref b) (!deqs xs ys):=by
 rw[Zgd]
 by_cases hz:ps.length=qs.length
 .have hsz:ps.toArray.size=qs.toArray.size:=by rw[YAM,YAM];exact hz
  have e1:((List.range (min xs.length ys.length)).all (ZaO xs ys)&&xs.length == ys.length)=(List.range ps.toArray.size).all (ZaO xs ys):=by
   have:xs.length=ys.length:=by omega
   rw[YAM,n1,<-this,Nat.min_self]
   simp
  rw[e1]
  exact⟨RcAt.lists hl hb hsz hu fun j j1 j2=>by simpa using he j (by simpa using j1) (by simpa using j2),RcNeAt.lists hl hb hsz hu fun j j1 j2=>by simpa using he j (by simpa using j1) (by simpa using j2)⟩
 .have e1:((List.range (min xs.length ys.length)).all (ZaO xs ys)&&xs.length == ys.length)=false:=by
   have:xs.length≠ys.length:=by omega
   simp[this]
  rw[e1]
  have hsz:(ps.toArray.size != qs.toArray.size)=true:=by rw[YAM,YAM];simpa using hz
  exact⟨RcAt.lists_lengths hl hb hsz hu,RcNeAt.lists_lengths hl hb hsz hu⟩
theorem ZmI {A:Around}{l b:Addr}{ps qs:List Value}{xs ys:List DT}(hl:s.heap.IsTuple l ps.toArray)(hb:s.heap.IsTuple b qs.toArray)(n1:ps.length=xs.length)(n2:qs.length=ys.length)(hu:A.units<cLine)
  (he:∀j (h1:j<ps.length) (h2:j<qs.length),EqAt A.in1 s ps[j] qs[j] (ZaO xs ys j)):RcAt A s (.ref l) (.ref b) (deqs xs ys)/\RcNeAt A s (.ref l) (.ref b) (!deqs xs ys):=by
 have e1:deqs xs ys=((List.range (min ps.toArray.size qs.toArray.size)).all (ZaO xs ys)&&ps.toArray.size == qs.toArray.size):=by
  rw[Zgd,YAM,YAM,n1,n2]
 rw[e1]
 exact⟨RcAt.tuples hl hb hu fun j j1 j2=>by simpa using he j (by simpa using j1) (by simpa using j2),RcNeAt.tuples hl hb hu fun j j1 j2=>by simpa using he j (by simpa using j1) (by simpa using j2)⟩
mutual
theorem ZnT (I:Inv X pins U H s):∀(d e:DT) (A:Around) (x y:V) (u v:Value),DatOk X.K H d x->DatOk X.K H e y->RelV x u->RelV y v->A.units+dep d<cLine->EqAt A s u v (deq d e)
 | .f w,.f w',A,x,y,u,v,h1,h2,ru,rv,hu=>by
  unfold DatOk at h1 h2
  obtain⟨rfl,f1⟩:=h1
  obtain⟨rfl,f2⟩:=h2
  unfold deq
  exact ZkP ru rv f1 f2
 | .f w,.l ys,A,x,y,u,v,h1,h2,ru,rv,hu=>by
  unfold DatOk at h1 h2
  obtain⟨rfl,f1⟩:=h1
  obtain⟨a,vs,rfl,q,_⟩:=h2
  cases rv
  obtain⟨its,_,p,_⟩:=I.list q
  unfold deq
  exact(ZeC f1 ru p.isList (by unfold dep at hu;omega)).1
 | .f w,.t ys,A,x,y,u,v,h1,h2,ru,rv,hu=>by
  unfold DatOk at h1 h2
  obtain⟨rfl,f1⟩:=h1
  obtain⟨a,vs,rfl,q,_⟩:=h2
  cases rv
  obtain⟨its,_,p,_⟩:=I.tuple q
  unfold deq
  exact(ZeB f1 ru (show s.heap.IsTuple a its.toArray from p) (by unfold dep at hu;omega)).1
 | .l xs,.f w,A,x,y,u,v,h1,h2,ru,rv,hu=>by
  unfold DatOk at h1 h2
  obtain⟨rfl,f1⟩:=h2
  obtain⟨a,vs,rfl,q,_⟩:=h1
  cases ru
  obtain⟨its,_,p,_⟩:=I.list q
  unfold deq
  exact(ZeC f1 rv p.isList (by omega)).2.1
 | .t xs,.f w,A,x,y,u,v,h1,h2,ru,rv,hu=>by
  unfold DatOk at h1 h2
  obtain⟨rfl,f1⟩:=h2
  obtain⟨a,vs,rfl,q,_⟩:=h1
  cases ru
  obtain⟨its,_,p,_⟩:=I.tuple q
  unfold deq
  exact(ZeB f1 rv (show s.heap.IsTuple a its.toArray from p) (by omega)).2.1
 | .l xs,.t ys,A,x,y,u,v,h1,h2,ru,rv,hu=>by
  unfold DatOk at h1 h2
  obtain⟨a,vs,rfl,q,_⟩:=h1
  obtain⟨b,ws,rfl,q',_⟩:=h2
  cases ru
  cases rv
  obtain⟨its,_,p,_⟩:=I.list q
  obtain⟨its',_,p',_⟩:=I.tuple q'
  unfold deq
  exact EqAt.list_tuple p.isList (show s.heap.IsTuple b its'.toArray from p') (by omega)
 | .t xs,.l ys,A,x,y,u,v,h1,h2,ru,rv,hu=>by
  unfold DatOk at h1 h2
  obtain⟨a,vs,rfl,q,_⟩:=h1
  obtain⟨b,ws,rfl,q',_⟩:=h2
  cases ru
  cases rv
  obtain⟨its,_,p,_⟩:=I.tuple q
  obtain⟨its',_,p',_⟩:=I.list q'
  unfold deq
  exact EqAt.tuple_list (show s.heap.IsTuple a its.toArray from p) p'.isList (by omega)
 | .l xs,.l ys,A,x,y,u,v,h1,h2,ru,rv,hu=>by
  by_cases hxy:x=y
  .subst hxy
   rw[DatOk.uniq (K:=X.K) I (.l xs) (.l ys) x h1 h2]
   unfold DatOk at h1
   obtain⟨a,vs,rfl,_⟩:=h1
   cases ru
   cases rv
   exact EqAt.same _
  .unfold DatOk at h1 h2
   obtain⟨a,vs,rfl,q,d1⟩:=h1
   obtain⟨b,ws,rfl,q',d2⟩:=h2
   cases ru
   cases rv
   obtain⟨its,r,p,_⟩:=I.list q
   obtain⟨its',r',p',_⟩:=I.list q'
   unfold deq
   unfold dep at hu
   refine EqAt.of_refs (fun e=>hxy (by rw[e])) (ZmJ p.isList p'.isList (by rw[<-r.length,d1.length]) (by rw[<-r'.length,d2.length]) (by omega) fun j j1 j2=>?_).1
   exact ZdI I xs ys A.in1 vs ws its its' d1 d2 r r' (by show A.units+1+_<_;omega) j j1 j2
 | .t xs,.t ys,A,x,y,u,v,h1,h2,ru,rv,hu=>by
  by_cases hxy:x=y
  .subst hxy
   rw[DatOk.uniq (K:=X.K) I (.t xs) (.t ys) x h1 h2]
   unfold DatOk at h1
   obtain⟨a,vs,rfl,_⟩:=h1
   cases ru
   cases rv
   exact EqAt.same _
  .unfold DatOk at h1 h2
   obtain⟨a,vs,rfl,q,d1⟩:=h1
   obtain⟨b,ws,rfl,q',d2⟩:=h2
   cases ru
   cases rv
   obtain⟨its,r,p,_⟩:=I.tuple q
   obtain⟨its',r',p',_⟩:=I.tuple q'
   unfold deq
   unfold dep at hu
   refine EqAt.of_refs (fun e=>hxy (by rw[e])) (ZmI (show s.heap.IsTuple a its.toArray from p) (show s.heap.IsTuple b its'.toArray from p') (by rw[<-r.length,d1.length]) (by rw[<-r'.length,d2.length]) (by omega) fun j j1 j2=>?_).1
   exact ZdI I xs ys A.in1 vs ws its its' d1 d2 r r' (by show A.units+1+_<_;omega) j j1 j2
theorem ZdI (I:Inv X pins U H s):∀(xs ys:List DT) (A:Around) (vs ws:List V) (ps qs:List Value),DatsOk X.K H xs vs->DatsOk X.K H ys ws->Vals vs ps->Vals ws qs->A.units+deps xs<cLine ->
  ∀(j:Nat) (h1:j<ps.length) (h2:j<qs.length),EqAt A s ps[j] qs[j] (ZaO xs ys j)
 | [],ys,A,vs,ws,ps,qs,d1,d2,r1,r2,hu,j,h1,h2=>by
  unfold DatsOk at d1
  subst d1
  cases r1
  exact absurd h1 (Nat.not_lt_zero _)
 | x::xs,[],A,vs,ws,ps,qs,d1,d2,r1,r2,hu,j,h1,h2=>by
  unfold DatsOk at d2
  subst d2
  cases r2
  exact absurd h2 (Nat.not_lt_zero _)
 | x::xs,y::ys,A,vs,ws,ps,qs,d1,d2,r1,r2,hu,j,h1,h2=>by
  unfold DatsOk at d1 d2
  obtain⟨v,vr,rfl,a1,a2⟩:=d1
  obtain⟨w,wr,rfl,b1,b2⟩:=d2
  unfold deps at hu
  cases r1 with
  | cons ru rus=>
   cases r2 with
   | cons rv rvs=>
    cases j with
    | zero=>
     have:=ZnT I x y A v w _ _ a1 b1 ru rv (by omega)
     simpa [ZaO] using this
    | succ j=>
     have:=ZdI I xs ys A vr wr _ _ a2 b2 rus rvs (by omega) j (Nat.lt_of_succ_lt_succ h1) (Nat.lt_of_succ_lt_succ h2)
     simpa [ZaO] using this
end
theorem ZmH (I:Inv X pins U H s){d e:DT}{A:Around}{x y:V}{u v:Value}(h1:DatOk X.K H d x)(h2:DatOk X.K H e y)(ru:RelV x u)(rv:RelV y v)(hu:A.units+dep d<cLine)(hn:¬(ZbA x=true/\ZbA y=true)):
  RcAt A s u v (deq d e)/\RcNeAt A s u v (!deq d e):=by
 cases d with
 | f w=>
  unfold DatOk at h1
  obtain⟨rfl,f1⟩:=h1
  cases e with
  | f w'=>
   unfold DatOk at h2
   obtain⟨rfl,f2⟩:=h2
   exact absurd ⟨f1,f2⟩ hn
  | l ys=>
   unfold DatOk at h2
   obtain⟨a,vs,rfl,q,_⟩:=h2
   cases rv
   obtain⟨its,_,p,_⟩:=I.list q
   have z:=ZeC (A:=A) f1 ru p.isList (by omega)
   unfold deq
   exact⟨z.2.2.1,z.2.2.2.2.1⟩
  | t ys=>
   unfold DatOk at h2
   obtain⟨a,vs,rfl,q,_⟩:=h2
   cases rv
   obtain⟨its,_,p,_⟩:=I.tuple q
   have z:=ZeB (A:=A) f1 ru (show s.heap.IsTuple a its.toArray from p) (by omega)
   unfold deq
   exact⟨z.2.2.1,z.2.2.2.2.1⟩
 | l xs=>
  unfold DatOk at h1
  obtain⟨a,vs,rfl,q,d1⟩:=h1
  cases ru
  obtain⟨its,r,p,_⟩:=I.list q
  cases e with
  | f w=>
   unfold DatOk at h2
   obtain⟨rfl,f1⟩:=h2
   have z:=ZeC (A:=A) f1 rv p.isList (by omega)
   unfold deq
   exact⟨z.2.2.2.1,z.2.2.2.2.2⟩
  | l ys=>
   unfold DatOk at h2
   obtain⟨b,ws,rfl,q',d2⟩:=h2
   cases rv
   obtain⟨its',r',p',_⟩:=I.list q'
   unfold deq
   unfold dep at hu
   exact ZmJ p.isList p'.isList (by rw[<-r.length,d1.length]) (by rw[<-r'.length,d2.length]) (by omega) fun j j1 j2=>ZdI I xs ys A.in1 vs ws its its' d1 d2 r r' (by show A.units+1+_<_;omega) j j1 j2
  | t ys=>
   unfold DatOk at h2
   obtain⟨b,ws,rfl,q',d2⟩:=h2
   cases rv
   obtain⟨its',r',p',_⟩:=I.tuple q'
   unfold deq
   exact⟨RcAt.list_tuple p.isList (show s.heap.IsTuple b its'.toArray from p') (by omega),RcNeAt.list_tuple p.isList (show s.heap.IsTuple b its'.toArray from p') (by omega)⟩
 | t xs=>
  unfold DatOk at h1
  obtain⟨a,vs,rfl,q,d1⟩:=h1
  cases ru
  obtain⟨its,r,p,_⟩:=I.tuple q
  cases e with
  | f w=>
   unfold DatOk at h2
   obtain⟨rfl,f1⟩:=h2
   have z:=ZeB (A:=A) f1 rv (show s.heap.IsTuple a its.toArray from p) (by omega)
   unfold deq
   exact⟨z.2.2.2.1,z.2.2.2.2.2⟩
  | t ys=>
   unfold DatOk at h2
   obtain⟨b,ws,rfl,q',d2⟩:=h2
   cases rv
   obtain⟨its',r',p',_⟩:=I.tuple q'
   unfold deq
   unfold dep at hu
   exact ZmI (show s.heap.IsTuple a its.toArray from p) (show s.heap.IsTuple b its'.toArray from p') (by rw[<-r.length,d1.length]) (by rw[<-r'.length,d2.length]) (by omega) fun j j1 j2=>ZdI I xs ys A.in1 vs ws its its' d1 d2 r r' (by show A.units+1+_<_;omega) j j1 j2
  | l ys=>
   unfold DatOk at h2
   obtain⟨b,ws,rfl,q',d2⟩:=h2
   cases rv
   obtain⟨its',r',p',_⟩:=I.list q'
   unfold deq
   exact⟨RcAt.tuple_list (show s.heap.IsTuple a its.toArray from p) p'.isList (by omega),RcNeAt.tuple_list (show s.heap.IsTuple a its.toArray from p) p'.isList (by omega)⟩
end
def rEqD (K:Q44)(neg:Bool):R2:=fun x y H Q=>(scal x y=true/\Q (.bl (if neg then !decide (x=y) else decide (x=y))) H) \/
 ∃d e,DatOk K H d x/\DatOk K H e y/\¬(ZbA x=true/\ZbA y=true)/\dep d<=60/\Q (.bl (if neg then !deq d e else deq d e)) H
theorem ZmX {X:Cx}(hu:X.A.units+64<cLine):OpR X (compareOp .Eq) (rEqD X.K false):=by
 intro pins s U H x y v u Q I rx ry h
 rcases h with⟨h1,q⟩|⟨d,e,h1,h2,hn,hd,q⟩
 .exact Zpz pins s U H x y v u Q I rx ry ⟨h1,q⟩
 .exact(ZmH I h1 h2 rx ry (by omega) hn).1 _ _ _ _ ⟨.bl _,H,I,rfl,q⟩
theorem ZmU {X:Cx}(hu:X.A.units+64<cLine):OpR X (compareOp .NotEq) (rEqD X.K true):=by
 intro pins s U H x y v u Q I rx ry h
 rcases h with⟨h1,q⟩|⟨d,e,h1,h2,hn,hd,q⟩
 .exact Zpx pins s U H x y v u Q I rx ry ⟨h1,q⟩
 .exact(ZmH I h1 h2 rx ry (by omega) hn).2 _ _ _ _ ⟨.bl _,H,I,rfl,q⟩
theorem ZeH {K:Q44}{H:Hp}:∀ {vs:List V},vs.all ZbA=true->DatsOk K H (vs.map DT.f) vs
 | [],_=>by unfold DatsOk;rfl
 | v::r,h=>by
  rw[List.all_cons,YAV]at h
  rw[YAr]
  unfold DatsOk
  exact⟨v,r,rfl,by unfold DatOk;exact⟨rfl,h.1⟩,ZeH h.2⟩
theorem Zft (vs:List V):deps (vs.map DT.f)=0:=by
 induction vs with
 | nil=>rfl
 | cons v r ih=>rw[YAr];unfold deps;rw[ih];rfl
theorem ZkM (a b:Q11):eqV (tx a) (tx b)=decide (tx a=tx b):=by
 rw[Zcm]
 show ((⟨a.toArray⟩:Str) == ⟨b.toArray⟩)=_
 by_cases h:a=b
 .subst h;simp
 .rw[decide_eq_false h]
  exact beq_eq_false_iff_ne.mpr fun z=>h (ZdW.mp (congrArg V.str z))
theorem datL {K:Q44}{H:Hp}{a:Addr}{vs:List V}(h:SqL K H a vs)(hf:vs.all ZbA=true):DatOk K H (.l (vs.map DT.f)) (.ref a):=by
 unfold DatOk
 exact⟨a,vs,rfl,h,ZeH hf⟩
theorem datT {K:Q44}{H:Hp}{a:Addr}{vs:List V}(h:SqT K H a vs)(hf:vs.all ZbA=true):DatOk K H (.t (vs.map DT.f)) (.ref a):=by
 unfold DatOk
 exact⟨a,vs,rfl,h,ZeH hf⟩
end L2
namespace L2
open PySem PySem.Spec PyProof.Rows
open PySem.W (Frag findIn specialIn typeIn mroIn clsIn InstAt Looks)
noncomputable def ZfM:List Value:=[.type "ValueError",.type "Exception",.type "BaseException",.type "object"]
noncomputable def ZkF:Value->Bool
 | .ref _=>true
 | _=>false
noncomputable def xmro (l:List Value):Bool:=l.dropWhile ZkF == ZfM
theorem Zgl {P:List Value->Prop}(h0:P ZfM)(h1:∀c r,P r->P (.ref c::r)):∀l:List Value,xmro l=true->P l
 | [],e=>by simp[xmro,ZfM]at e
 | v::r,e=>by
  cases hv:ZkF v with
  | true=>
   cases v with
   | ref c=>
    refine h1 c r (Zgl h0 h1 r ?_)
    unfold xmro at e ⊢
    rw[List.dropWhile_cons,YAP hv]at e
    exact e
   | _=>cases hv
  | false=>
   unfold xmro at e
   rw[List.dropWhile_cons,YAL (by rw[hv];exact YAD)]at e
   rw[show (v::r)=ZfM by simpa using e]
   exact h0
theorem Zjq {n:String}{b:Bool}(h:ZfM.contains (.type n)=b){l:List Value}(e:xmro l=true):l.contains (.type n)=b:=
 Zgl (P:=fun l=>l.contains (.type n)=b) h (fun c r h=>by rw[List.contains_cons,h];rfl) l e
structure Xc (K:Frag)(C:Addr):Prop where
 ga:findIn K (.ref C) "__getattribute__"=some (some (.builtin "BaseException.__getattribute__"))
 gr:findIn K (.ref C) "__getattr__"=some none
 sa:findIn K (.ref C) "__setattr__"=some (some (.builtin "object.__setattr__"))
 hd:PySem.W.hasDictIn K C=true
 mr:(clsIn K C).any (fun cd=>xmro cd.mro)=true
theorem ZkW {l:List Value}(e:xmro l=true):l.isEmpty=false:=by
 cases l with
 | nil=>simp[xmro,ZfM]at e
 | cons _ _=>rfl
theorem Xc.base {K:Frag}{C:Addr}(c:Xc K C){n:String}{b:Bool}(h:ZfM.contains (.type n)=b):mroIn K C (.type n)=some b:=by
 obtain⟨cd,hc,hm⟩:=YDD c.mr
 unfold PySem.W.mroIn
 rw[hc,YDE,YAL (by rw[ZkW hm];exact YAD),Zjq h hm]
noncomputable def xo (a C:Addr)(d:Option Addr):HO:=.ext fun h=>∃(o:Obj) (t:Addr),h.get? a=some o/\o.cls=.ref C/\o.dict=d/\o.data=.fields #[.ref t,.none,.none,.none,.bool false,.none]
noncomputable def xdO (d:Addr)(fs:List (Str×V)):HO:=.ext fun h=>fs.length<=1000/\∃mA,h.Ns1 d mA/\(∀f,RelO (fs.lookup f) (mA f))/\PySem.Within mA (fs.map (·.1))
inductive XAt (H:Hp) (e C:Addr):List (Str×V)->Prop where
 | bare:H e=some (xo e C none)->XAt H e C []
 | full {d:Addr} {fs:List (Str×V)}:H e=some (xo e C (some d))->H d=some (xdO d fs)->d≠e->XAt H e C fs
section
variable {X:Cx}{pins:List (Addr×Obj)}{U:St}{H:Hp}{s:Shared}{e C:Addr}{fs:List (Str×V)}{f:Str}{v:V}{A:Around}{E:Q33}
theorem Zkq {d:Option Addr}(I:Inv X pins U H s)(h:H e=some (xo e C d)):∃(o:Obj) (t:Addr),s.heap.get? e=some o/\o.cls=.ref C/\o.dict=d/\o.data=.fields #[.ref t,.none,.none,.none,.bool false,.none]:=(I.hok e _ h).1
theorem XAt.inst (I:Inv X pins U H s)(x:XAt H e C fs):∃(ox:Obj) (od:Option Obj),InstAt s.heap e ox C od/\∀name,∃r,(match od with | some o=>PySem.W.lookIn name o | none=>some none)=some r/\RelO (fs.lookup name) r:=by
 cases x with
 | bare h=>
  obtain⟨o,t,h1,h2,h3,h4⟩:=Zkq I h
  exact⟨o,none,⟨h1,h2,by unfold PySem.W.notCls;rw[h4],by rw[h3];trivial⟩,fun name=>⟨none,rfl,by trivial⟩⟩
 | @full d _ h h' hne=>
  obtain⟨o,t,h1,h2,h3,h4⟩:=Zkq I h
  obtain⟨⟨_,mA,hn,hr,_⟩,_⟩:=I.hok d _ h'
  obtain⟨od,hod,hl⟩:=ZdA hn
  exact⟨o,some od,⟨h1,h2,by unfold PySem.W.notCls;rw[h4],by rw[h3];exact hod⟩,fun name=>⟨mA name,hl name,hr name⟩⟩
theorem Zi5:entryFor table "BaseException.__getattribute__"=some Builtin.«object.__getattribute__»:=F.entry_bexc_ga
end
structure Xm (K:Frag)(C:Addr):Prop where
 c:Xc K C
 ob:∃(nm q:Str) (N:Addr) (bs bm:List Value) (hdct:Bool) (sn:List Str) (sub:List Value) (ab:Bool) (col:Option Bool) (dd:Option Addr) (k0 k1 k2 k3 k5:Option Value),
  K.lookup C=some (excClassObj nm q C N bs bm hdct sn sub ab col dd k0 k1 k2 k3 k5 "ValueError.__new__")
 kp:PySem.W.keepIn K (.ref C)=true
section
variable {prog:Program}{w:World}{A:Around}{E:Q33}{h:Heap}{g:Array GenState}{d:Drawn}{t:Nat}{os:OsState}{K:Frag}
variable {nm q:Str}{C N:Addr}{bs bm:List Value}{hdct:Bool}{sn:List Str}{sub:List Value}{ab:Bool}{col:Option Bool}{dd:Option Addr}{k0 k1 k2 k3 k5:Option Value}
end
section
variable {X:Cx}{pins:List (Addr×Obj)}{U:St}{H:Hp}{s:Shared}{C:Addr}{us:List Value}{vs:List V}{Q:VK}
end
structure Xi (K:Frag)(C:Addr):Prop where
 c:Xc K C
 ha:findIn K (.ref C) "__class__"=some (some (.builtin "object.__class__"))
 hn:specialIn K (.builtin "object.__class__") "__get__"=some (some (.builtin "getset_descriptor.__get__"))
 htk:PySem.W.takesIn K (.builtin "object.__class__")=some true
section
variable {K:Frag}{x C:Addr}{ox:Obj}{od:Option Obj}{prog:Program}{w:World}{A:Around}{E:Q33}{s:Shared}
theorem Zma {Q:Option Value->Shared->Prop}(i:Xi K C)(KX:K.In s.heap)(I:InstAt s.heap x ox C od)(h:Q (some (.ref C)) { s with toks:=s.toks+1 }):wpAny (model prog w) A (getAttr? (.ref x) "__class__") Q E s:=by
 have c:=i.c
 have hf:PySem.W.findObj K C od "__class__"=some (.bind (.builtin "getset_descriptor.__get__") (.builtin "object.__class__")):=by
  obtain⟨cd,hc,_⟩:=YDD c.hd
  unfold PySem.W.findObj
  rw[hc,i.ha]
  simp only[YDE,i.hn,i.htk]
 obtain⟨hp,g,d,t,os⟩:=s
 have L0:=I.type (M:=model prog w)
 have L1:=PySem.W.looks_findIn (M:=model prog w) KX c.ga
 have L2:=PySem.W.looks_findIn (M:=model prog w) KX c.gr
 have L3:=PySem.W.looks_find (M:=model prog w) KX I hf
 have L4:=PySem.W.looks_mroIn (M:=model prog w) KX (c.base (n:="BaseException") (b:=true) (by decide +kernel))
 have hm:=c.base (n:="object") (b:=true) (by decide +kernel)
 have hx2:(Value.builtin "BaseException.__getattribute__" == Value.builtin "object.__getattribute__")=false:=by decide +kernel
 have slot:=F.excAttr_ValueError.ga
 unfold getAttr? getAttrBy?
 refine YAA (wpAny_mkText (YAA (YCl ?_)))
 unfold getAttrBy
 refine YBM (YAA (L0.at (YAA (L1.at ?_))))
 dsimp only
 rw[hx2,YCw,YAL YAD]
 unfold getAttrByItsOwn hookBefore
 refine YAA ?_
 show wpAny _ _ (if onTheHeap (Value.ref C)=true then typeLookup (.ref C) "__getattr__" else pure none) _ _ _
 rw[YAP (show onTheHeap (Value.ref C)=true from rfl)]
 refine L2.at (YAA (YCl (YBM ?_)))
 unfold callGetattribute
 rw[show (false&&onTheHeap (Value.builtin "BaseException.__getattribute__"))=false from rfl,YAL YAD]
 unfold boundAndCalled
 rw[slot.bind]
 refine YAA (YAF ?_)
 show wpAny _ _ (call (.builtin "BaseException.__getattribute__") [.ref x,.str "__class__" t]) _ _ _
 refine wpAny_call (codeAny_call_builtin slot.plain Zi5 ?_)
 refine @PySem.W.check_slot (model prog w) _ _ ⟨hp,g,d,t+1,os⟩ "BaseException.__getattribute__" "BaseException" "__getattribute__" (.ref x) [.str "__class__" t] [] _ (by decide +kernel) (by decide +kernel) (L0.andThen L4) (F.args_bexc_ga (.ref x) (.str "__class__" t)) ?_
 refine YAA (YAF (YAA (YAF (YAA (L0.at (YAA (L3.at ?_)))))))
 show wpAny _ _ (holding [.builtin "object.__class__"] (call (.builtin "getset_descriptor.__get__") [.builtin "object.__class__",.ref x,.ref C]) >>= ret) _ _ _
 refine YAA (YBM (wpAny_call (PySem.W.class_get (s:=⟨hp,g,d,t+1,os⟩) (ox:=ox) (od:=od) KX I hm (YAF ?_))))
 exact PySem.W.handed_on rfl (YAF h)
theorem ZgP (i:Xi K C):PySem.W.KitX K (.ref x) (.ref C) (fun h=>InstAt h x ox C od) where
 ty:=fun _ _ _ I=>I.type
 it:=fun _ _ KX _=>by
  obtain⟨cd,hc,_⟩:=YDD i.c.hd
  unfold PySem.W.clsIn at hc
  split at hc
  .rename_i ho
   intro A' Q' E' s' k q
   unfold isType loadHead
   exact YAA (wpAny_loadPart (k _ _ (KX _ _ ho)) (YAF q))
  .cases hc
 ne:=fun h tp dd its n sl KX htp=>by
  obtain⟨cd,hc,_⟩:=YDD i.c.hd
  refine YCD.mpr fun q=>?_
  have e:C=tp:=Value.ref.inj (beq_iff_eq.mp q)
  subst e
  unfold PySem.W.clsIn at hc
  split at hc
  .rename_i ho
   have z:=(KX _ _ ho).symm.trans htp
   cases z
  .cases hc
 ca:=fun KX I k=>Zma i KX I k
end
inductive TyX (K:Frag) (H:Hp):V->Value->Prop where
 | pl {x:V} {t:Value} (h:TyOf K H x t):TyX K H x t
 | seqL {a:Addr} {xs:List V} (h:SqL K H a xs):TyX K H (.ref a) (.type "list")
 | seqT {a:Addr} {xs:List V} (h:SqT K H a xs):TyX K H (.ref a) (.type "tuple")
 | exc {e C:Addr} {fs:List (Str×V)} (x:XAt H e C fs) (i:Xi K C):TyX K H (.ref e) (.ref C)
noncomputable def clsV:V->Option Value
 | .ref a=>some (.ref a)
 | .ty n=>some (.type n)
 | _=>none
theorem Zgh {X:Cx}:ZbU X (.builtin "isinstance") (fun xs H Q=>∃x c t k b,xs=[x,c]/\clsV c=some k/\TyX X.K H x t/\PySem.W.kitOne X.K t k=some b/\Q (.bl b) H):=by
 rintro pins s U H xs us Q I r ⟨x,c,t,k,b,rfl,hk,ty,e,q⟩
 obtain⟨u,v,rfl,ru,rv⟩:=r.two
 have hv:v=k:=by
  cases c with
  | ref a=>cases hk;exact rv
  | ty n=>cases hk;exact rv
  | _=>cases hk
 subst hv
 cases ty with
 | pl ty=>exact ZiQ I ru ty e fun tk=>⟨.bl b,H,I.tok _,rfl,q⟩
 | seqL h=>
  cases ru
  obtain⟨its,_,⟨o,n,ho,hc,_⟩,_⟩:=I.list h
  exact YBK PySem.W.kitx_list I.kIn ⟨o,ho,hc⟩ e (fun z=>nomatch z) fun tk=>⟨.bl b,H,I.tok _,rfl,q⟩
 | seqT h=>
  cases ru
  obtain⟨its,_,⟨o,ho,hc,_⟩,_⟩:=I.tuple h
  exact YBK PySem.W.kitx_tuple I.kIn ⟨o,ho,hc⟩ e (fun z=>nomatch z) fun tk=>⟨.bl b,H,I.tok _,rfl,q⟩
 | exc x i=>
  cases ru
  obtain⟨ox,od,J,_⟩:=x.inst I
  exact YBK (ZgP i) I.kIn J e (fun z=>nomatch z) fun tk=>⟨.bl b,H,I.tok _,rfl,q⟩
def Zk1 (K:Frag)(C:Addr)(t:TA):TE:=fun U H Q=>t U H fun vs H1=>vs.length<=1000/\∀e,H1 e=none->Q (.ref e) (upd H1 e (xo e C none))
def Zmc (C:Addr)(sp:Sp)(E:XK)(t:TA):TE:=fun U H Q=>t U H fun vs H1=>vs.length<=1000/\∀e,H1 e=none->sp (.ref e::vs) (upd H1 e (xo e C none)) (fun v H2=>v=.non/\Q (.ref e) H2) E
section
variable {X:Cx}{o e value:Expr}{es:List Expr}{f x:Str}{p pos pos':Pos}{ta tv:TE}{t:TA}{C fI:Addr}
structure ClsRead (K:Frag)(C:Addr)(f:Str)(v:Value):Prop where
 sp:specialIn K (.ref C) "__getattribute__"=some (some (.builtin "type.__getattribute__"))
 rd:PySem.W.readsIn K C (.type "type")=true
 fd:PySem.W.findCls K (.ref C) (.type "type") f=some (.val v)
 hn:PySem.W.handedIn v=true
end
section
variable {X:Cx}{pins:List (Addr×Obj)}{U:St}{H:Hp}{s:Shared}
end
noncomputable def Ite (K:Q44)(a:Addr):It:=
 ⟨fun i H=>∃xs x,SqL K H a xs/\xs[i]?=some x,fun i H x H'=>∃p v,H p=none/\x=.ref p/\H'=upd H p (.tup [.int i,v])/\∀xs,SqL K H a xs->xs[i]?=some v,fun i H=>∃xs,SqL K H a xs/\xs.length<=i⟩
section
variable {X:Cx}{es:List Expr}{x1:Nat}{tp:Pos}
end
section
variable {H:Hp}{Q:VK}{U:St}
theorem q_I {C:Int->Int->Prop}{g:Int->Int->V}{i j:Int}:rI C g (.int i) (.int j) H Q=(C i j/\Q (g i j) H):=
 propext ⟨fun ⟨_,_,e1,e2,h⟩=>by cases e1;cases e2;exact h,fun h=>⟨i,j,rfl,rfl,h⟩⟩
theorem q_I0 {g:Int->Int->V}{i j:Int}:rI0 g (.int i) (.int j) H Q=Q (g i j) H:=
 propext ⟨fun ⟨_,_,e1,e2,h⟩=>by cases e1;cases e2;exact h,fun h=>⟨i,j,rfl,rfl,h⟩⟩
theorem q_U {g:Int->V}{i:Int}:rU g (.int i) H Q=Q (g i) H:=
 propext ⟨fun ⟨_,e1,h⟩=>by cases e1;exact h,fun h=>⟨i,rfl,h⟩⟩
theorem q_T {C:Q11->Q11->Prop}{g:Q11->Q11->V}{a b:Q11}:rT C g (tx a) (tx b) H Q=(C a b/\Q (g a b) H):=
 propext ⟨fun ⟨_,_,e1,e2,h⟩=>by rw[ZdW.mp e1,ZdW.mp e2];exact h,fun h=>⟨a,b,rfl,rfl,h⟩⟩
theorem q_b {b:Bool}{p:Bool->Prop}:(∃k,V.bl b=V.bl k/\p k)=p b:=
 propext ⟨fun ⟨_,e,h⟩=>by cases e;exact h,fun h=>⟨b,rfl,h⟩⟩
theorem q_var {v:V}{p:V->Prop}:(∃u,some (some v)=some (some u)/\p u)=p v:=
 propext ⟨fun ⟨_,e,h⟩=>by cases e;exact h,fun h=>⟨v,rfl,h⟩⟩
theorem q_var' {v:V}{p:V->Prop}:(∃u,v=u/\p u)=p v:=
 propext ⟨fun ⟨_,e,h⟩=>by cases e;exact h,fun h=>⟨v,rfl,h⟩⟩
end
open PySem.W (Frag findIn specialIn typeIn mroIn clsIn subIn kitOne kitCls)
noncomputable def ZnY (sc sco:Scope):Bool:=decide (sc.kind=.function)&&sc.names.all fun y=>decide (y.2≠NameKind.cell)&&(decide (y.2≠NameKind.local) || decide (sc.names.lookup y.1=some NameKind.local)) &&
 (decide (y.2≠NameKind.free) || (decide (sco.names.lookup y.1=some NameKind.cell) || decide (sco.names.lookup y.1=some NameKind.free)))
theorem ZaJ {X:Cx}{sc:Scope}(h:ZnY sc X.env.scope=true):CmpScope X sc:=by
 unfold ZnY at h
 rw[YAV,YBQ]at h
 obtain⟨h1,h2⟩:=h
 refine⟨of_decide_eq_true h1,fun y hy=>?_,fun y hy e=>?_,fun y hy e=>?_⟩
 .have:=h2 y hy
  simp only[YAV,Bool.or_eq_true,decide_eq_true_eq]at this
  exact this.1.1
 .have:=h2 y hy
  simp only[YAV,Bool.or_eq_true,decide_eq_true_eq]at this
  rcases this.1.2 with z | z
  .exact absurd e z
  .exact z
 .have:=h2 y hy
  simp only[YAV,Bool.or_eq_true,decide_eq_true_eq]at this
  rcases this.2 with z | z | z
  .exact absurd e z
  .exact .inl z
  .exact .inr z
section
variable {K:Frag}{H:Hp}{C D:Addr}
structure ClsOk (K:Frag)(C:Addr)(mro:List Value):Prop where
 cd:∃cd,clsIn K C=some cd/\cd.mro=mro
 ty:typeIn K (.ref C)=some (.type "type")
 ne:mro.isEmpty=false
theorem Zap {a:Addr}{o:HO}(h:H a=none):Same H (upd H a o):=fun b u hb=>by rw[Zac (Zah hb h)];exact hb
end
def Mk0 (C:Addr)(H:Hp)(Q:VK):Prop:=∀e,H e=none->Q (.ref e) (upd H e (xo e C none))
def MkI (sp:Sp)(E:XK)(C:Addr)(vs:List V)(H:Hp)(Q:VK):Prop:=∀e,H e=none->sp (.ref e::vs) (upd H e (xo e C none)) (fun v H2=>v=.non/\Q (.ref e) H2) E
def NewL (xs:List V)(H:Hp)(Q:VK):Prop:=∀p,H p=none->Q (.ref p) (upd H p (.lst xs))
def NewT (xs:List V)(H:Hp)(Q:VK):Prop:=∀p,H p=none->Q (.ref p) (upd H p (.tup xs))
section
variable {K:Frag}{C:Addr}{sp:Sp}{E:XK}{t:TA}{U:St}{H:Hp}{Q:VK}{vs:List V}
theorem Zpu:Zk1 K C t U H Q=t U H (fun vs H1=>vs.length<=1000/\Mk0 C H1 Q):=rfl
theorem Zpt:Zmc C sp E t U H Q=t U H (fun vs H1=>vs.length<=1000/\MkI sp E C vs H1 Q):=rfl
theorem Zpv:tLst t U H Q=t U H (fun xs H1=>xs.length<=sizeLine/\NewL xs H1 Q):=rfl
theorem Zps:tTup t U H Q=t U H (fun xs H1=>xs.length<=sizeLine/\NewT xs H1 Q):=rfl
theorem ZmN {l b:Addr}:rCat (.ref l) (.ref b) H Q=∃xs zs,H l=some (.lst xs)/\H b=some (.lst zs)/\xs.length+zs.length<=sizeLine/\NewL (xs++zs) H Q:=
 propext ⟨fun ⟨_,_,xs,zs,e1,e2,h⟩=>by cases e1;cases e2;exact⟨xs,zs,h⟩,fun ⟨xs,zs,h⟩=>⟨l,b,xs,zs,rfl,rfl,h⟩⟩
theorem NewL.of (h:∀p H',Same H H'->H p=none->H' p=some (.lst vs)->Q (.ref p) H'):NewL vs H Q:=fun p hp=>h p _ (Zap hp) hp Zad
theorem NewT.of (h:∀p H',Same H H'->H p=none->H' p=some (.tup vs)->Q (.ref p) H'):NewT vs H Q:=fun p hp=>h p _ (Zap hp) hp Zad
theorem NewL.at (h:∀p,H p=none->Q (.ref p) (upd H p (.lst vs))):NewL vs H Q:=h
theorem NewT.at (h:∀p,H p=none->Q (.ref p) (upd H p (.tup vs))):NewT vs H Q:=h
theorem ZkT:bootBuiltins "str"=some (.type "str"):=by decide +kernel
theorem Zn0:bootBuiltins "int"=some (.type "int"):=by decide +kernel
theorem ZcW:bootBuiltins "list"=some (.type "list"):=by decide +kernel
theorem Zl2:bootBuiltins "dict"=some (.type "dict"):=by decide +kernel
theorem Zjk:bootBuiltins "set"=some (.type "set"):=by decide +kernel
theorem ZaL:bootBuiltins "len"=some (.builtin "len"):=by decide +kernel
theorem ZbS:bootBuiltins "isinstance"=some (.builtin "isinstance"):=by decide +kernel
theorem Zjl:bootBuiltins "all"=some (.builtin "all"):=by decide +kernel
theorem Zn1:bootBuiltins "any"=some (.builtin "any"):=by decide +kernel
theorem ZdN:bootBuiltins "sorted"=some (.builtin "sorted"):=by decide +kernel
theorem Zn2:bootBuiltins "abs"=some (.builtin "abs"):=by decide +kernel
end
def Own (K:Frag)(H:Hp)(d:DT)(x:V):Prop:=DatOk K H d x/\deq d d=true/\dep d<=60
theorem SqL.mk {K:Frag}{H:Hp}{a:Addr}{xs:List V}(h:H a=some (.lst xs)):SqL K H a xs:=.inl (.inl h)
theorem SqT.mk {K:Frag}{H:Hp}{a:Addr}{xs:List V}(h:H a=some (.tup xs)):SqT K H a xs:=.inl (.inl h)
section
variable {X:Cx}{K:Frag}
theorem Za4 (hK:X.K=K)(hu:X.A.units+64<cLine):OpR X (compareOp .Eq) (rEqD K false):=by subst hK;exact ZmX hu
theorem Zbo (hK:X.K=K)(hu:X.A.units+64<cLine):OpR X (compareOp .NotEq) (rEqD K true):=by subst hK;exact ZmU hu
theorem Zcd (hK:X.K=K):IxR X (rIxL K):=by subst hK;exact ZlK
theorem Za0 (hK:X.K=K):IxR X (rIxT K):=by subst hK;exact Znx
theorem Zjw (hK:X.K=K):SlR X (rSlL K):=by subst hK;exact Zlc
theorem Zhl (hK:X.K=K):OpR X (compareOp .In) (rIn K false):=by subst hK;exact Zil
theorem ZbR (hK:X.K=K):OpR X (compareOp .NotIn) (rIn K true):=by subst hK;exact Ze6
theorem Zav (hK:X.K=K):ZbU X (.builtin "len") (fun xs H Q=>∃x n,xs=[x]/\LenV K x H n/\Q (.int n) H):=by subst hK;exact Zki
theorem ZcI (hK:X.K=K):ZbU X (.type "list") (fun xs H Q=>∃p ys,xs=[.ref p]/\(SqL K H p ys\/SqT K H p ys)/\∀l,H l=none->Q (.ref l) (upd H l (.lst ys))):=by subst hK;exact ZfA
theorem ZaF {e:Expr}{f:Str}{pos:Pos}{ta:TE}(hK:X.K=K)(he:PE X e ta)(hb:attributeBase e f X.env (eval e X.env)=eval e X.env):PE X (.Attribute e f pos) (tFld K ta f):=by subst hK;exact ZmS he hb
theorem Zaz {tg l:Expr}{tl:TE}(hK:X.K=K)(hl:PE X l tl):PI X tg l (ZlO K tl):=by subst hK;exact Zlv hl
end
theorem cxK {CX:CXT}{P:Program}{w:World}{K:Q44}{mg:Str->Option Value}{base:Heap}{N:List Str}{qual:Str}{scope:Scope}{f:Addr}{cd:Value}{A:Around}{outer:List Env}{s:Shared}{H:Hp}{E:XK}:
  (cxOf CX P w K mg base N qual scope f cd A outer s H E).K=K:=rfl
theorem bxK {X:Cx}{sc:Scope}{N:List Str}{fp:List Addr}{s_0:Shared}{H:Hp}{pn:List (Addr×Obj)}:(bx X sc N fp s_0 H pn).K=X.K:=rfl
open PySem.W (Frag)
def ForRun (J:It)(g:TG)(tb:TS)(D:Ends)(U:St)(H:Hp):Prop:=∃W:Nat->Nat->St->Hp->Prop,(∃m,W 0 m U H)/\∀i m U H,W i m U H ->
 (J.stop i H/\D.nx U H)\/(J.go i H/\∃N:St->Hp->Prop,(∀U' H',N U' H'->∃m',m'<m/\W (i+1) m' U' H')/\∀x H',J.yld i H x H'->g x U H' fun U2 H2=>tb { D with nx:=N,ct:=N,bk:=D.nx } U2 H2)
theorem Zpw {wi:TI}{g:TG}{tb:TS}{D:Ends}{U:St}{H:Hp}:tFor wi g tb D U H=wi U H fun J H1=>ForRun J g tb D U H1:=rfl
def CompRun (J:It)(τ0:St)(g:TG)(tt:TT)(te:TE)(H1:Hp)(Q:VK):Prop:=∀acc,H1 acc=none->∃W:Nat->Nat->St->Hp->Prop,(∃m,W 0 m τ0 (upd H1 acc (.lst []))) /\
 ∀i m τ H2,W i m τ H2->(J.stop i H2/\Q (.ref acc) H2)\/(J.go i H2/\∃Nx:St->Hp->Prop,(∀τ' H',Nx τ' H'->∃m',m'<m/\W (i+1) m' τ' H') /\
  ∀x H3,J.yld i H2 x H3->g x τ H3 fun τ2 H4=>tt τ2 H4 fun b H5=>if b=true then te τ2 H5 fun y H6=>∃ys,H6 acc=some (.lst ys)/\ys.length<sizeLine/\Nx τ2 (upd H6 acc (.lst (ys++[y]))) else Nx τ2 H5)
theorem ZmM {ix:List (Option Nat)}{wi:TI}{g:TG}{tt:TT}{te:TE}{U:St}{H:Hp}{Q:VK}:Zk5 ix wi g tt te U H Q=wi U H fun J H1=>CompRun J (pick ix U) g tt te H1 Q:=rfl
section
variable {g:TG}{tb:TS}{D:Ends}{U:St}{H:Hp}{K:Frag}{a:Addr}{xs:List V}
theorem ForRun.list (Pv:Nat->St->Hp->Prop)(h0:Pv 0 U H)(hl:∀i U H,i<=xs.length->Pv i U H->SqL K H a xs)
  (hs:∀i x U H,xs[i]?=some x->Pv i U H->g x U H fun U2 H2=>tb { D with nx:=Pv (i+1),ct:=Pv (i+1),bk:=D.nx } U2 H2) (hd:∀U H,Pv xs.length U H->D.nx U H):ForRun (Itl K a) g tb D U H:=
 Zj9 Pv h0 hl hs hd
theorem ForRun.range {lo:Int}{n:Nat}(Pv:Nat->St->Hp->Prop)(h0:Pv 0 U H)
  (hs:∀i U H,i<n->Pv i U H->g (.int (lo+i)) U H fun U2 H2=>tb { D with nx:=Pv (i+1),ct:=Pv (i+1),bk:=D.nx } U2 H2) (hd:∀U H,Pv n U H->D.nx U H):
  ForRun (Itr lo n) g tb D U H:=Zi1 Pv h0 hs hd
theorem ForRun.text {l:Q11}(Pv:Nat->St->Hp->Prop)(h0:Pv 0 U H)
  (hs:∀i c U H,l[i]?=some c->Pv i U H->g (tx [c]) U H fun U2 H2=>tb { D with nx:=Pv (i+1),ct:=Pv (i+1),bk:=D.nx } U2 H2) (hd:∀U H,Pv l.length U H->D.nx U H):
  ForRun (Its l) g tb D U H:=Zj8 Pv h0 hs hd
end
section
variable {tt:TT}{te:TE}{Q:VK}{τ0:St}{H:Hp}
theorem CompRun.gen {J:It}{n:Nat}(v:Nat->V)(b:Nat->Bool)(f:Nat->V)(hz:n<=1000)(hgo:∀i H',i<n->Same H H'->J.go i H')(hst:∀H',Same H H'->J.stop n H')(hy:∀i H' x H3,i<n->Same H H'->J.yld i H' x H3->H3=H'/\x=v i)
  (ht:∀i H' Q',i<n->Same H H'->(∀H'',Same H' H''->Q' (b i) H'')->tt (τ0.set 0 (some (v i))) H' Q')
  (he:∀i H' Q',i<n->b i=true->Same H H'->(∀H'',Same H' H''->Q' (f i) H'')->te (τ0.set 0 (some (v i))) H' Q')
  (hQ:∀p H',Same H H'->H p=none->H' p=some (.lst (((List.range n).filter b).map f))->Q (.ref p) H'):CompRun J τ0 (ZbX 0) tt te H Q:=by
 intro acc ha
 refine⟨fun i m τ H2=>i<=n/\m=n-i/\(∀w:Option V,τ.set 0 w=τ0.set 0 w)/\Same H H2/\H2 acc=some (.lst (((List.range i).filter b).map f)),⟨n,YAq _,rfl,fun _=>rfl,Zap ha,Zad⟩,?_⟩
 rintro i m τ H2 ⟨hi,rfl,hτ,hs,hacc⟩
 by_cases hlt:i<n
 .refine .inr ⟨hgo i H2 hlt hs,fun τ' H'=>(∀w:Option V,τ'.set 0 w=τ0.set 0 w)/\Same H H'/\H' acc=some (.lst (((List.range (i+1)).filter b).map f)),fun τ' H' q=>⟨n-(i+1),by omega,hlt,rfl,q⟩,fun x H3 y=>?_⟩
  obtain⟨rfl,rfl⟩:=hy i H2 x H3 hlt hs y
  show tt (τ.set 0 (some (v i))) _ _
  rw[hτ]
  have hτ':∀w:Option V,(τ0.set 0 (some (v i))).set 0 w=τ0.set 0 w:=fun w=>by rw[YCz]
  refine ht i _ _ hlt hs fun H4 s4=>?_
  cases hb:b i with
  | false=>
   rw[YAL YAD]
   refine⟨hτ',hs.trans s4,?_⟩
   rw[s4 _ _ hacc,YBX,YBV]
   simp[hb]
  | true=>
   rw[YAP rfl]
   refine he i _ _ hlt hb (hs.trans s4) fun H5 s5=>?_
   refine⟨_,s5 _ _ (s4 _ _ hacc),?_,hτ',?_,?_⟩
   .rw[YAB]
    have:=YAe b (List.range i)
    rw[YBD]at this
    exact Zdm (by omega)
   .intro c o hc
    have:c≠acc:=Zah hc ha
    rw[Zac this]
    exact s5 _ _ (s4 _ _ (hs _ _ hc))
   .rw[Zad,YBX,YBV]
    simp[hb]
 .have e:i=n:=by omega
  subst e
  exact .inl ⟨hst H2 hs,hQ acc H2 hs ha hacc⟩
theorem CompRun.range {lo:Int}{n:Nat}(b:Nat->Bool)(f:Nat->V)(hz:n<=1000)
  (ht:∀(i:Nat) H' Q',i<n->Same H H'->(∀H'',Same H' H''->Q' (b i) H'')->tt (τ0.set 0 (some (.int (lo+i)))) H' Q')
  (he:∀(i:Nat) H' Q',i<n->b i=true->Same H H'->(∀H'',Same H' H''->Q' (f i) H'')->te (τ0.set 0 (some (.int (lo+i)))) H' Q')
  (hQ:∀p H',Same H H'->H p=none->H' p=some (.lst (((List.range n).filter b).map f))->Q (.ref p) H'):CompRun (Itr lo n) τ0 (ZbX 0) tt te H Q:=
 .gen (fun i=>.int (lo+i)) b f hz (fun i _ h _=>h) (fun _ _=>YAH _) (fun i H' x H3 _ _ y=>y) ht he hQ
theorem filter_all {n:Nat}{f:Nat->V}:((List.range n).filter fun _=>true).map f=(List.range n).map f:=by rw[YDU.mpr (fun _ _=>rfl)]
theorem CompRun.rangeA {lo:Int}{n:Nat}(f:Nat->V)(hz:n<=1000)
  (he:∀(i:Nat) H' Q',i<n->Same H H'->(∀H'',Same H' H''->Q' (f i) H'')->te (τ0.set 0 (some (.int (lo+i)))) H' Q')
  (hQ:∀p H',Same H H'->H p=none->H' p=some (.lst ((List.range n).map f))->Q (.ref p) H'):CompRun (Itr lo n) τ0 (ZbX 0) tAll te H Q:=
 .range (fun _=>true) f hz (fun i H' Q' _ _ q=>q H' (Same.refl _)) (fun i H' Q' hi _=>he i H' Q' hi) fun p H' s n e=>hQ p H' s n (by rw[e,filter_all])
theorem CompRun.text {l:Q11}(b:Nat->Bool)(f:Nat->V)(hz:l.length<=1000)
  (ht:∀i H' Q' (h:i<l.length),Same H H'->(∀H'',Same H' H''->Q' (b i) H'')->tt (τ0.set 0 (some (tx [l.getD i 0]))) H' Q')
  (he:∀i H' Q' (h:i<l.length),b i=true->Same H H'->(∀H'',Same H' H''->Q' (f i) H'')->te (τ0.set 0 (some (tx [l.getD i 0]))) H' Q')
  (hQ:∀p H',Same H H'->H p=none->H' p=some (.lst (((List.range l.length).filter b).map f))->Q (.ref p) H'):CompRun (Its l) τ0 (ZbX 0) tt te H Q:=
 .gen (fun i=>tx [l.getD i 0]) b f hz (fun i _ h _=>h) (fun _ _=>YAH _) (fun i H' x H3 _ _ y=>by
  obtain⟨e,c,hc,rfl⟩:=y
  refine⟨e,?_⟩
  rw[YAI,hc];rfl) ht he hQ
end
theorem Zfs:∀ {vs:List V},vs.all ZbA=true->deqs (vs.map DT.f) (vs.map DT.f)=true
 | [],_=>by unfold deqs;rfl
 | v::vs,h=>by
  rw[List.all_cons,YAV]at h
  rw[YAr]
  unfold deqs
  rw[Zfs h.2]
  unfold deq
  rw[Zg0 h.1]
  rfl
theorem ownL {K:Frag}{H:Hp}{a:Addr}{vs:List V}(h:SqL K H a vs)(hf:vs.all ZbA=true):Own K H (.l (vs.map DT.f)) (.ref a):=⟨datL h hf,by unfold deq;exact Zfs hf,by unfold dep;rw[Zft];decide⟩
theorem boot_reversed:bootBuiltins "reversed"=some (.type "reversed"):=rfl
section
variable {X:Cx}{tg:Expr}
end
theorem Zn7 {t:SetTable}{n:Nat}:(t.orStandIn n).led=t.led/\((t.orStandIn n).plain=true->t.plain=true):=by
 unfold SetTable.orStandIn
 split
 .exact⟨rfl,id⟩
 .exact⟨rfl,fun h=>by cases h⟩
theorem Zmb {t:SetTable}{es:Array (Int×Value)}{h:Int}{x:Value}:(layNew t es h x).2.1.led=t.led/\((layNew t es h x).2.1.plain=true->t.plain=true):=by
 unfold layNew
 split
 .rename_i slot wd _
  exact Zn7 (t:=(t.put slot).1)
 .exact⟨rfl,fun h=>by cases h⟩
theorem Zk0 {mask finger moves:Nat}{led plain:Bool}{hs:Array Int}{t':SetTable}{order:Array Nat}(e:SetTable.laid mask finger moves led plain hs=some (t',order)):t'.led=led/\t'.plain=plain:=by
 unfold SetTable.laid at e
 cases hq:SetTable.layClean mask hs with
 | none=>rw[hq]at e;cases e
 | some ow=>
  rw[hq]at e
  have e':=Option.some.inj e
  obtain⟨z,_⟩:=Prod.mk.inj e'
  subst z
  exact⟨rfl,rfl⟩
theorem Zjr {t:SetTable}{es:Array (Int×Value)}{n:Nat}:(relayAll t es n).2.1.led=t.led/\((relayAll t es n).2.1.plain=true->t.plain=true):=by
 unfold relayAll
 split
 .rename_i t' order q
  obtain⟨h1,h2⟩:=Zk0 q
  dsimp only
  split
  .exact⟨h1,fun h=>by rw[<-h2];exact h⟩
  .exact⟨rfl,fun h=>by cases h⟩
 .exact⟨rfl,fun h=>by cases h⟩
def TxSet (P:Program)(w:World)(h:Heap)(a:Addr)(ls:Q22)(led:Bool):Prop:=
 ∃(o:Obj) (es:Array (Int×Value)) (ep:Nat) (t:SetTable) (ms:Q22),h.get? a=some o/\o.ExactSet/\o.data=.set es ep t/\ElemsOf (Zaq P w) es.toList/\t.fits es.size=true /\
  t.led=led/\(t.plain=true->es.size=0)/\ms.Perm ls/\Vals (ms.map tx) (es.toList.map (·.2))/\es.size<scanBound
theorem TxSet.keep {P:Program}{w:World}{h h':Heap}{a:Addr}{ls:Q22}{led:Bool}(x:TxSet P w h a ls led)(k:∀o,h.get? a=some o->h'.get? a=some o):TxSet P w h' a ls led:=by
 obtain⟨o,es,ep,t,ms,h1,r⟩:=x
 exact⟨o,es,ep,t,ms,k o h1,r⟩
theorem TxSet.typ {P:Program}{w:World}{s:Shared}{a:Addr}{ls:Q22}{led:Bool}(x:TxSet P w s.heap a ls led):s.TypeIs (.ref a) "set":=by
 obtain⟨o,es,ep,t,ms,h1,h2,_⟩:=x
 exact⟨o,h1,h2.1⟩
noncomputable def addT (ls:Q22)(l:Q11):Q22:=if l∈ls then ls else ls++[l]
theorem Zp3 {l:Q11}{v:V}{u:Value}(r:RelV v u)(hv:∃m,v=tx m):Zev (Sum.inr (⟨l.toArray⟩:Str):Key) u=decide (v=tx l):=by
 obtain⟨m,rfl⟩:=hv
 obtain⟨t,rfl⟩:=r
 rw[Zcm]
 simp only[Zev,Value.isStrOf]
 by_cases h:m=l
 .subst h;simp
 .have:¬(⟨m.toArray⟩:Str)=⟨l.toArray⟩:=fun e=>h (ZdW.mp (congrArg V.str e))
  rw[decide_eq_false h]
  simp[this]
theorem Zgm {l:Q11}:∀ {ms:Q22} {es:List (Int×Value)},Vals (ms.map tx) (es.map (·.2))->((∃e∈es,Zev (Sum.inr (⟨l.toArray⟩:Str):Key) e.2=true)↔l∈ms)
 | [],[],_=>by simp
 | [],_::_,r=>by cases r
 | _::_,[],r=>by cases r
 | m::ms,e::es,r=>by
  cases r with
  | cons r1 r2=>
   have ih:=Zgm (l:=l) r2
   have q:=Zp3 (l:=l) r1 ⟨m,rfl⟩
   rw[Zcm]at q
   constructor
   .rintro⟨x,hx,hk⟩
    rcases YAU.mp hx with z | z
    .subst z
     rw[q]at hk
     exact YAU.mpr (.inl (of_decide_eq_true hk).symm)
    .exact YAU.mpr (.inr (ih.mp ⟨x,z,hk⟩))
   .intro h
    rcases YAU.mp h with z | z
    .exact⟨e,YAi,by rw[q];exact decide_eq_true z.symm⟩
    .obtain⟨x,hx,hk⟩:=ih.mpr z
     exact⟨x,YAY _ hx,hk⟩
theorem Zdi {us us':List Value}(p:us'.Perm us):∀ {ms:Q22},Vals (ms.map tx) us->∃ms':Q22,ms'.Perm ms/\Vals (ms'.map tx) us':=by
 induction p with
 | nil=>intro ms r;exact⟨ms,.refl _,r⟩
 | cons x _ ih=>
  intro ms r
  cases ms with
  | nil=>cases r
  | cons m ms=>
   cases r with
   | cons r1 r2=>
    obtain⟨ms',p',r'⟩:=ih r2
    exact⟨m::ms',p'.cons _,.cons r1 r'⟩
 | swap x y l=>
  intro ms r
  match ms,r with
  | m1::m2::ms,.cons r1 (.cons r2 r3)=>exact⟨m2::m1::ms,.swap _ _ _,.cons r2 (.cons r1 r3)⟩
 | trans _ _ ih1 ih2=>
  intro ms r
  obtain⟨m1,p1,r1⟩:=ih2 r
  obtain⟨m2,p2,r2⟩:=ih1 r1
  exact⟨m2,p2.trans p1,r2⟩
section
variable {prog:Program}{w:World}{A:Around}{E:Q33}{s:Shared}
theorem Zgv {g:Bool->Sem Unit}(hg:∀(b:Bool) (s_1:Shared) (Q':Unit->Shared->Prop),Q' () s_1->wpAny (model prog w) A (g b) Q' E s_1){a:Addr}{o:Obj}{es:Array (Int×Value)}{ep:Nat}{t:SetTable}
  (ho:s.heap.get? a=some o) (hd:o.data=.set es ep t) {e1:Array (Int×Value)} {t2:SetTable} (hb:e1.size<scanBound) (hf:t2.fits e1.size=true) {wd:Bool} {R:Option Bool->Shared->Prop}
  (h:∀h' e2 t3 ep',Heap.SameBut a s.heap h'->h'.get? a=some { o with data:=.set e2 ep' t3 }->e2.toList.Perm e1.toList->t3.fits e2.size=true->t3.led=t2.led->(t3.plain=true->t2.plain=true)->R (some true) { s with heap:=h' }):
  wpAny (model prog w) A (do
   storeSet a e1 t2
   if (!wd&&t2.tooFull)=true then do
    g (relayAll t2 e1 (SetTable.grown e1.size)).2.2;storeSet a (relayAll t2 e1 (SetTable.grown e1.size)).1 (relayAll t2 e1 (SetTable.grown e1.size)).2.1;pure (some true)
   else pure (some true)) R E s:=by
 have put:∀ {h:Heap} {ob:Obj} {xs ys:Array (Int×Value)} {n:Nat} {t t':SetTable},h.get? a=some ob->ob.data=.set xs n t->(h.update a (Obj.putSet ys t')).get? a=some { ob with data:=.set ys (n+1) t' }:=fun {h ob xs ys n t t'} h1 h2=>by
  have q:=YBt (Obj.putSet ys t') h1 (by rw[putSet_of ys t' h2];rfl)
  rwa [putSet_of ys t' h2]at q
 have hs1:=YAw s.heap a (Obj.putSet e1 t2)
 have g1:=put (ys:=e1) (t':=t2) ho hd
 refine YAA (wpAny_storeSet_of ho hd ?_ (fits_of_scanBound hb))
 split
 .have p:=relayAll_perm t2 e1 (SetTable.grown e1.size)
  have f:=relayAll_fits t2 e1 (SetTable.grown e1.size)
  have tm:=Zjr (t:=t2) (es:=e1) (n:=SetTable.grown e1.size)
  have z:(relayAll t2 e1 (SetTable.grown e1.size)).1.size=e1.size:=by rw[<-YAS,p.length_eq,YAS]
  refine YAA (hg _ _ _ (YAA (wpAny_storeSet_of g1 rfl (YAF ?_) (fits_of_scanBound (by rw[z];exact hb)))))
  exact h _ _ _ _ (hs1.trans (YAw _ a _)) (put (ob:={ o with data:=.set e1 (ep+1) t2 }) g1 rfl) p f tm.1 tm.2
 .exact YAF (h _ _ _ _ hs1 g1 (.refl _) hf rfl id)
theorem Zlf {a:Addr}{ls:Q22}{led:Bool}{l:Q11}{tk:Tok}{Q:Bool->Shared->Prop}(hS:TxSet prog w s.heap a ls led)(hn:ls.length+1<scanBound)
  (h:∀h' b,Heap.SameBut a s.heap h'->TxSet prog w h' a (addT ls l) led->Q b { s with heap:=h' }):
  wpAny (model prog w) A (setAddHashed a (.str ⟨l.toArray⟩ tk) (keyH w (Sum.inr ⟨l.toArray⟩))) Q E s:=by
 obtain⟨o,es,ep,t,ms,ho,hex,hd,hel,hf,hled,hpl,hp,hv,hb⟩:=hS
 have hkey:(Zaq prog w).is (Sum.inr (⟨l.toArray⟩:Str)) (.str ⟨l.toArray⟩ tk)=true:=by
  exact Zdy prog w _ _
 have hsc:(Value.str ⟨l.toArray⟩ tk).scannable=true:=rfl
 have hlen:es.size=ls.length:=by
  have q:=hv.length
  rw[YAB,YAB]at q
  rw[<-YAS,<-q,hp.length_eq]
 have mem:=Zgm (l:=l) hv
 have hl:l∈ms↔l∈ls:=hp.mem_iff
 unfold setAddHashed setAddHashedIn
 refine YBM (YAA (YCb ho hd hf ?_))
 dsimp only
 rw[byScan_of hsc hb hel,YAP rfl]
 unfold setAddByScan
 refine YAA (YAA (YCI (YAA (wpAny_setScan_of (knd:=Zaq prog w) (k:=Sum.inr (⟨l.toArray⟩:Str)) hkey ho hd hf hel ?_))))
 cases hr:List.findIdx? (fun e=>(Zaq prog w).is (Sum.inr (⟨l.toArray⟩:Str)) e.2) es.toList with
 | some j=>
  dsimp only
  obtain⟨hj,hpj,_⟩:=List.findIdx?_eq_some_iff_getElem.mp hr
  have hin:l∈ls:=hl.mp (mem.mp ⟨es.toList[j],YBw hj,hpj⟩)
  refine YAF (YAF ?_)
  have q:=h s.heap false (Heap.SameBut.refl a s.heap) (by
   unfold addT
   rw[YAP hin]
   exact⟨o,es,ep,t,ms,ho,hex,hd,hel,hf,hled,hpl,hp,hv,hb⟩)
  exact q
 | none=>
  dsimp only
  have hnin:l∉ls:=fun z=>by
   obtain⟨e,he,hk⟩:=mem.mpr (hl.mpr z)
   have q:=List.findIdx?_eq_none_iff.mp hr e he
   rw[show (Zaq prog w).is (Sum.inr (⟨l.toArray⟩:Str)) e.2=true from hk]at q
   cases q
  have lp:=layNew_perm t es (keyH w (Sum.inr ⟨l.toArray⟩)) (.str ⟨l.toArray⟩ tk)
  have lf:=layNew_fits t es (keyH w (Sum.inr ⟨l.toArray⟩)) (.str ⟨l.toArray⟩ tk)
  have lt:=Zmb (t:=t) (es:=es) (h:=keyH w (Sum.inr ⟨l.toArray⟩)) (x:=.str ⟨l.toArray⟩ tk)
  show wpAny _ A (match layNew t es (keyH w (Sum.inr ⟨l.toArray⟩)) (.str ⟨l.toArray⟩ tk) with | (es,t,wasDummy,gave)=>_) _ _ _
  generalize hL:layNew t es (keyH w (Sum.inr ⟨l.toArray⟩)) (.str ⟨l.toArray⟩ tk)=L at lp lf lt ⊢
  obtain⟨e1,t1,wd,gave⟩:=L
  dsimp only at lp lf lt ⊢
  rw[YBd]at lp
  have sz1:e1.size=ls.length+1:=by rw[<-YAS,lp.length_eq,YAE,YAS,hlen];rfl
  have gw:∀(b:Bool) (s_1:Shared) (Q':Unit->Shared->Prop),Q' () s_1->wpAny (model prog w) A (match b with | true=>rule "set.scan.the-table-gave-way" | false=>pure ()) Q' E s_1:=
   fun b s_1 Q' hq=>by cases b<;>first | exact YAF hq | exact YCI hq
  refine YAA (gw _ _ _ ?_)
  have fin:∀(t2:SetTable),t2.fits e1.size=true->t2.led=t1.led->t2.plain=false->∀h' e2 t3 ep',Heap.SameBut a s.heap h'->h'.get? a=some { o with data:=.set e2 ep' t3 }->e2.toList.Perm e1.toList->t3.fits e2.size=true->t3.led=t2.led->(t3.plain=true->t2.plain=true)->Q true { s with heap:=h' }:=by
   intro t2 f2 l2 p2 h' e2 t3 ep' sb hg pm f3 l3 p3
   refine h h' true sb ?_
   have pall:=pm.trans lp
   obtain⟨ms',pm',hv'⟩:=Zdi (us:=(es.toList++[(keyH w (Sum.inr ⟨l.toArray⟩),Value.str ⟨l.toArray⟩ tk)]).map (·.2)) (us':=e2.toList.map (·.2)) (pall.map _) (ms:=ms++[l]) (by
    rw[YBA,YBA]
    exact hv.append (.cons ⟨tk,rfl⟩ .nil))
   unfold addT
   rw[YAL hnin]
   refine⟨_,e2,ep',t3,ms',hg,hex,rfl,((hel.push (knd:=Zaq prog w) hkey hsc).perm pall),f3,l3.trans (l2.trans (lt.1.trans hled)),fun z=>by rw[p2]at p3;exact absurd (p3 z) YAD,pm'.trans (hp.append_right [l]),hv',?_⟩
   rw[<-YAS,pm.length_eq,YAS,sz1]
   exact hn
  split
  .refine YAA ?_
   rw[hashByValue_scannable 8 hsc]
   refine YAF ?_
   refine Zgv gw ho hd (by rw[sz1];exact hn) ?_ fun h' e2 t3 ep' q1 q2 q3 q4 q5 q6=>?_
   .exact SetTable.fits_plain_off lf
   .exact YAF (fin _ (SetTable.fits_plain_off lf) rfl rfl h' e2 t3 ep' q1 q2 q3 q4 q5 q6)
  .rename_i hnp
   have hnp':t1.plain=false:=by simpa using hnp
   refine YAA (YAF ?_)
   rw[YAP rfl]
   refine Zgv gw ho hd (by rw[sz1];exact hn) lf fun h' e2 t3 ep' q1 q2 q3 q4 q5 q6=>YAF (fin _ lf rfl hnp' h' e2 t3 ep' q1 q2 q3 q4 q5 q6)
end
noncomputable def dd (val:Nat->Q11)(i:Nat):Q22:=((List.range i).map val).foldl addT []
theorem Zge {val:Nat->Q11}{i:Nat}:dd val (i+1)=addT (dd val i) (val i):=by
 unfold dd
 rw[YBX,YBA,List.foldl_append]
 rfl
theorem Zkn {ls:Q22}{l:Q11}:(addT ls l).length<=ls.length+1:=by
 unfold addT
 split
 .omega
 .simp
theorem ZkR {val:Nat->Q11}:∀i,(dd val i).length<=i
 | 0=>YAH _
 | i+1=>by
  rw[Zge]
  have h1:=ZkR (val:=val) i
  have h2:=Zkn (ls:=dd val i) (l:=val i)
  omega
theorem ZcG {val:Nat->Q11}:∀i,(dd val i).Nodup
 | 0=>by simp[dd]
 | i+1=>by
  rw[Zge]
  unfold addT
  split
  .exact ZcG i
  .rename_i h
   rw[YCQ]
   refine⟨ZcG i,by simp,?_⟩
   intro a ha b hb e
   have:b=val i:=by simpa using hb
   subst e this
   exact h ha
section
variable {prog:Program}{w:World}{A:Around}{R:Result->Shared->Prop}{I:Addr}{fp wr:List Addr}{G:Array GenState->Array GenState->Prop}{n:Nat}{Pi:Nat->Value->Prop}{St:Nat->Shared->Prop}
theorem Zjx (W:WalksS prog w A.in1 I fp wr G n Pi St)(S:Addr)(hSf:S∉fp)(val:Nat->Q11)(hval:∀i v,Pi i v->∃t,v=.str ⟨(val i).toArray⟩ t)(hb:n+1<scanBound){led:Bool}:
  ∀(k i:Nat) (s:Shared),n-i=k->i<=n->St i s->TxSet prog w s.heap S (dd val i) led->(∀s',Moved (S::wr) G s s'->TxSet prog w s'.heap S (dd val n) led->R (.ok (.ret .none)) s') ->
   codeAny (model prog w) A (.builtin "set.update.loop" ⟨[.ref S,.ref I],[]⟩) R s:=by
 have nw:S∉wr:=fun h=>hSf (W.sub _ h)
 have up:∀b∈wr,b∈S::wr:=fun b hb=>YAY _ hb
 intro k
 induction k with
 | zero=>
  intro i s hk hi st hS hR
  have e:i=n:=by omega
  subst e
  refine codeAny_builtin F.entry_set_update_loop ?_
  rw[YBT F.plain_set_update_loop _]
  show wpAny _ A.in1 (pyNext (.ref I) >>= fun r=>_) _ _ s
  refine YAA (W.done s _ _ st fun s' hm=>?_)
  exact YAF (hR s' (hm.mono up) (hS.keep fun o e=>hm.heap S o nw e))
 | succ k ih=>
  intro i s hk hi st hS hR
  have hlt:i<n:=by omega
  refine codeAny_builtin F.entry_set_update_loop ?_
  rw[YBT F.plain_set_update_loop _]
  show wpAny _ A.in1 (pyNext (.ref I) >>= fun r=>_) _ _ s
  refine YAA (W.item i s _ _ hlt st fun v s1 hP st1 hm=>?_)
  obtain⟨tk,rfl⟩:=hval i v hP
  have hS1:TxSet prog w s1.heap S (dd val i) led:=hS.keep fun o e=>hm.heap S o nw e
  show wpAny _ A.in1 (holding [Value.str ⟨(val i).toArray⟩ tk] (setAdd S (.str ⟨(val i).toArray⟩ tk)) >>= fun _=>_) _ _ s1
  refine YAA (YBM ?_)
  unfold setAdd
  refine YBM (YAA (wpAny_pyHash_str ?_))
  refine Zlf (s:={ s1 with toks:=s1.toks+1 }) (l:=val i) hS1 (by have:=ZkR (val:=val) i;omega) fun h' b sb hS2=>?_
  rw[<-Zge]at hS2
  refine YAF ⟨plainId_quiet F.plain_set_update_loop _,ih (i+1) _ (by omega) hlt (W.frame _ s1 _ _ st1 (YCi _) fun b hb o e=>(sb.2 b fun z=>hSf (z▸hb)).trans e) hS2 fun s2 hm2 hS3=>?_⟩
  exact hR s2 (Moved.trans W.gtrans ((hm.mono up).then_heap (YCi _) fun b o hb e=>(sb.2 b fun z=>hb (z▸YAi)).trans e) hm2) hS3
end
theorem ZfN {i:Nat}{u:Value}:∀ {vs:List V} {us:List Value} ,Vals vs us->us[i]?=some u->∃v,vs[i]?=some v/\RelV v u:=by
 induction i with
 | zero=>
  intro vs us r e
  cases r with
  | nil=>cases e
  | cons r1 _=>cases e;exact⟨_,rfl,r1⟩
 | succ i ih=>
  intro vs us r e
  cases r with
  | nil=>cases e
  | cons _ r2=>exact ih r2 e
structure Walked (prog:Program)(w:World)(x:Value)(s:Shared)(T:String)(n:Nat)(val:Nat->Q11):Prop where
 ty:∀s1:Shared,(∀b o,s.heap.get? b=some o->s1.heap.get? b=some o)->s1.TypeIs x T
 go:∀(A:Around) (s1:Shared) (Q:Q33) (E:Q33),A.handled=none->(∀b o,s.heap.get? b=some o->s1.heap.get? b=some o) ->
  (∀(h2:Heap) (I:Addr) (fp wr:List Addr) (Pi:Nat->Value->Prop) (St:Nat->Heap->Prop),(∀A':Around,A'.handled=none->Walks prog w A' I fp wr n Pi St)->St 0 h2 ->
   (∀b∈fp,b<s.heap.objs.size\/s1.heap.objs.size<=b)->(∀b∈wr,s1.heap.objs.size<=b)->(∀b o,s1.heap.get? b=some o->h2.get? b=some o)->(∀i v,Pi i v->∃t,v=.str ⟨(val i).toArray⟩ t)->Q (.ref I) { s1 with heap:=h2 }) ->
  wpAny (model prog w) A (pyIter x) Q E s1
theorem ZfL {prog:Program}{w:World}{s:Shared}{l:Addr}{us:List Value}{ls:Q22}(hl:s.heap.IsList l us.toArray)(r:Vals (ls.map tx) us):Walked prog w (.ref l) s "list" ls.length (fun i=>ls.getD i []) where
 ty:=fun s1 k=>by
  obtain⟨o,ho,hc,_⟩:=hl
  exact⟨o,k _ _ ho,hc⟩
 go:=fun A s1 Q E hh k h=>by
  obtain⟨o,ho,hc,hr⟩:=id hl
  have hl1:s1.heap.IsList l us.toArray:=⟨o,k _ _ ho,hc,hr⟩
  have hlt:=YAN ho
  have hlt1:=YAN (k _ _ ho)
  have hlen:us.toArray.size=ls.length:=by rw[YAM,<-r.length,YAB]
  refine YCt hl1 ?_
  have W:∀A':Around,A'.handled=none->Walks prog w A' s1.heap.objs.size [s1.heap.objs.size,l] [s1.heap.objs.size] ls.length (fun i v=>us.toArray[i]?=some v) (fun i h=>h.IsListIter s1.heap.objs.size l i/\h.IsList l us.toArray):=fun A' hA=>by
   have q:=Walks.list (prog:=prog) (w:=w) hA s1.heap.objs.size l (YAd hlt1) us.toArray
   rwa [hlen]at q
  refine h _ _ _ _ _ _ W ⟨⟨_,YAO _ rfl,rfl,rfl⟩,hl1.push _⟩ (fun b hb=>?_) (fun b hb=>?_) (fun b o e=>YAC _ e) (fun i v e=>?_)
  .rcases YAU.mp hb with z | z
   .exact .inr (YCS z.symm)
   .have z:b=l:=by simpa using z
    rw[z];exact .inl hlt
  .have z:b=s1.heap.objs.size:=by simpa using hb
   exact YCS z.symm
  .have e':us[i]?=some v:=by simpa using e
   obtain⟨v',hv',rv⟩:=ZfN r e'
   rw[YAW]at hv'
   cases q:ls[i]? with
   | none=>rw[q]at hv';cases hv'
   | some m=>
    rw[q]at hv'
    cases hv'
    obtain⟨t,rfl⟩:=rv
    exact⟨t,by rw[YAI,q];rfl⟩
theorem ZfK {prog:Program}{w:World}{s:Shared}{l:Q11}{t:Tok}:Walked prog w (.str ⟨l.toArray⟩ t) s "str" l.length (fun i=>[l.getD i 0]) where
 ty:=fun s1 _=>typeIs_str s1 _ _
 go:=fun A s1 Q E hh k h=>by
  have hlen:(⟨l.toArray⟩:Str).cps.size=l.length:=by show l.toArray.size=_;simp
  have item:∀(i:Nat) (v:Value),(∃c u,(⟨l.toArray⟩:Str).cps[i]?=some c/\v=.str ⟨#[c]⟩ u)->∃t,v=.str ⟨[l.getD i 0].toArray⟩ t:=by
   rintro i v ⟨c,u,e,rfl⟩
   have e':l[i]?=some c:=by simpa using e
   exact⟨u,by rw[YAI,e'];rfl⟩
  refine wpAny_pyIter_str fun o St W st=>?_
  rw[hlen]at W
  refine h _ _ _ _ _ _ W st (fun b hb=>.inr ?_) (fun b hb=>?_) (fun b o e=>YAC _ e) (fun i v ⟨c,u,e,e2⟩=>item i v ⟨c,u,e,e2⟩)
  .have z:b=s1.heap.objs.size:=by simpa using hb
   exact YCS z.symm
  .have z:b=s1.heap.objs.size:=by simpa using hb
   exact YCS z.symm
section
variable {prog:Program}{w:World}{A:Around}{E:Q33}{s:Shared}
noncomputable abbrev Ze9 (led:Bool):Obj:={ cls:=.type "set",dict:=none,data:=.set #[] 0 (.fresh 0 0 led) }
theorem ZhR {h:Heap}{a:Addr}{led:Bool}(ho:h.get? a=some (Ze9 led)):TxSet prog w h a [] led:=
 ⟨_,#[],0,_,[],ho,⟨rfl,rfl,rfl⟩,rfl,fun e he=>by simp at he,rfl,rfl,fun _=>rfl,.refl _,.nil,by show 0<4096;decide⟩
noncomputable def Zbb (w:World):Bool:=w.params.followText "set-order"
theorem Zld (a:Value){Q₁:Q33}(h:Q₁ (.ref s.heap.objs.size) { s with heap:=s.heap.push (Ze9 (!Zbb w)) }):
  codeAny (model prog w) A (.call (.builtin "set.__new__") ⟨[.type "set",a],[]⟩) (wants Q₁ E) s:=by
 refine codeAny_of_tree ?_
 show wpAny _ A.in1 (checkBuiltinCall "set.__new__" ⟨[.type "set",a],[]⟩ >>= fun _=>again (.builtin "set.__new__" ⟨[.type "set",a],[]⟩)) _ _ s
 refine YAA (wpAny_of_eq (F.newCall_set_1 a) (YAF ⟨plainId_quiet F.plain_set_new _,codeAny_builtin F.entry_set_new ?_⟩))
 rw[YBT F.plain_set_new _]
 unfold Builtin.«set.__new__» Builtin.Frozenset.newClass
 have hsub:=sub_set_self
 obtain⟨hp,g,d,tk,os⟩:=s
 dsimp only
 wp_walk
 refine YCg (YAF ?_)
 dsimp only
 simp only[newObj]
 exact YAA (wpAny_alloc (YAF (YAF h)))
set_option maxHeartbeats 3200000 in
theorem Zgw {x:Value} {T:String} {n:Nat} {val:Nat->Q11} {Q:Q33} (hh:A.handled=none) (W:Walked prog w x s T n val) (t1:isSubtype (.type T) (.type "set")=pure false) (t2:isSubtype (.type T) (.type "frozenset")=pure false)
  (t3:(Value.type T == Value.type "dict")=false) (hb:n+1<scanBound)
  (h:∀(h':Heap) (tk:Nat),TxSet prog w h' s.heap.objs.size (dd val n) (!Zbb w)->(∀b o,s.heap.get? b=some o->h'.get? b=some o)->s.toks<=tk->Q (.ref s.heap.objs.size) { s with heap:=h',toks:=tk }):
  wpAny (model prog w) A (call (.type "set") [x]) Q E s:=by
 obtain⟨c,tl,hmro⟩:=F.called_set.mro
 have hmade:=F.called_set.made
 have hsub:=F.called_set.sub
 refine wpAny_call (codeAny_of_tree ?_)
 show wpAny _ _ (callAny (.type "set") _) _ _ _
 refine YAF ⟨Code.quiet_builtin _ (by decide +kernel),codeAny_builtin F.entry_type_call ?_⟩
 rw[Around.under_plain (weight_type_call_type "set" [x] []) rfl]
 have h1:=F.called_set.notType
 have h2:=F.called_set.canCreate
 have hct:=F.typeCall_set_1 x
 repeat (any_goals (first | assumption | wp_step))
 refine codeAny_mono (Zld x (E:=E) (Q₁:=fun ob s_1=>ob=.ref s.heap.objs.size/\s_1={ s with heap:=s.heap.push (Ze9 (!Zbb w)) }) ⟨rfl,rfl⟩) fun r s_1 hr=>?_
 cases r with
 | error e=>exact hr
 | ok fl=>
  cases fl with
  | ret ob=>
   obtain⟨rfl,rfl⟩:=hr
   have hS:(s.heap.push (Ze9 (!Zbb w))).get? s.heap.objs.size=some (Ze9 (!Zbb w)):=YAO _ rfl
   have hT:Shared.TypeIs { s with heap:=s.heap.push (Ze9 (!Zbb w)) } (.ref s.heap.objs.size) "set":=⟨_,hS,rfl⟩
   have hli:=F.called_set.init.lookup
   have hbi:=F.called_set.init.bind (.ref s.heap.objs.size)
   have keep1:∀b o,s.heap.get? b=some o->(s.heap.push (Ze9 (!Zbb w))).get? b=some o:=fun b o e=>YAC _ e
   repeat (any_goals (first | assumption | wp_step))
   refine codeAny_mono (codeAny_call_builtin (R:=wants (fun r s_2=>r=.none/\∃h' tk,s_2={ s with heap:=h',toks:=tk }/\TxSet prog w h' s.heap.objs.size (dd val n) (!Zbb w)/\(∀b o,s.heap.get? b=some o->h'.get? b=some o)/\s.toks<=tk) E)
    F.called_set.init.plain F.entry_set_init (check_set_init_1 hT ?_)) fun r_2 s_2 hr9=>?_
   .have hTx:=W.ty { s with heap:=s.heap.push (Ze9 (!Zbb w)) } keep1
    unfold Builtin.«set.__init__» noKeywords Builtin.Frozenset.updateFrom
    generalize hPI:pyIter=PI
    wp_walk
    subst hPI
    refine W.go _ _ _ _ (by simp[hh]) keep1 fun h2 I fp wr Pi St Wk st f1 f2 k2 hval=>?_
    refine YAA (wpAny_runValue ?_)
    have hSf:s.heap.objs.size∉fp:=fun z=>by
     rcases f1 _ z with q | q
     .exact YAz _ q
     .rw[YBb]at q;exact absurd q (Nat.not_succ_le_self _)
    refine Zjx ((Wk A.in1.in1.in1 (by simp[hh])).toS) s.heap.objs.size hSf val hval hb (n-0) 0 _ (by omega) (YAq _) st (ZhR (k2 _ _ hS)) fun s' hm hS'=>?_
    obtain⟨h',g',d',tk',os'⟩:=s'
    have eg:g'=s.gens:=hm.gens
    have ed:d'=s.drawn:=hm.drawn
    have eo:os'=s.os:=hm.os
    have et:s.toks<=tk':=hm.toks
    subst eg ed eo
    refine YAF ?_
    refine YAF ⟨rfl,h',tk',rfl,hS',fun b o e=>?_,et⟩
    have hlt:=YAN e
    refine hm.heap b o (fun z=>?_) (k2 b o (keep1 b o e))
    rcases YAU.mp z with q | q
    .rw[q]at hlt;exact YAz _ hlt
    .have q2:=f2 b q
     rw[YBb]at q2
     exact absurd (YAb hlt (Nat.le_of_succ_le q2)) (YAz _)
   .cases r_2 with
    | error e=>exact hr9
    | ok fl2=>
     cases fl2 with
     | ret r=>
      obtain⟨rfl,h',tk,rfl,hS',hk',htk⟩:=hr9
      repeat (any_goals (first | assumption | wp_step))
      exact h _ _ hS' hk' htk
     | _=>exact hr9.elim
  | _=>exact hr.elim
end
theorem ZcT {α:Type}:∀(xs:List α) (i:Nat) (h:i<xs.length),(xs[i]::xs.eraseIdx i).Perm xs
 | x::xs,0,_=>.refl _
 | x::xs,i+1,h=>by
  have hi:i<xs.length:=by simpa using h
  have ih:=ZcT xs i hi
  show (xs[i]::x::xs.eraseIdx i).Perm (x::xs)
  exact(List.Perm.swap _ _ _).trans (ih.cons x)
section
variable {M:Model}{A:Around}{E:Q33}{s:Shared}
theorem wp_choose' {src:Source}{n:Nat}{Q:Nat->Shared->Prop}(hn:n≠0)(h:∀i d,i<n->Q i { s with drawn:=d }):wpAny M A (choose src n) Q E s:=fun Γ p hΓ=>by
 unfold choose
 rw[Sem.wp_choose]
 exact⟨hn,h _ _ (Nat.mod_lt _ (Nat.pos_of_ne_zero hn))⟩
theorem ZcY {α:Type}:∀(n:Nat) (xs:List α) (s:Shared) (Q:List α->Shared->Prop),xs.length=n->(∀ys d,ys.Perm xs->Q ys { s with drawn:=d })->wpAny M A (drawOrder n xs) Q E s
 | 0,xs,s,Q,hl,h=>by
  have e:xs=[]:=YDI hl
  subst e
  unfold drawOrder
  exact YAF (h [] s.drawn (.refl _))
 | n+1,[],s,Q,hl,h=>by cases hl
 | n+1,x::xs,s,Q,hl,h=>by
  unfold drawOrder
  refine YAA (wp_choose' (by simp) fun i d hi=>?_)
  have e:(x::xs)[i]?=some (x::xs)[i]:=YAG hi
  rw[e]
  dsimp only
  refine YAA (ZcY n ((x::xs).eraseIdx i) _ _ ?_ fun ys d' p=>YAF ?_)
  .rw[YDV hi,hl];rfl
  .refine h _ d' ((List.Perm.cons _ p).trans ?_)
   exact ZcT _ _ hi
end
theorem ZdV:entryFor table "set.__iter__"=some Builtin.«frozenset.__iter__»:=entryFor_alias (id':="frozenset.__iter__") (by kernel_rfl) rfl (by decide +kernel) (by kernel_rfl)
theorem ZaC:Slot "set_iterator" "__next__" "set_iterator.__next__":=
 .of (owner:="set_iterator") (n:="__next__") (by rw[typeLookup_type,builtinLookup_eq_fast];kernel_rfl) (by decide +kernel) (by decide +kernel) (by decide +kernel)
  (by first | exact .inl (by decide +kernel) | exact .inr (by decide +kernel)) (by rw[isSubtype_type];kernel_rfl)
theorem ZbC:entryFor table "set_iterator.__next__"=some Builtin.«set_iterator.__next__»:=entryFor_of_fast (by kernel_rfl)
theorem ZbN (a:Value):argsOk "set_iterator.__next__" ⟨[a],[]⟩:=by unfold argsOk;kernel_rfl
section
variable {prog:Program}{w:World}{A:Around}{E:Q33}{s:Shared}
def SetIt (h:Heap)(I S:Addr)(first:Value)(i n ep:Nat):Prop:=∃o,h.get? I=some o/\o.cls=.type "set_iterator"/\o.data=.fields #[first,.int i 0,.ref S,.int n 0,.int ep 0]
theorem ZlT {t:SetTable}{n:Nat}(hf:t.fits n=true):(t.place.size != n || decide (t.fill>t.mask))=false:=by
 simp only[SetTable.fits,YAV,beq_iff_eq,decide_eq_true_eq]at hf
 simp[hf.1,YCu.mpr hf.2]
theorem Zj1 {S:Addr}{o:Obj}{es:Array (Int×Value)}{ep:Nat}{t:SetTable}{Q:Q33}(ho:s.heap.get? S=some o)(hex:o.ExactSet)(hd:o.data=.set es ep t)(hf:t.fits es.size=true)(hz:es.size<=sizeLine)
  (h0:(Zbb w=true\/(t.plain=true\/es.size<=1))->Q (.ref s.heap.objs.size) { s with heap:=s.heap.push { cls:=.type "set_iterator",data:=.fields #[.int 0 0,.int 0 0,.ref S,.int es.size 0,.int ep 0] } })
  (h1:∀(ps:Q11) (d:Drawn),ps.Perm (List.range es.size)->Q (.ref (s.heap.objs.size+1)) { s with drawn:=d,heap:=(Heap.push s.heap { cls:=.type "tuple",data:=.seq (ps.map (fun i=>Value.int ((i:Nat):Int) 0)).toArray }).push { cls:=.type "set_iterator",data:=.fields #[.ref s.heap.objs.size,.int 0 0,.ref S,.int es.size 0,.int ep 0] } }):wpAny (model prog w) A (pyIter (.ref S)) Q E s:=by
 have hT:s.TypeIs (.ref S) "set":=⟨o,ho,hex.1⟩
 refine wpAny_pyIter_slot hT F.slot_set_iter (YCf F.slot_set_iter hT ZdV ?_ (F.args_set_iter_1 _))
 unfold Builtin.«frozenset.__iter__» Builtin.Frozenset.sizeOf setDrawn setsByText
 wp_walk
 rw[hd]
 dsimp only
 rw[ZlT hf]
 rw[YAL YAD]
 refine YAF (YAF (YAF ?_))
 refine YAA (YAA (YCb ho hd hf ?_))
 dsimp only
 refine YAA (YAA (YCg (YAF (YAF ?_))))
 show wpAny _ _ (if (!Zbb w&&(!t.plain&&decide (es.size>1)))=true then _ else _) _ _ _
 split
 .refine YAA (ZcY es.size (List.range es.size) _ _ (by simp) fun ps d p=>?_)
  refine YAA ?_
  simp only[newTuple]
  refine YCA ?_ (by show (List.map _ ps).toArray.size<=sizeLine;rw[YAM,YAB,p.length_eq,YBD];exact hz)
  refine YAA (wpAny_setEpoch_of (YAC _ ho) hd hf (YAA (YCA (YAF ⟨_,rfl,"set_iterator",_,⟨_,YAO _ rfl,rfl⟩,ZaC.lookup,?_⟩))))
  have q:=h1 ps d p
  rw[YBb]
  exact q
 .rename_i hb
  refine YAA (YAF ?_)
  refine YAA (wpAny_setEpoch_of ho hd hf (YAA (YCA (YAF ⟨_,rfl,"set_iterator",_,⟨_,YAO _ rfl,rfl⟩,ZaC.lookup,h0 ?_⟩))))
  cases h:Zbb w with
  | true=>exact .inl rfl
  | false=>
   refine .inr ?_
   cases h':t.plain with
   | true=>exact .inl rfl
   | false=>
    rw[h,h']at hb
    simp at hb
    exact .inr hb
end
section
variable {prog:Program}{w:World}{A:Around}{E:Q33}{s:Shared}{I S:Addr}{o:Obj}{es:Array (Int×Value)}{ep i n:Nat}{t:SetTable}
theorem SetIt.typ {first:Value}(h:SetIt s.heap I S first i n ep):s.TypeIs (.ref I) "set_iterator":=let ⟨o,h1,h2,_⟩:=h;⟨o,h1,h2⟩
noncomputable abbrev ZnZ (I S:Addr)(slot i ep:Nat):Sem PySem.Fin:=do
 match <-setNext S slot i ep with
 | some (x,next)=>do
  setField (.ref I) 0 (rawInt (next:Nat))
  setField (.ref I) 1 (rawInt ((i:Int)+1))
  ret x
 | none=>do
  setField (.ref I) 2 Value.none
  raiseNew (<-newExc (Value.type "StopIteration") [])
noncomputable abbrev Zl1 (I S:Addr)(first:Value)(i ep:Nat):Sem PySem.Fin:=do
 match <-seqItems? first with
 | some places=>match places[i]? with
  | some (.int place _)=>do
   let x <-setNextDrawn S place.toNat ep
   setField (.ref I) 1 (rawInt ((i:Int)+1))
   ret x
  | some _=>unsupported "internal:set_iterator"
  | none=>do
   setField (.ref I) 0 (rawInt 0)
   setField (.ref I) 2 Value.none
   raiseNew (<-newExc (Value.type "StopIteration") [])
 | _=>unsupported "internal:set_iterator"
abbrev NxQ (prog:Program)(w:World)(A:Around)(Q:Option Value->Shared->Prop)(E:Q33)(fin:PySem.Fin)(s':Shared):Prop:=∃v,fin=Fin.done (Flow.ret v)/\Q (some v) s'
abbrev NxE (prog:Program)(w:World)(A:Around)(Q:Option Value->Shared->Prop)(E:Q33)(e:Value)(s':Shared):Prop:=
 wpAny (model prog w) A (do let b <-isInstance e (Value.type "StopIteration");if b=true then pure none else throw e) Q E s'
theorem Zcv {slot:Nat}{Q:Option Value->Shared->Prop}(hi:SetIt s.heap I S (.int (slot:Nat) 0) i es.size ep)(ho:s.heap.get? S=some o)(hd:o.data=.set es ep t)(hf:t.fits es.size=true)
  (h:wpAny (model prog w) A.in1 (ZnZ I S slot i ep) (NxQ prog w A Q E) (NxE prog w A Q E) s):wpAny (model prog w) A (pyNext (.ref I)) Q E s:=by
 obtain⟨oi,hoi,hci,hdi⟩:=id hi
 unfold pyNext
 refine YAA (YCl (wpAny_callSpecial?_slot (name:=Str.ofString "__next__") hi.typ ZaC (YCf ZaC hi.typ ZbC ?_ (ZbN _))))
 unfold Builtin.«set_iterator.__next__»
 wp_walk
 rw[hdi]
 dsimp only
 refine YAF ?_
 dsimp only
 refine YAA (wpAny_setEntries_of ho hd hf ?_)
 (try dsimp only)
 rw[YAL (by simp)]
 refine YBp h (fun fin s' q=>?_) fun e s' q=>q
 obtain⟨v,rfl,q⟩:=q
 exact⟨v,rfl,YAF q⟩
theorem Zd0 {tp:Addr}{Q:Option Value->Shared->Prop}(hi:SetIt s.heap I S (.ref tp) i es.size ep)(ho:s.heap.get? S=some o)(hd:o.data=.set es ep t)(hf:t.fits es.size=true)
  (h:wpAny (model prog w) A.in1 (Zl1 I S (.ref tp) i ep) (NxQ prog w A Q E) (NxE prog w A Q E) s):wpAny (model prog w) A (pyNext (.ref I)) Q E s:=by
 obtain⟨oi,hoi,hci,hdi⟩:=id hi
 unfold pyNext
 refine YAA (YCl (wpAny_callSpecial?_slot (name:=Str.ofString "__next__") hi.typ ZaC (YCf ZaC hi.typ ZbC ?_ (ZbN _))))
 unfold Builtin.«set_iterator.__next__»
 wp_walk
 rw[hdi]
 dsimp only
 refine YAF ?_
 dsimp only
 refine YAA (wpAny_setEntries_of ho hd hf ?_)
 (try dsimp only)
 rw[YAL (by simp)]
 refine YBp h (fun fin s' q=>?_) fun e s' q=>q
 obtain⟨v,rfl,q⟩:=q
 exact⟨v,rfl,YAF q⟩
theorem ZfQ {Q:Option Value->Shared->Prop}(hh:A.handled=none)(hQ:∀h',(∀b o,s.heap.get? b=some o->h'.get? b=some o)->Q none { s with heap:=h' }):
  wpAny (model prog w) A.in1 (do raiseNew (<-newExc (Value.type "StopIteration") [])) (NxQ prog w A Q E) (NxE prog w A Q E) s:=by
 refine YAA ?_
 simp only[newExc,newTuple]
 refine YAA (YCA ?_ (by size_fits))
 refine YAA (m:=firstArgMember _ _) (wpAny_of_eq (a:=Value.none) (by first | rfl | (simp only[firstArgMember];rfl)) ?_)
 refine YCA ?_ (by size_fits)
 simp only[raiseNew]
 refine YAA (wpAny_handled ?_)
 rw[show A.in1.handled=none from hh]
 refine YAA (YAF (wpAny_throw ?_))
 refine YAA (wpAny_isInstance (T:="StopIteration") (b:=true) ⟨_,YAO _ rfl,rfl⟩ isSubtype_stop ?_)
 exact YAF (hQ _ fun b o e=>YAC _ (YAC _ e))
theorem Zd4 {h:Heap} {v:Value} {k:Nat} {oi:Obj} {vs:Array Value} (hoi:h.get? I=some oi) (hci:oi.cls=.type "set_iterator") (hdi:oi.data=.fields vs):
  ∃o',(h.update I (Obj.mapFields (·.setIfInBounds k v))).get? I=some o'/\o'.cls=.type "set_iterator"/\o'.data=.fields (vs.setIfInBounds k v):=
 ⟨_,YBt _ hoi (Obj.isFreed_of_fields (Obj.data_mapFields hdi _)),(Obj.cls_mapFields ..).trans hci,Obj.data_mapFields hdi _⟩
theorem Zdn {slot:Nat}{Q:Option (Value×Nat)->Shared->Prop}(ho:s.heap.get? S=some o)(hd:o.data=.set es ep t)(hf:t.fits es.size=true)(hb:Zbb w=true)
  (h:Q (((pickOrder (w.params.setOrder S ep) es)[i]?).map fun e=>(e.2,slot)) s):wpAny (model prog w) A (setNext S slot i ep) Q E s:=by
 unfold setNext
 refine YAA (YCb ho hd hf ?_)
 dsimp only
 unfold setsByText
 refine YAA (YAA (YCg (YAF ?_)))
 show wpAny _ _ (if Zbb w=true then _ else _) _ _ _
 rw[hb,YAP rfl,YAL (by simp)]
 unfold setWalk
 refine YAA (YAA (YCb ho hd hf ?_))
 dsimp only
 unfold setsByText
 refine YAA (YAA (YCg (YAF ?_)))
 show wpAny _ _ (if Zbb w=true then _ else _) _ _ _
 rw[hb,YAP rfl]
 exact YAA (YCg (YAF (YAF h)))
theorem Zdo {slot:Nat}{Q:Option (Value×Nat)->Shared->Prop}(ho:s.heap.get? S=some o)(hd:o.data=.set es ep t)(hf:t.fits es.size=true)(hb:Zbb w=false)(hl:t.led=true)(h1:es.size<=1)
  (h:Q (match es[SetTable.below t.place slot]?,t.place[SetTable.below t.place slot]? with | some (_,x),some j=>some (x,j+1) | _,_=>none) s):wpAny (model prog w) A (setNext S slot i ep) Q E s:=by
 unfold setNext
 refine YAA (YCb ho hd hf ?_)
 dsimp only
 unfold setsByText
 refine YAA (YAA (YCg (YAF ?_)))
 show wpAny _ _ (if Zbb w=true then _ else (if (!t.plain&&decide (es.size>1))=true then _ else _)) _ _ _
 have hn:¬es.size>1:=by omega
 rw[hb,YAL YAD,decide_eq_false hn,YCw,YAL YAD]
 show wpAny _ _ ((if (!t.led&&!es.isEmpty)=true then (do let _ <-(unsupported "set:maker-not-led":Sem Unit);pure ()) else pure ()) >>= fun _=>_) _ _ _
 rw[hl,Bool.not_true,YBn,YAL YAD]
 exact YAA (YAF (YAF h))
end
theorem Ze1 {α:Type}{next:Nat->Nat}:∀(fuel k:Nat) (left:List α) (out:Array α),left.length=fuel->(pickOrder.go next fuel k left out).toList.Perm (out.toList++left)
 | 0,k,left,out,h=>by
  have e:left=[]:=YDI h
  subst e
  unfold pickOrder.go
  simp
 | fuel+1,k,left,out,h=>by
  have hlt:next k % left.length<left.length:=Nat.mod_lt _ (by omega)
  unfold pickOrder.go
  rw[YAG hlt]
  dsimp only
  refine(Ze1 fuel (k+1) _ _ (by rw[YDV hlt,h];rfl)).trans ?_
  rw[YBd,YAt]
  exact(ZcT left _ hlt).append_left _
theorem ZbE {α:Type}{next:Nat->Nat}{xs:Array α}:(pickOrder next xs).toList.Perm xs.toList:=by
 unfold pickOrder
 have:=Ze1 (next:=next) xs.size 0 xs.toList #[] (by simp)
 simpa using this
theorem ZbK:Slot "set_iterator" "__iter__" "set_iterator.__iter__":=
 .of (owner:="set_iterator") (n:="__iter__") (by rw[typeLookup_type,builtinLookup_eq_fast];kernel_rfl) (by decide +kernel) (by decide +kernel) (by decide +kernel) (by first | exact .inl (by decide +kernel) | exact .inr (by decide +kernel)) (by rw[isSubtype_type];kernel_rfl)
theorem ZcE:entryFor table "set_iterator.__iter__"=some Builtin.«dict_keyiterator.__iter__»:=entryFor_alias (id':="dict_keyiterator.__iter__") (by kernel_rfl) rfl (by decide +kernel) (by kernel_rfl)
theorem ZcX (a:Value):argsOk "set_iterator.__iter__" ⟨[a],[]⟩:=by unfold argsOk;kernel_rfl
section
variable {prog:Program}{w:World}{A:Around}{E:Q33}{s:Shared}{I S:Addr}{o:Obj}{es:Array (Int×Value)}{ep i n:Nat}{t:SetTable}
theorem ZdF {first:Value}{Q:Q33}(hi:SetIt s.heap I S first i n ep)(h:Q (.ref I) s):wpAny (model prog w) A (pyIter (.ref I)) Q E s:=by
 refine wpAny_pyIter_slot hi.typ ZbK (YCf ZbK hi.typ ZcE ?_ (ZcX _))
 show wpAny _ _ (ret (.ref I)) _ _ s
 exact YAF ⟨_,rfl,"set_iterator",_,hi.typ,ZaC.lookup,h⟩
theorem Zcc {h h':Heap}{o:Obj}(sb:Heap.SameBut I h h')(hne:S≠I)(ho:h.get? S=some o):h'.get? S=some o:=(sb.2 S hne).trans ho
theorem ZhM (hh:A.handled=none)(hne:S≠I)(hd:o.data=.set es ep t)(hf:t.fits es.size=true)(hb:Zbb w=true):
  Walks prog w A I [I,S] [I] es.size (fun i v=>(((pickOrder (w.params.setOrder S ep) es).toList).map (·.2))[i]?=some v) (fun i h=>SetIt h I S (.int ((0:Nat):Int) 0) i es.size ep/\h.get? S=some o) where
 sub:=fun b hb=>by simp at hb;simp[hb]
 frame:=fun i h h' ⟨⟨oi,h1,r⟩,h2⟩ hk=>⟨⟨oi,hk I (by simp) _ h1,r⟩,hk S (by simp) _ h2⟩
 item:=fun i s Q E hi ⟨st,ho⟩ hQ=>by
  have hl:(pickOrder (w.params.setOrder S ep) es).size=es.size:=by rw[<-YAS,ZbE.length_eq,YAS]
  have he:(pickOrder (w.params.setOrder S ep) es)[i]?=some (pickOrder (w.params.setOrder S ep) es)[i]:=by simp[hl,hi]
  refine Zcv st ho hd hf (YAA (Zdn ho hd hf hb ?_))
  rw[he]
  dsimp only[Option.map_some]
  obtain⟨oi,g1,g2,g3⟩:=id st
  refine YAA (YCJ g1 g3 (by simp) ?_)
  obtain⟨o1,k1,k2,k3⟩:=Zd4 (v:=rawInt ((0:Nat):Int)) (k:=0) g1 g2 g3
  refine YAA (YCJ k1 k3 (by simp) ?_)
  obtain⟨o2,m1,m2,m3⟩:=Zd4 (v:=rawInt ((i:Int)+1)) (k:=1) k1 k2 k3
  have sb:=(YAw s.heap I (Obj.mapFields (·.setIfInBounds 0 (rawInt ((0:Nat):Int))))).trans (YAw _ I (Obj.mapFields (·.setIfInBounds 1 (rawInt ((i:Int)+1)))))
  refine YAF ⟨_,rfl,hQ _ _ s.toks ?_ ⟨⟨o2,m1,m2,?_⟩,Zcc sb hne ho⟩ fun b o hb e=>(sb.2 b (by simpa using hb)).trans e⟩
  .rw[YAW,YAs,he];rfl
  .rw[m3];simp[rawInt]
 done:=fun s Q E ⟨st,ho⟩ hQ=>by
  have hl:(pickOrder (w.params.setOrder S ep) es).size=es.size:=by rw[<-YAS,ZbE.length_eq,YAS]
  have he:(pickOrder (w.params.setOrder S ep) es)[es.size]?=none:=by simp[hl]
  refine Zcv st ho hd hf (YAA (Zdn ho hd hf hb ?_))
  rw[he]
  dsimp only[Option.map_none]
  obtain⟨oi,g1,g2,g3⟩:=id st
  refine YAA (YCJ g1 g3 (by simp) ?_)
  have sb:=YAw s.heap I (Obj.mapFields (·.setIfInBounds 2 Value.none))
  exact ZfQ (A:=A) hh fun h' k=>hQ h' s.toks fun b o hb e=>k b o ((sb.2 b (by simpa using hb)).trans e)
 self:=fun i s Q E ⟨st,_⟩ hQ=>ZdF st hQ
noncomputable def ZcO (t:SetTable)(i:Nat):Nat:=if i=0 then 0 else t.place.getD 0 0+1
theorem ZhK {xs:Array Nat}:SetTable.below xs 0=0:=by
 unfold SetTable.below
 have all:∀fuel hi,SetTable.below.go xs 0 fuel 0 hi=0:=by
  intro fuel
  induction fuel with
  | zero=>intro hi;unfold SetTable.below.go;rfl
  | succ f ih=>
   intro hi
   unfold SetTable.below.go
   split
   .rw[YAL (Nat.not_lt_zero _)];exact ih _
   .rfl
 exact all _ _
theorem Zjn {j:Nat}:SetTable.below #[j] (j+1)=1:=by
 unfold SetTable.below
 show SetTable.below.go #[j] (j+1) 1 0 1=1
 unfold SetTable.below.go
 simp[SetTable.below.go]
theorem ZmY {xs:Array Nat}(h:xs.size=1):∃j,xs=#[j]:=by
 obtain⟨l⟩:=xs
 match l,h with
 | [j],_=>exact⟨j,rfl⟩
theorem ZhO (hh:A.handled=none)(hne:S≠I)(hd:o.data=.set es ep t)(hf:t.fits es.size=true)(hb:Zbb w=false)(hl:t.led=true)(h1:es.size<=1):
  Walks prog w A I [I,S] [I] es.size (fun i v=>(es.toList.map (·.2))[i]?=some v) (fun i h=>SetIt h I S (.int ((ZcO t i:Nat):Int) 0) i es.size ep/\h.get? S=some o) where
 sub:=fun b hb=>by simp at hb;simp[hb]
 frame:=fun i h h' ⟨⟨oi,h1,r⟩,h2⟩ hk=>⟨⟨oi,hk I (by simp) _ h1,r⟩,hk S (by simp) _ h2⟩
 item:=fun i s Q E hi ⟨st,ho⟩ hQ=>by
  have i0:i=0:=by omega
  subst i0
  have ps:t.place.size=es.size:=by
   have:=hf
   simp only[SetTable.fits,YAV,beq_iff_eq]at this
   exact this.1
  have he:es[0]?=some es[0]:=by simp[hi]
  have hp:t.place[0]?=some (t.place.getD 0 0):=by
   have:0<t.place.size:=by omega
   simp[this]
  refine Zcv st ho hd hf (YAA (Zdo ho hd hf hb hl h1 ?_))
  rw[show ZcO t 0=0 from rfl,ZhK,he,hp]
  dsimp only
  obtain⟨oi,g1,g2,g3⟩:=id st
  refine YAA (YCJ g1 g3 (by simp) ?_)
  obtain⟨o1,k1,k2,k3⟩:=Zd4 (v:=rawInt ((t.place.getD 0 0+1:Nat):Int)) (k:=0) g1 g2 g3
  refine YAA (YCJ k1 k3 (by simp) ?_)
  obtain⟨o2,m1,m2,m3⟩:=Zd4 (v:=rawInt (((0:Nat):Int)+1)) (k:=1) k1 k2 k3
  have sb:=(YAw s.heap I (Obj.mapFields (·.setIfInBounds 0 (rawInt ((t.place.getD 0 0+1:Nat):Int))))).trans (YAw _ I (Obj.mapFields (·.setIfInBounds 1 (rawInt (((0:Nat):Int)+1)))))
  refine YAF ⟨_,rfl,hQ _ _ s.toks ?_ ⟨⟨o2,m1,m2,?_⟩,Zcc sb hne ho⟩ fun b o hb e=>(sb.2 b (by simpa using hb)).trans e⟩
  .rw[YAW,YAs,he];rfl
  .rw[m3];simp[rawInt,ZcO]
 done:=fun s Q E ⟨st,ho⟩ hQ=>by
  have ps:t.place.size=es.size:=by
   have:=hf
   simp only[SetTable.fits,YAV,beq_iff_eq]at this
   exact this.1
  have hn:es[SetTable.below t.place (ZcO t es.size)]?=none:=by
   have hz:es.size=0\/es.size=1:=by omega
   rcases hz with z | z
   .simp[z]
   .have e1:∃j,t.place=#[j]:=by
     have:t.place.size=1:=by omega
     exact ZmY this
    obtain⟨j,ej⟩:=e1
    have:ZcO t es.size=j+1:=by unfold ZcO;rw[YAL (by omega),ej];rfl
    rw[this,ej,Zjn]
    simp[z]
  refine Zcv st ho hd hf (YAA (Zdo ho hd hf hb hl h1 ?_))
  rw[hn]
  dsimp only
  obtain⟨oi,g1,g2,g3⟩:=id st
  refine YAA (YCJ g1 g3 (by simp) ?_)
  have sb:=YAw s.heap I (Obj.mapFields (·.setIfInBounds 2 Value.none))
  exact ZfQ (A:=A) hh fun h' k=>hQ h' s.toks fun b o hb e=>k b o ((sb.2 b (by simpa using hb)).trans e)
 self:=fun i s Q E ⟨st,_⟩ hQ=>ZdF st hQ
theorem Zhq {p:Nat}{e:Int×Value}{Q:Q33}(ho:s.heap.get? S=some o)(hd:o.data=.set es ep t)(hf:t.fits es.size=true)(he:es[p]?=some e)(h:Q e.2 s):wpAny (model prog w) A (setNextDrawn S p ep) Q E s:=by
 unfold setNextDrawn
 refine YAA (YCb ho hd hf ?_)
 dsimp only
 rw[YAL (by simp),he]
 exact YAF h
theorem ZfJ {tp:Addr}{ps:Q11}(hh:A.handled=none)(hne:S≠I)(hnt:tp≠I)(hd:o.data=.set es ep t)(hf:t.fits es.size=true)(hp:ps.Perm (List.range es.size)):
  Walks prog w A I [I,S,tp] [I] es.size (fun i v=>(ps.map fun p=>(es.getD p (0,.none)).2)[i]?=some v) (fun i h=>SetIt h I S (.ref tp) i es.size ep/\h.get? S=some o/\h.get? tp=some { cls:=.type "tuple",data:=.seq (ps.map (fun i=>Value.int ((i:Nat):Int) 0)).toArray }) where
 sub:=fun b hb=>by simp at hb;simp[hb]
 frame:=fun i h h' ⟨⟨oi,h1,r⟩,h2,h3⟩ hk=>⟨⟨oi,hk I (by simp) _ h1,r⟩,hk S (by simp) _ h2,hk tp (by simp) _ h3⟩
 item:=fun i s Q E hi ⟨st,ho,ht⟩ hQ=>by
  have hl:ps.length=es.size:=by rw[hp.length_eq,YBD]
  have hi':i<ps.length:=by omega
  have hpi:ps[i]?=some ps[i]:=YAG hi'
  have hlt:ps[i]<es.size:=YAu.mp (hp.mem_iff.mp (YBw hi'))
  have he:es[ps[i]]?=some es[ps[i]]:=by simp[hlt]
  refine Zd0 st ho hd hf (YAA (wpAny_seqItems ht rfl ?_))
  dsimp only
  have hx:((ps.map (fun i=>Value.int ((i:Nat):Int) 0)).toArray)[i]?=some (Value.int ((ps[i]:Nat):Int) 0):=by simp[hpi]
  rw[hx]
  dsimp only
  refine YAA (Zhq ho hd hf he ?_)
  obtain⟨oi,g1,g2,g3⟩:=id st
  refine YAA (YCJ g1 g3 (by simp) ?_)
  obtain⟨o2,m1,m2,m3⟩:=Zd4 (v:=rawInt ((i:Int)+1)) (k:=1) g1 g2 g3
  have sb:=YAw s.heap I (Obj.mapFields (·.setIfInBounds 1 (rawInt ((i:Int)+1))))
  refine YAF ⟨_,rfl,hQ _ _ s.toks ?_ ⟨⟨o2,m1,m2,?_⟩,Zcc sb hne ho,Zcc sb hnt ht⟩ fun b o hb e=>(sb.2 b (by simpa using hb)).trans e⟩
  .rw[YAW,hpi];simp[hlt]
  .rw[m3];simp[rawInt]
 done:=fun s Q E ⟨st,ho,ht⟩ hQ=>by
  have hl:ps.length=es.size:=by rw[hp.length_eq,YBD]
  refine Zd0 st ho hd hf (YAA (wpAny_seqItems ht rfl ?_))
  dsimp only
  have hx:((ps.map (fun i=>Value.int ((i:Nat):Int) 0)).toArray)[es.size]?=none:=by simp[hl]
  rw[hx]
  dsimp only
  obtain⟨oi,g1,g2,g3⟩:=id st
  refine YAA (YCJ g1 g3 (by simp) ?_)
  obtain⟨o1,k1,k2,k3⟩:=Zd4 (v:=rawInt 0) (k:=0) g1 g2 g3
  refine YAA (YCJ k1 k3 (by simp) ?_)
  have sb:=(YAw s.heap I (Obj.mapFields (·.setIfInBounds 0 (rawInt 0)))).trans (YAw _ I (Obj.mapFields (·.setIfInBounds 2 Value.none)))
  exact ZfQ (A:=A) hh fun h' k=>hQ h' s.toks fun b o hb e=>k b o ((sb.2 b (by simpa using hb)).trans e)
 self:=fun i s Q E ⟨st,_⟩ hQ=>ZdF st hQ
end
theorem Zfl:typeLookup (.type "set") "__len__"=pure (some (.builtin "set.__len__")):=by rw[typeLookup_type,builtinLookup_eq_fast];kernel_rfl
section
variable {prog:Program}{w:World}{A:Around}{E:Q33}{s:Shared}
theorem Zg8 {es:Array (Int×Value)}{ps:Q11}(hp:ps.Perm (List.range es.size)):(ps.map fun p=>(es.getD p (0,.none)).2).Perm (es.toList.map (·.2)):=by
 have q:=hp.map (fun p=>(es.getD p (0,.none)).2)
 refine q.trans (.of_eq ?_)
 apply YBx
 .simp
 .intro n h1 h2
  have hn:n<es.size:=by simpa using h2
  simp[hn]
theorem Zhw {S:Addr}{ls:Q22}{Q:Q33}(hS:TxSet prog w s.heap S ls (!Zbb w))
  (h:∀(h2:Heap) (d:Drawn) (I:Addr) (fp:List Addr) (vs:List Value) (ms:Q22) (St:Nat->Heap->Prop),(∀A':Around,A'.handled=none->Walks prog w A' I fp [I] ls.length (fun i v=>vs[i]?=some v) St)->St 0 h2 ->
   (∀b∈fp,b=S\/s.heap.objs.size<=b)->s.heap.objs.size<=I->(∀b o,s.heap.get? b=some o->h2.get? b=some o)->ms.Perm ls->Vals (ms.map tx) vs->Q (.ref I) { s with heap:=h2,drawn:=d }):
  wpAny (model prog w) A (pyIter (.ref S)) Q E s:=by
 obtain⟨o,es,ep,t,ms,ho,hex,hd,hel,hf,hled,hpl,hp,hv,hb⟩:=hS
 have hlen:es.size=ls.length:=by
  have q:=hv.length
  rw[YAB,YAB]at q
  rw[<-YAS,<-q,hp.length_eq]
 have hlt:=YAN ho
 refine Zj1 ho hex hd hf (fits_of_scanBound hb) (fun hc=>?_) fun ps d pp=>?_
 .have nI:S≠s.heap.objs.size:=YAd hlt
  have st:(s.heap.push ({ cls:=.type "set_iterator",data:=.fields #[.int 0 0,.int 0 0,.ref S,.int es.size 0,.int ep 0] }:Obj)).get? s.heap.objs.size=some { cls:=.type "set_iterator",data:=.fields #[.int 0 0,.int 0 0,.ref S,.int es.size 0,.int ep 0] }:=YAO _ rfl
  have fp:∀b∈[s.heap.objs.size,S],b=S\/s.heap.objs.size<=b:=fun b hb=>by
   rcases YAU.mp hb with z | z
   .exact .inr (YCS z.symm)
   .exact .inl (by simpa using z)
  cases hby:Zbb w with
  | true=>
   obtain⟨ms',p',r'⟩:=Zdi ((ZbE (next:=w.params.setOrder S ep) (xs:=es)).map (·.2)) hv
   have W:∀A':Around,A'.handled=none->_:=fun A' hA=>ZhM (prog:=prog) (w:=w) (A:=A') (I:=s.heap.objs.size) (S:=S) (o:=o) hA nI hd hf hby
   rw[hlen]at W
   exact h _ s.drawn _ _ _ ms' _ W ⟨⟨_,st,rfl,by rw[hlen];rfl⟩,YAC _ ho⟩ fp (YAH _) (fun b o e=>YAC _ e) (p'.trans hp) r'
  | false=>
   have h1:es.size<=1:=by
    rcases hc with z | z | z
    .rw[hby]at z;cases z
    .rw[hpl z];exact YAq _
    .exact z
   have hl:t.led=true:=by rw[hled,hby];rfl
   have W:∀A':Around,A'.handled=none->_:=fun A' hA=>ZhO (prog:=prog) (w:=w) (A:=A') (I:=s.heap.objs.size) (S:=S) (o:=o) hA nI hd hf hby hl h1
   rw[hlen]at W
   exact h _ s.drawn _ _ _ ms _ W ⟨⟨_,st,rfl,by rw[hlen];rfl⟩,YAC _ ho⟩ fp (YAH _) (fun b o e=>YAC _ e) hp hv
 .have nI:S≠s.heap.objs.size+1:=YAd (YCc hlt)
  have nT:s.heap.objs.size≠s.heap.objs.size+1:=YAd (YDF _)
  obtain⟨ms',p',r'⟩:=Zdi (Zg8 pp) hv
  have W:∀A':Around,A'.handled=none->_:=fun A' hA=>ZfJ (prog:=prog) (w:=w) (A:=A') (I:=s.heap.objs.size+1) (S:=S) (o:=o) (tp:=s.heap.objs.size) hA nI nT hd hf pp
  rw[hlen]at W
  refine h _ d _ _ _ ms' _ W ⟨⟨{ cls:=.type "set_iterator",data:=.fields #[.ref s.heap.objs.size,.int 0 0,.ref S,.int es.size 0,.int ep 0] },?_,rfl,by rw[hlen];rfl⟩,YAC _ (YAC _ ho),YAC _ (YAO _ rfl)⟩ ?_ (YCi _) (fun b o e=>YAC _ (YAC _ e)) (p'.trans hp) r'
  .rw[<-YBb];exact YAO _ rfl
  .intro b hb
   rcases YAU.mp hb with z | z
   .exact .inr (by rw[z];exact YCi _)
   .rcases YAU.mp z with z | z
    .exact .inl z
    .have z:b=s.heap.objs.size:=by simpa using z
     exact .inr (YCS z.symm)
theorem ZdK {S:Addr}{ls:Q22}{Q:List Value->Shared->Prop}(hh:A.handled=none)(hS:TxSet prog w s.heap S ls (!Zbb w))(hn:ls.length<=sizeLine)
  (hQ:∀(s':Shared) (vs:List Value) (ms:Q22),(∀b o,s.heap.get? b=some o->s'.heap.get? b=some o)->s'.gens=s.gens->s'.os=s.os->ms.Perm ls->Vals (ms.map tx) vs->Q vs s'):wpAny (model prog w) A (collect (.ref S)) Q E s:=by
 unfold collect
 refine YAA (wpAny_runValue (codeAny_builtin F.entry_proto_collect ?_))
 rw[YBT F.plain_proto_collect _]
 show wpAny _ A.in1 (newList [] >>= fun l=>again (.builtin "list.__iadd__" ⟨[l,.ref S],[]⟩)) _ _ s
 refine YAA (YCA (YAF ⟨plainId_quiet YDc _,codeAny_builtin F.entry_list_iadd ?_⟩))
 rw[YBT YDc _]
 generalize hH:s.heap.push { cls:=.type "list",data:=.seq ([]:List Value).toArray }=H
 have hHs:H.objs.size=s.heap.objs.size+1:=by rw[<-hH,YBb]
 have hL:H.get? s.heap.objs.size=some { cls:=.type "list",data:=.seq ([]:List Value).toArray }:=hH▸YAO _ rfl
 have k1:∀b o,s.heap.get? b=some o->H.get? b=some o:=fun b o e=>hH▸YAC _ e
 have hS1:TxSet prog w H S ls (!Zbb w):=hS.keep fun o e=>k1 S o e
 have hT:Shared.TypeIs { s with heap:=H } (.ref S) "set":=hS1.typ (s:={ s with heap:=H })
 have nS:S≠s.heap.objs.size:=by
  obtain⟨o,_,_,_,_,ho,_⟩:=hS
  exact YAd (YAN ho)
 show wpAny _ A.in1 (Builtin.List.listExtendWith (.ref s.heap.objs.size) (.ref S) (.ref s.heap.objs.size)) _ _ { s with heap:=H }
 unfold Builtin.List.listExtendWith
 refine YAA (YCx hT ?_)
 have h1:Builtin.List.listSameRef (.ref s.heap.objs.size) (.ref S)=false:=by simp[Builtin.List.listSameRef,YAv nS]
 have h2:(Value.type "set" == Value.type "list")=false:=by decide
 have h3:(Value.type "set" == Value.type "tuple")=false:=by decide
 simp only[h1,h2,h3,Bool.or_false,YCX,if_false]
 refine YAA (Zhw (s:={ s with heap:=H }) hS1 fun h2' d I fp vs ms St W st hfp hI k2 hp hv=>?_)
 have hT2:Shared.TypeIs { s with heap:=h2',drawn:=d } (.ref S) "set":=(hS1.keep fun o e=>k2 S o e).typ (s:={ s with heap:=h2',drawn:=d })
 refine YAA (YBM ?_)
 unfold Builtin.List.listLengthHint
 refine YAA (YDO hT2 Zfl ?_)
 wp_delta
 refine YAA (wpAny_isInstance (T:="set") (v:=.ref S) (b:=true) hT2 (by rw[isSubtype_type];kernel_rfl) ?_)
 show wpAny _ A.in1 (typeOf (Value.ref S) >>= fun r=>_) _ _ _
 refine YAA (YCx hT2 ?_)
 refine YAF ?_
 rw[YAP (by decide)]
 refine YAA (YCI ?_)
 have hL2:h2'.get? s.heap.objs.size=some { cls:=.type "list",data:=.seq ([]:List Value).toArray }:=k2 _ _ hL
 refine YAA ?_
 show wpAny _ A.in1 (updateSeq s.heap.objs.size (·.push .none) >>= fun _=>updateSeq s.heap.objs.size (·.pop)) _ _ _
 refine YAA (YDN hL2 rfl ?_)
 have hL3:=YBt (Obj.mapSeq (·.push Value.none)) hL2 rfl
 refine YDN hL3 rfl ?_
 have hL4:=YBt (Obj.mapSeq (·.pop)) hL3 rfl
 have oth:∀b o,b≠s.heap.objs.size->h2'.get? b=some o->((h2'.update s.heap.objs.size (Obj.mapSeq (·.push Value.none))).update s.heap.objs.size (Obj.mapSeq (·.pop))).get? b=some o:=
  fun b o hb e=>(YCH _ _ (YAv hb)).trans ((YCH _ _ (YAv hb)).trans e)
 have hle:s.heap.objs.size+1<=I:=by rw[<-hHs];exact hI
 have hSf:s.heap.objs.size∉fp:=fun z=>by
  rcases hfp _ z with q | q
  .exact nS q.symm
  .have q':H.objs.size<=s.heap.objs.size:=q
   rw[hHs]at q';exact absurd q' (Nat.not_succ_le_self _)
 refine YAF ⟨plainId_quiet F.plain_extend_loop _,codeAny_extend_loopS (W A.in1 hh).toS hn _ hSf _ ls.length 0 _ _ _ rfl (YAq _) ((W A.in1 hh).frame 0 h2' _ st fun b hb o e=>oth b o (fun z=>hSf (z▸hb)) e) hL4 (ItemsOf.nil _) fun s' acc' c' hm hS' hacc=>?_⟩
 show wpAny _ A (load s.heap.objs.size >>= fun r=>_) _ _ s'
 refine YAA (wpAny_load hS' ?_)
 have hvs:acc'.toList=vs:=by
  have hl:vs.length=ls.length:=by rw[<-hv.length,YAB,hp.length_eq]
  apply YCC
  intro j
  rw[YAs]
  by_cases hj:j<ls.length
  .have hj':j<acc'.size:=by rw[hacc.1];exact hj
   have e:acc'[j]?=some acc'[j]:=by simp[hj']
   rw[e,hacc.2 j _ e]
  .rw[Array.getElem?_eq_none (by rw[hacc.1];omega),YBG (by omega)]
 have done:=hQ s' vs ms (fun b o e=>by
  have hlt:=YAN e
  refine hm.heap b o (fun z=>?_) (oth b o (YAd hlt) (k2 b o (k1 b o e)))
  rcases YAU.mp z with q | q
  .rw[q]at hlt;exact YAz _ hlt
  .have q:b=I:=by simpa using q
   rw[q]at hlt
   exact absurd hlt (YCu.mpr (Nat.le_of_succ_le hle))) hm.gens hm.os hp hv
 rw[<-hvs]at done
 exact YAF done
end
noncomputable def leT (a b:Q11):Bool:=!decide (b<a)
noncomputable def ZbJ (ls:Q22):Q22:=ls.mergeSort leT
theorem ZbG {a b:Q11}:leT a b=true↔a<=b:=by
 unfold leT
 rw[Bool.not_eq_true',decide_eq_false_iff_not]
 exact List.not_lt
theorem Za1 (ls:Q22):(ZbJ ls).Perm ls:=List.mergeSort_perm _ _
theorem ZbB (ls:Q22):(ZbJ ls).Pairwise (fun a b=>leT a b=true):=
 List.pairwise_mergeSort (le:=leT) (fun a b c h1 h2=>ZbG.mpr (List.le_trans (ZbG.mp h1) (ZbG.mp h2))) (fun a b=>Bool.or_eq_true_iff.mpr ((List.le_total a b).imp ZbG.mpr ZbG.mpr)) ls
theorem Zb7 {ms ls:Q22}(p:ms.Perm ls)(h:ms.Pairwise (fun a b=>leT a b=true)):ms=ZbJ ls:=
 List.Perm.eq_of_pairwise (fun a b _ _ h1 h2=>List.le_antisymm (ZbG.mp h1) (ZbG.mp h2)) h (ZbB ls) (p.trans (Za1 ls).symm)
theorem Zdl {ms ls:Q22}(p:ms.Perm ls):ZbJ ms=ZbJ ls:=Zb7 ((Za1 ms).trans p) (ZbB ms)
theorem ZfP:∀ {us:List Value} {ss:List Str},StrsAre us ss->Vals ((ss.map fun x=>x.cps.toList).map tx) us
 | _,_,.nil=>.nil
 | _,_,.cons x t h=>.cons ⟨t,rfl⟩ (ZfP h)
theorem Zcr:∀ {ss:List Str},sortedS ss=true->(ss.map fun x=>x.cps.toList).Pairwise (fun a b=>leT a b=true):=by
 have ris:∀(p:Str) (l:List Str),risingS p l=true->((p::l).map fun x=>x.cps.toList).Pairwise (fun a b=>leT a b=true):=by
  intro p l
  induction l generalizing p with
  | nil=>intro _;simp
  | cons x r ih=>
   intro h
   have h':(!ltCps x.cps.toList p.cps.toList&&risingS x r)=true:=h
   rw[YAV,ltCps_eq]at h'
   have q:=ih x h'.2
   rw[YAr,YBU]
   refine⟨fun b hb=>?_,q⟩
   have hx:leT p.cps.toList x.cps.toList=true:=h'.1
   rw[YAr]at hb q
   rcases YAU.mp hb with z | z
   .rw[z];exact hx
   .exact ZbG.mpr (List.le_trans (ZbG.mp hx) (ZbG.mp ((YBU.mp q).1 b z)))
 intro ss h
 cases ss with
 | nil=>simp
 | cons x r=>exact ris x r h
theorem ZeS {us:List Value}{ls:Q22}(r:Vals (ls.map tx) us):StrsAre us (ls.map fun l=>(⟨l.toArray⟩:Str)):=ZcM r
theorem Zg6 (ls:Q22):(ls.map fun l=>(⟨l.toArray⟩:Str)).map (fun x=>x.cps.toList)=ls:=by
 rw[YBB]
 conv=>rhs;rw[<-List.map_id ls]
 apply YCj
 intro l _
 simp
section
variable {prog:Program}{w:World}{A:Around}{E:Q33}{s:Shared}
theorem Zh2 {vs:List Value}{ms:Q22}{Q:Q33}(hv:Vals (ms.map tx) vs)(h64:ms.length<64)
  (h:∀(h':Heap) (us:List Value) (e:Nat),(∀b o,s.heap.get? b=some o->h'.get? b=some o)->h'.get? s.heap.objs.size=some { cls:=.type "list",data:=.seq us.toArray e }->Vals ((ZbJ ms).map tx) us->Q (.ref s.heap.objs.size) { s with heap:=h' }):
  wpAny (model prog w) A (do let l <-newList vs;let _ <-holding [l] (call (.builtin "list.sort") [l] []);ret l) (fun fin s'=>∃v,fin=Fin.done (Flow.ret v)/\Q v s') E s:=by
 have hS:=ZeS hv
 have hlen:vs.length<64:=by rw[<-hv.length,YAB];exact h64
 refine YAA (YDL ?_ ?_)
 .have hoL:(s.heap.push (seqObj "list" vs.toArray 0)).get? s.heap.objs.size=some (seqObj "list" vs.toArray 0):=YAO _ rfl
  refine YAA (YBM (YCf slot_list_sort ⟨_,hoL,rfl⟩ entry_list_sort (list_sort_treeK strKind_oneLt hoL hS.keysOf (fun v9 v_2 rest e=>keyKind_strs (by rw[<-e];exact hS)) hlen fun st' a1 a2=>⟨_,rfl,?_⟩) (args_list_sort _)))
  obtain⟨ss',b1,b2,b3⟩:=sorted_out_str hS a1 a2
  obtain⟨e,he⟩:=sortedHeap_at (out:=(arrOf st').map (·.2)) hoL
  refine YAF ⟨_,rfl,h _ ((arrOf st').map (·.2)).toList e (fun b o q=>?_) ?_ ?_⟩
  .have hlt:=YAN q
   have hlt':b<(s.heap.push (seqObj "list" vs.toArray 0)).objs.size:=by rw[YBb];exact YCc hlt
   exact(sortedHeap_old (YAd hlt) hlt').trans (YAC _ q)
  .have q:((arrOf st').map (·.2)).toList.toArray=(arrOf st').map (·.2):=YCN
   rw[q];exact he
  .have p1:(ss'.map fun x=>x.cps.toList).Perm ms:=by
    have:=b2.map (fun x:Str=>x.cps.toList)
    rwa [Zg6]at this
   have e1:=Zb7 p1 (Zcr b3)
   rw[<-e1]
   exact ZfP b1
 .exact YAJ (YCk hlen) (by rw[sizeLine_eq];decide)
theorem Zhb {S:Addr}{ls:Q22}{Q:Q33}(hh:A.handled=none)(hS:TxSet prog w s.heap S ls (!Zbb w))(h64:ls.length<64)
  (h:∀(s':Shared) (a:Addr) (us:List Value) (e:Nat),s.heap.get? a=none->(∀b o,s.heap.get? b=some o->s'.heap.get? b=some o)->s'.gens=s.gens->s'.os=s.os->s'.heap.get? a=some { cls:=.type "list",data:=.seq us.toArray e }->Vals ((ZbJ ls).map tx) us->Q (.ref a) s'):
  wpAny (model prog w) A (call (.builtin "sorted") [.ref S]) Q E s:=by
 refine Calls.call_function_entry kind_sorted plain_sorted entry_sorted (args_sorted1 _) ?_
 unfold Builtin.«sorted»
 refine YAA (m:=checkCount "sorted" 1 1 _) (YAF ?_)
 refine YAA (ZdK (by first | exact hh | simpa using hh) hS (YAJ (YCk h64) (by rw[sizeLine_eq];decide)) fun s' vs ms k1 hg ho hp hv=>?_)
 have hl:ms.length<64:=by rw[hp.length_eq];exact h64
 refine Zh2 hv hl fun h' us e k2 he r=>?_
 rw[Zdl hp]at r
 exact h _ _ us e (by
  cases q:s.heap.get? s'.heap.objs.size with
  | none=>rfl
  | some o=>exact absurd (YAN (k1 _ _ q)) (YAz _)) (fun b o q=>k2 b o (k1 b o q)) hg ho he r
end
section
variable {M:Model}{A:Around}{E:Q33}{s:Shared}{B:Heap}{env:Env}{outer:List Env}{L e:Addr}{C:Value}{d:Option Addr}{Q:Unit->Shared->Prop}
end
open PySem.W (Frag findIn typeIn mroIn clsIn InstAt Looks)
noncomputable def xr (a C:Addr)(d:Option Addr):HO:=.ext fun h=>∃(o:Obj) (vs:Array Value),h.get? a=some o/\o.cls=.ref C/\o.dict=d/\o.data=.fields vs
inductive XAny (H:Hp) (e C:Addr):List (Str×V)->Prop where
 | un {fs:List (Str×V)}:XAt H e C fs->XAny H e C fs
 | bare:H e=some (xr e C none)->XAny H e C []
 | full {d:Addr} {fs:List (Str×V)}:H e=some (xr e C (some d))->H d=some (xdO d fs)->d≠e->XAny H e C fs
section
variable {M:Model}{A:Around}{E:Q33}{s:Shared}{env:Env}
end
section
variable {P:Program}{w:World}{K:Frag}{mg:Str->Option Value}{base:Heap}
end
abbrev TX:=St->Hp->VK->XK->Prop
abbrev TSx:=Ends->(St->XK)->St->Hp->Prop
section
variable {X:Cx}{CX:CXT}{k:Nat}{f C:Addr}{fd:FuncData}{ps:List Str}{sp:Sp}{dvs:List V}{ds:List Value}{x m:Str}{p pos apos:Pos}{e o:Expr}{es:List Expr}{ta:TE}{t:TA}
end
section
variable {X:Cx}{pins:List (Addr×Obj)}{U:St}{H H':Hp}{s s1:Shared}{e C:Addr}{d:Option Addr}{h1 h5 B:Heap}
end
noncomputable def sux (X:Cx)(e:Addr):Cx:={ X with A:=X.A.mark (some (.ref e)),calm:=false,xe:=fun _ _=>False }
section
variable {X:Cx}{pins:List (Addr×Obj)}{U:St}{H:Hp}{s:Shared}{e:Addr}
end
abbrev TH:=Addr->Addr->Ends->St->Hp->Prop
section
variable {X:Cx}{x n:Str}{np pos:Pos}{b0:Stmt}{suite:List Stmt}{rest:List ExceptHandler}{ts:TS}{tr:TH}{C0:Addr}{i:Nat}
end
open PySem.W (Frag findIn specialIn typeIn mroIn clsIn subIn kitOne kitCls InstAt Looks)
section
variable {X:Cx}{pins:List (Addr×Obj)}{U:St}{H:Hp}{s:Shared}{e C:Addr}{fs:List (Str×V)}{f:Str}{v:V}{A:Around}{E:Q33}
theorem Zkp {d:Option Addr}(I:Inv X pins U H s)(h:H e=some (xr e C d)):∃(o:Obj) (vs:Array Value),s.heap.get? e=some o/\o.cls=.ref C/\o.dict=d/\o.data=.fields vs:=(I.hok e _ h).1
theorem XAny.inst (I:Inv X pins U H s)(x:XAny H e C fs):∃(ox:Obj) (od:Option Obj),InstAt s.heap e ox C od/\∀name,∃r,(match od with | some o=>PySem.W.lookIn name o | none=>some none)=some r/\RelO (fs.lookup name) r:=by
 cases x with
 | un h=>exact h.inst I
 | bare h=>
  obtain⟨o,vs,h1,h2,h3,h4⟩:=Zkp I h
  exact⟨o,none,⟨h1,h2,by unfold PySem.W.notCls;rw[h4],by rw[h3];trivial⟩,fun name=>⟨none,rfl,by trivial⟩⟩
 | @full d _ h h' hne=>
  obtain⟨o,vs,h1,h2,h3,h4⟩:=Zkp I h
  obtain⟨⟨_,mA,hn,hr,_⟩,_⟩:=I.hok d _ h'
  obtain⟨od,hod,hl⟩:=ZdA hn
  exact⟨o,some od,⟨h1,h2,by unfold PySem.W.notCls;rw[h4],by rw[h3];exact hod⟩,fun name=>⟨mA name,hl name,hr name⟩⟩
end
inductive TyR (K:Frag) (H:Hp):V->Value->Prop where
 | ty {x:V} {t:Value} (h:TyX K H x t):TyR K H x t
 | exc {e C:Addr} {fs:List (Str×V)} (x:XAny H e C fs) (i:Xi K C):TyR K H (.ref e) (.ref C)
theorem Zb5 {X:Cx}{K:Frag}(hK:X.K=K):ZbU X (.builtin "isinstance") (fun xs H Q=>∃x c t k b,xs=[x,c]/\clsV c=some k/\TyR K H x t/\kitOne K t k=some b/\Q (.bl b) H):=by
 subst hK
 rintro pins s U H xs us Q I r ⟨x,c,t,k,b,rfl,hk,ty,e,q⟩
 cases ty with
 | ty h=>exact Zgh pins s U H _ us Q I r ⟨x,c,t,k,b,rfl,hk,h,e,q⟩
 | exc xa i=>
  obtain⟨u,v,rfl,ru,rv⟩:=r.two
  have hv:v=k:=by
   cases c with
   | ref a=>cases hk;exact rv
   | ty n=>cases hk;exact rv
   | _=>cases hk
  subst hv
  cases ru
  obtain⟨ox,od,J,_⟩:=xa.inst I
  exact YBK (ZgP i) I.kIn J e (fun z=>nomatch z) fun tk=>⟨.bl b,H,I.tok _,rfl,q⟩
open PySem.W (Frag)
theorem ObjOk.there {P:Program}{w:World}{H:Hp}{h:Heap}{a:Addr}:∀ {o:HO},ObjOk P w H h a o->∃u,h.get? a=some u
 | .lst _,x=>by obtain⟨_,_,_,_,e⟩:=x;exact⟨_,e⟩
 | .tup _,x=>by obtain⟨_,_,_,ob,e,_⟩:=x;exact⟨_,e⟩
 | .dK _,x=>by obtain⟨_,_,_,_,ob,_,_,e,_⟩:=x;exact⟨_,e⟩
 | .dT _,x=>by obtain⟨_,_,_,_,ob,_,_,e,_⟩:=x;exact⟨_,e⟩
 | .set _ _,x=>by obtain⟨ob,_,_,_,e,_⟩:=x;exact⟨_,e⟩
 | .ins _ _ _,x=>by obtain⟨_,_,_,e,_⟩:=x;exact⟨_,e⟩
 | .own _,x=>x
 | .xd _,x=>by obtain⟨_,⟨ob,_,_,e,_⟩,_⟩:=x;exact⟨_,e⟩
 | .met _ _,x=>⟨_,x⟩
 | .rng _ _,x=>by obtain⟨_,_,_,e⟩:=x;exact⟨_,e⟩
 | .frz _ _,x=>⟨_,x.1⟩
 | .tbl _,x=>⟨_,x⟩
 | .ext _,x=>x.2.1
theorem HOk.none_of {P:Program}{w:World}{H:Hp}{h:Heap}{a:Addr}(ok:HOk P w H h)(n:h.get? a=none):H a=none:=by
 cases q:H a with
 | none=>rfl
 | some o=>
  obtain⟨u,hu⟩:=(ok a o q).there
  rw[n]at hu
  cases hu
theorem Inv.laid2 {X:Cx}{pins:List (Addr×Obj)}{U:St}{H:Hp}{s s':Shared}{a:Addr}{o:HO}(I:Inv X pins U H s)(os:s'.os=s.os)(hg:s'.gens=s.gens)(k:∀b u,s.heap.get? b=some u->s'.heap.get? b=some u)(nw:s.heap.get? a=none)
  (new:ObjOk X.prog X.w (upd H a o) s'.heap a o):Inv X pins U (upd H a o) s':=by
 have hn:=I.hok.none_of nw
 have ne:∀b u,s.heap.get? b=some u->b≠a:=fun b u q z=>by rw[z,nw]at q;cases q
 have neH:∀b u,H b=some u->b≠a:=fun b u q=>Zah q hn
 refine I.call' (ch:=[]) os ⟨fun b u q _ _ _=>k b u q,fun b u q _ _ _=>⟨u.slots,k b u q⟩,fun b u q n _=>by rw[Zac (ne b u q)];exact n,fun b u q _=>⟨u,k b u q⟩,fun b xs q=>by rw[Zac (neH b _ q)];exact q,fun b u v q=>by rw[Zac (neH b _ q)];exact q,fun b ps q=>⟨#[],by rw[Zac (neH b _ q),Array.append_empty];exact q⟩⟩
  (fun b u q=>?_) (by rw[hg];exact I.bare) (fun b hb=>by cases hb)
 by_cases hb:b=a
 .subst hb
  rw[Zad]at q
  cases q
  exact new
 .rw[Zac hb]at q
  exact(I.hok b u q).stay (fun c w' _ q=>k c w' q) (fun c q=>by rw[Zac (neH c _ q)];exact q) fun c xs q=>by rw[Zac (neH c _ q)];exact q
section
variable {X:Cx}
noncomputable def signs (l:Q11):Q22:=l.map fun c=>[c]
theorem Zf8 {l:Q11}{acc:Array Value}(h:ItemsOf (SignAt ⟨l.toArray⟩) acc (⟨l.toArray⟩:Str).cps.size):Vals ((signs l).map tx) acc.toList:=by
 obtain⟨h1,h2⟩:=h
 have hl:(⟨l.toArray⟩:Str).cps.size=l.length:=by show l.toArray.size=_;simp
 rw[hl]at h1
 have gen:∀(l:Q11) (us:List Value),us.length=l.length->(∀(j:Nat) (v:Value),us[j]?=some v->∃(c:Nat) (u:Tok),l[j]?=some c/\v=Value.str ⟨#[c]⟩ u)->Vals ((signs l).map tx) us:=by
  intro l
  induction l with
  | nil=>
   intro us hl _
   have:us=[]:=YDI hl
   subst this
   exact .nil
  | cons c l ih=>
   intro us hl h
   cases us with
   | nil=>cases hl
   | cons u us=>
    obtain⟨c',t,e,rfl⟩:=h 0 u rfl
    cases e
    refine .cons ⟨t,rfl⟩ (ih us (by simpa using hl) fun j v e=>h (j+1) v e)
 refine gen l acc.toList (by rw[YAS,h1]) fun j v e=>?_
 rw[YAs]at e
 obtain⟨c,u,e1,e2⟩:=h2 j v e
 exact⟨c,u,by simpa using e1,e2⟩
theorem Zc3 (hc:X.calm=true):ZbU X (.type "list") (fun xs H Q=>∃l,xs=[tx l]/\l.length<=1000/\NewL ((signs l).map tx) H Q):=by
 rintro pins s U H xs us Q I r ⟨l,rfl,hz,q⟩
 obtain⟨u,rfl,t,rfl⟩:=r.one
 have hl:(⟨l.toArray⟩:Str).cps.size=l.length:=by show l.toArray.size=_;simp
 refine call_list_str (I.ok.hd hc) _ t (fun h' tk acc c k e it=>?_) (by rw[hl];exact YCk (Zdm hz))
 refine⟨.ref s.heap.objs.size,_,I.laid (t':=tk) k (YAH _) ?_,rfl,q _ I.fresh⟩
 exact⟨by unfold signs;rw[YAB,YAB];exact YCk (Zdm hz),acc.toList,c,Zf8 it,by rw[YCN];exact e⟩
theorem ZdM (hc:X.calm=true):ZbU X (.builtin "all") (fun xs H Q=>∃(a:Addr) (bs:List Bool),xs=[.ref a]/\H a=some (.lst (bs.map V.bl))/\Q (.bl (bs.all id)) H):=by
 rintro pins s U H xs us Q I r ⟨a,bs,rfl,ha,q⟩
 obtain⟨u,rfl,ru⟩:=r.one
 cases ru
 obtain⟨_,its,n,r',hlen,e⟩:=I.lstM ha
 have hl:s.heap.IsList a its.toArray:=PySem.IsL.isList e
 have hne:a≠s.heap.objs.size:=YAd (YAN e)
 refine call_all_walkS (YCt hl ?_)
 have hL:its.toArray.size=bs.length:=by rw[YAM,<-r'.length,YAB]
 have W:=(Walks.list (prog:=X.prog) (w:=X.w) (A:=X.A.in1) (by simpa using I.ok.hd hc) s.heap.objs.size a hne its.toArray).toS
 refine⟨s.heap.objs.size,_,_,_,_,_,_,fun i=>bs.getD i true,rfl,W,⟨⟨_,YAO _ rfl,rfl,rfl⟩,hl.push _⟩,?_,fun s' hm=>?_⟩
 .intro i v s Q E hv hQ
  have e':its[i]?=some v:=by simpa using hv
  obtain⟨x,hx,rx⟩:=ZfN r' e'
  rw[YAW]at hx
  cases hb:bs[i]? with
  | none=>rw[hb]at hx;cases hx
  | some b=>
   rw[hb]at hx
   cases hx
   obtain rfl:v=Value.bool b:=rx
   have:bs.getD i true=b:=by rw[YAI,hb];rfl
   have hQ':Q (bs.getD i true) s:=hQ
   rw[this]at hQ'
   exact YBc hQ'
 .have ea:(List.range its.toArray.size).all (fun i=>bs.getD i true)=bs.all id:=by
   rw[hL]
   rw[YBR,YBQ,YBQ]
   constructor
   .intro h b hb
    obtain⟨i,hi,rfl⟩:=YBZ hb
    have:=h i (YAu.mpr hi)
    rw[YAI,YAG hi]at this
    exact this
   .intro h i hi
    have hi:=YAu.mp hi
    rw[YAI,YAG hi]
    exact h _ (YBw hi)
  rw[ea]
  have I2:Inv X pins U H s':=I.call' (ch:=[]) hm.os (Un.kept fun b o q=>hm.heap b o (fun z=>?_) (YAC _ q)) (I.hok.kept fun b o q=>hm.heap b o (fun z=>?_) (YAC _ q)) (by rw[show s'.gens=s.gens from hm.gens];exact I.bare) (fun b hb=>by cases hb)
  .exact⟨.bl _,H,I2,rfl,q⟩
  .have z:b=s.heap.objs.size:=by simpa using z
   rw[z]at q;exact absurd (YAN q) (YAz _)
  .have z:b=s.heap.objs.size:=by simpa using z
   rw[z]at q;exact absurd (YAN q) (YAz _)
noncomputable def tset (P:Program)(w:World)(a:Addr)(ls:Q22):HO:=.ext fun h=>TxSet P w h a ls (!Zbb w)
theorem ZkZ {P:Program}{w:World}{H:Hp}{h:Heap}{a:Addr}{ls:Q22}(x:TxSet P w h a ls (!Zbb w)):ObjOk P w H h a (tset P w a ls):=by
 obtain⟨o,es,ep,t,ms,h1,r⟩:=id x
 exact⟨x,⟨o,h1⟩,fun g1 g2 y k=>y.keep k⟩
noncomputable def ddl (ls:Q22):Q22:=ls.foldl addT []
theorem ZeG {ls:Q22}:dd (fun i=>ls.getD i []) ls.length=ddl ls:=by
 unfold dd ddl
 congr 1
 apply YBx
 .simp
 .intro n h1 h2
  simp[h2]
theorem Zcp (hc:X.calm=true):ZbU X (.type "set") (fun xs H Q=>∃ls:Q22,ls.length<=1000/\((∃l,xs=[tx l]/\ls=signs l)\/∃a,xs=[.ref a]/\SqL X.K H a (ls.map tx))/\∀p,H p=none->Q (.ref p) (upd H p (tset X.prog X.w p (ddl ls)))):=by
 rintro pins s U H xs us Q I r ⟨ls,hz,hx,q⟩
 have hb:ls.length+1<scanBound:=by show _<4096;omega
 have fin:∀(h':Heap) (tk:Nat),TxSet X.prog X.w h' s.heap.objs.size (ddl ls) (!Zbb X.w)->(∀b o,s.heap.get? b=some o->h'.get? b=some o)->EP X pins U Q (.ref s.heap.objs.size) { s with heap:=h',toks:=tk }:=fun h' tk hS k=>
  ⟨.ref s.heap.objs.size,_,I.laid (t':=tk) k (YAH _) (ZkZ hS),rfl,q _ I.fresh⟩
 rcases hx with⟨l,rfl,rfl⟩|⟨a,rfl,hq⟩
 .obtain⟨u,rfl,t,rfl⟩:=r.one
  have hl:(signs l).length=l.length:=by unfold signs;rw[YAB]
  have e0:dd (fun i=>[l.getD i 0]) l.length=ddl (signs l):=by
   unfold dd ddl signs
   congr 1
   apply YBx
   .simp
   .intro n h1 h2
    have:n<l.length:=by simpa using h2
    simp[this]
  refine Zgw (I.ok.hd hc) (ZfK (prog:=X.prog) (w:=X.w) (s:=s) (l:=l) (t:=t)) F.sub_str_set F.sub_str_frozenset (by decide) (by rw[<-hl];exact hb) fun h' tk hS k _=>?_
  rw[e0]at hS
  exact fin h' tk hS k
 .obtain⟨u,rfl,ru⟩:=r.one
  cases ru
  obtain⟨its,rv,p,_⟩:=I.list hq
  refine Zgw (I.ok.hd hc) (ZfL (prog:=X.prog) (w:=X.w) (s:=s) p.isList rv) F.sub_list_set F.sub_list_frozenset (by decide) hb fun h' tk hS k _=>?_
  rw[ZeG]at hS
  exact fin h' tk hS k
theorem Zb4 (hc:X.calm=true):ZbU X (.builtin "sorted") (fun xs H Q=>∃a ls,xs=[.ref a]/\H a=some (tset X.prog X.w a ls)/\ls.length<64/\NewL ((ZbJ ls).map tx) H Q):=by
 rintro pins s U H xs us Q I r ⟨a,ls,rfl,ha,h64,q⟩
 obtain⟨u,rfl,ru⟩:=r.one
 cases ru
 have hS:TxSet X.prog X.w s.heap a ls (!Zbb X.w):=(I.hok a _ ha).1
 refine Zhb (I.ok.hd hc) hS h64 fun s' b us e nw k hg ho hb rv=>?_
 have hl:(ZbJ ls).length<=sizeLine:=by rw[(Za1 ls).length_eq];exact YAJ (YCk h64) (by rw[sizeLine_eq];decide)
 exact⟨.ref b,_,I.laid2 (o:=.lst ((ZbJ ls).map tx)) ho hg k nw ⟨by rw[YAB];exact hl,us,e,rv,hb⟩,rfl,q b (I.hok.none_of nw)⟩
end
theorem Zir:typeLookup (.type "list_reverseiterator") "__len__"=pure none:=by rw[typeLookup_type,builtinLookup_eq_fast];kernel_rfl
theorem Zj5:typeLookup (.type "list_reverseiterator") "__length_hint__"=pure (some (.builtin "list_reverseiterator.__length_hint__")):=by rw[typeLookup_type,builtinLookup_eq_fast];kernel_rfl
theorem ZhN {prog:Program}{w:World}{A:Around}(hh:A.handled=none)(I ax:Addr)(hne:ax≠I)(items:Array Value):
  Walks prog w A I [I,ax] [I] items.size (fun i v=>items[items.size-1-i]?=some v) (fun i h=>i<=items.size/\h.IsRevIter I ax ((items.size:Int)-1-(i:Int))/\h.IsList ax items) where
 sub:=fun b hb=>by simp at hb;simp[hb]
 frame:=fun _ _ _ st hk=>⟨st.1,st.2.1.at fun o e=>hk I (by simp) o e,st.2.2.at fun o e=>hk ax (by simp) o e⟩
 item:=fun i s Q E hi st hQ=>by
  have e1:((items.size:Int)-1-(i:Int))=((items.size-1-i:Nat):Int):=by omega
  have st1:=st.2.1
  rw[e1]at st1
  have hl:items.size-1-i<items.size:=by omega
  refine wpAny_pyNext_rev_item st1 st.2.2 (x:=items[items.size-1-i]) (by simp[hl]) fun h' hit' hs'=>?_
  have e2:((items.size-1-i:Nat):Int)-1=(items.size:Int)-1-((i+1:Nat):Int):=by omega
  rw[e2]at hit'
  exact hQ _ h' s.toks (by simp[hl]) ⟨by omega,hit',st.2.2.extBut hs'.extBut hne⟩ fun b o hb e=>hs'.extBut b o (fun h=>hb (by simp[h])) e
 done:=fun s Q E st hQ=>by
  have e1:((items.size:Int)-1-((items.size:Nat):Int))=-1:=by omega
  have st1:=st.2.1
  rw[e1]at st1
  exact wpAny_pyNext_rev_end hh st1 fun h' he'=>hQ h' s.toks fun b o hb e=>he' b o (fun h=>hb (by simp[h])) e
 self:=fun _ _ _ _ st hQ=>wpAny_pyIter_revIter st.2.1 hQ
section
variable {prog:Program}{w:World}{A:Around}{s:Shared}{R:Result->Shared->Prop}
variable {I:Addr}{fp wr:List Addr}{G:Array GenState->Array GenState->Prop}{n:Nat}{P:Nat->Value->Prop}{St:Nat->Shared->Prop}
theorem ZhA (W:WalksS prog w A.in1 I fp wr G n P St) (hT:∀i s,St i s->s.TypeIs (.ref I) "list_reverseiterator") (S:Addr) (res:Value) (c9:Nat) (hst:St 0 s) (hSf:S∉fp) (hI:I∈fp)
  (hS:s.heap.get? S=some { cls:=.type "list",data:=.seq #[] c9 })
  (hR:∀s' acc' c',Moved (S::wr) G s s'->s'.heap.get? S=some { cls:=.type "list",dict:=none,data:=.seq acc' c',slots:=#[] }->ItemsOf P acc' n->R (.ok (.ret res)) s') (hn:n<=sizeLine):
  wpAny (model prog w) A.in1 (Builtin.List.listExtendWith (.ref S) (.ref I) res)
   (fun fin s'=>match fin with | .done f=>R (.ok f) s' | .again c'=>c'.quiet=true/\codeAny (model prog w) A c' R s') (fun e s'=>R (.error e) s') s:=by
 have hSI:S≠I:=fun e=>hSf (e▸hI)
 unfold Builtin.List.listExtendWith
 refine YAA (YCx (hT 0 _ hst) ?_)
 have h1:Builtin.List.listSameRef (.ref S) (.ref I)=false:=by simp[Builtin.List.listSameRef,hSI]
 rw[YAL (by rw[h1];decide)]
 refine YAA (W.self 0 _ _ _ hst ?_)
 refine YAA (YBM ?_)
 unfold Builtin.List.listLengthHint
 refine YAA (YDO (hT 0 _ hst) Zir ?_)
 show wpAny _ A.in1 (specialOf (Value.ref I) (Str.ofString "__length_hint__") >>= _) _ _ _
 refine YAA (YDO (hT 0 _ hst) Zj5 ?_)
 (generalize hid:("list_reverseiterator.__length_hint__":String)=id0;(fail_if_success (clear hid id0));wp_delta;rw[show splitId id0=some ("list_reverseiterator","__length_hint__") from by subst hid;decide +kernel];subst hid)
 refine YAA (wpAny_isInstance (b:=true) (hT 0 _ hst) (by rw[isSubtype_type];kernel_rfl) ?_)
 refine YAF ?_
 rw[YAL (by decide)]
 refine YAF ⟨plainId_quiet F.plain_extend_loop _,codeAny_extend_loopS W hn _ hSf _ n 0 _ _ _ rfl (YAq _) hst hS (ItemsOf.nil P) fun s' acc' c' hm hS' hacc=>?_⟩
 exact hR s' acc' c' hm hS' hacc
theorem Zj3 (W:WalksS prog w A.in1 I fp wr G n P St) (hT:∀i s,St i s->s.TypeIs (.ref I) "list_reverseiterator") (S:Addr) (hst:St 0 s) (hSf:S∉fp) (hI:I∈fp)
  (hS:s.heap.get? S=some { cls:=.type "list",data:=.seq #[] })
  (hR:∀s' acc' c',Moved (S::wr) G s s'->s'.heap.get? S=some { cls:=.type "list",dict:=none,data:=.seq acc' c',slots:=#[] }->ItemsOf P acc' n->R (.ok (.ret .none)) s') (hn:n<=sizeLine):
  wpAny (model prog w) A.in1 (Builtin.«list.__init__» ⟨[.ref S,.ref I],[]⟩)
   (fun fin s'=>match fin with | .done f=>R (.ok f) s' | .again c'=>c'.quiet=true/\codeAny (model prog w) A c' R s') (fun e s'=>R (.error e) s') s:=by
 show wpAny _ A.in1 (do let old <-Builtin.List.listItems (.ref S);Builtin.List.listUpdate (.ref S) (fun _=>#[]);letGo old.toList.reverse;Builtin.List.listExtendWith (.ref S) (.ref I) .none) _ _ s
 refine YAA ?_
 unfold Builtin.List.listItems
 refine YAA (wpAny_seqItems hS rfl (YAF ?_))
 show wpAny _ A.in1 (updateSeq S (fun _=>#[]) >>= fun _=>letGo (#[]:Array Value).toList.reverse >>= fun _=>Builtin.List.listExtendWith (.ref S) (.ref I) .none) _ _ s
 refine YAA (YDN hS rfl ?_)
 have hS9:=YBt (Obj.mapSeq (fun _=>(#[]:Array Value))) hS rfl
 have oth:∀b o,b≠S->s.heap.get? b=some o->(s.heap.update S (Obj.mapSeq (fun _=>(#[]:Array Value)))).get? b=some o:=
  fun b o hb e=>(YCH _ _ (YAv hb)).trans e
 refine YAA (wpAny_letGo ?_)
 refine ZhA W hT S .none _ (W.frame 0 s _ s.toks hst (YAH _) fun b hb o e=>oth b o (fun h=>hSf (h▸hb)) e) hSf hI hS9 (fun s' acc' c' hm hS' hacc=>?_) hn
 exact hR s' acc' c' (Moved.trans W.gtrans ((Moved.refl W.grefl).then_heap (YAH _) fun b o hb e=>oth b o (fun h=>hb (h▸YAi)) e) hm) hS' hacc
end
section
variable {prog:Program}{w:World}{A:Around}{E:Q33}{s:Shared}
variable {I:Addr}{fp wr:List Addr}{G:Array GenState->Array GenState->Prop}{n:Nat}{P:Nat->Value->Prop}{St:Nat->Shared->Prop}
theorem ZjU {Q:Q33} (W:WalksS prog w A.in1.in1 I fp wr G n P St) (hT:∀i s,St i s->s.TypeIs (.ref I) "list_reverseiterator") (hst:St 0 s) (hfp:∀b∈fp,b<s.heap.objs.size) (hI:I∈fp)
  (hQ:∀s' acc' c',Moved (s.heap.objs.size::wr) G { s with heap:=s.heap.push { cls:=.type "list",data:=.seq #[] } } s' ->
   s'.heap.get? s.heap.objs.size=some { cls:=.type "list",dict:=none,data:=.seq acc' c',slots:=#[] }->ItemsOf P acc' n->Q (.ref s.heap.objs.size) s') (hn:n<=sizeLine):
  wpAny (model prog w) A (call (.type "list") [.ref I]) Q E s:=by
 have hSf:s.heap.objs.size∉fp:=fun hm=>YAz _ (hfp _ hm)
 refine callType_codes (Q₁:=fun obj s_1=>obj=.ref s.heap.objs.size/\s_1={ s with heap:=s.heap.push { cls:=.type "list",data:=.seq #[] } }) F.called_list (F.typeCall_list_1 _) F.entry_list_init
  (code_list_new _ ⟨rfl,rfl⟩) fun obj s_1 h9=>?_
 obtain⟨rfl,rfl⟩:=h9
 have hS:(s.heap.push { cls:=.type "list",data:=.seq #[] }).get? s.heap.objs.size=some { cls:=.type "list",data:=.seq #[] }:=YAO _ rfl
 refine⟨⟨_,hS,rfl⟩,F.args_list_init_2 _ _,Zj3 W hT _ (W.frame 0 s _ s.toks hst (YAH _) fun b _ o e=>YAC _ e) hSf hI hS (fun s' acc' c' hm hS' hacc=>?_) hn⟩
 exact⟨rfl,hQ s' acc' c' hm hS' hacc⟩
end
section
variable {X:Cx}{K:Q44}{l:Expr}{ta:TA}{p p2 pos pos2:Pos}
def Zgu (K:Q44)(ta:TA):TE:=fun U H Q=>ta U H fun vs H1=>∃a xs,vs=[.ref a]/\SqL K H1 a xs/\NewL xs.reverse H1 Q
theorem Zhi (hc:X.calm=true) (hK:X.K=K) (hg:Gl X "list") (hm:X.mg "list"=none) (hg2:Gl X "reversed") (hm2:X.mg "reversed"=none) (ha:PA X [l] ta) (hs:starEach [l] X.env=[(false,eval l X.env)]:=by rfl)
  (he:starEach [.Call (.Name "reversed" p2) [l] [] pos2] X.env=[(false,eval (.Call (.Name "reversed" p2) [l] [] pos2) X.env)]:=by rfl):
  PE X (.Call (.Name "list" p) [.Call (.Name "reversed" p2) [l] [] pos2] [] pos) (Zgu K ta):=by
 subst hK
 intro pins s U H Q I h
 refine YBu (Zcy I hg hm (show bootBuiltins "list"=some (.type "list") from by decide +kernel) ?_)
 refine YCE ?_ he rfl
 rw[he]
 show wpAny _ _ (spliced ((false,eval (.Call (.Name "reversed" p2) [l] [] pos2) X.env)::[])) _ _ s
 refine YBe ?_
 refine Call_ (Zcy I hg2 hm2 boot_reversed (YCE (thn (ha pos2 pins s U H _ I h) fun us s1 ⟨vs,H1,I1,r1,a,xs,ev,hq,q⟩=>?_) hs rfl))
 subst ev
 obtain⟨u,rfl,ru⟩:=r1.one
 cases ru
 obtain⟨its,rv,pl,hz⟩:=I1.list hq
 have hl:its.length=xs.length:=rv.length.symm
 refine call_reversed_list pl.isList ?_
 refine YCR ?_
 have lt:a<s1.heap.objs.size:=by obtain⟨o,ho,_⟩:=pl.isList;exact YAN ho
 have W:=ZhN (prog:=X.prog) (w:=X.w) (A:=X.A.in1.in1) (by have:=I1.ok.hd hc;simpa using this) s1.heap.objs.size a (YAd lt) its.toArray
 refine ZjU (s:={ s1 with heap:=s1.heap.push (revObj a ((its.toArray.size:Int)-1)) }) W.toS (fun i s st=>st.2.1.typeIs) ⟨YAq _,⟨_,YAO _ rfl,rfl,by rw[show ((its.toArray.size:Int)-1-((0:Nat):Int))=(its.toArray.size:Int)-1 by omega];rfl⟩,pl.isList.push _⟩ (fun b hb=>?_) YAi (fun s' acc' c' hmv hS' hacc=>?_) (by rw[YAM,hl];exact hz)
 .rw[YBb]
  rcases YAU.mp hb with z | z
  .rw[z];exact YDF _
  .rw[YAR.mp z];exact YCc lt
 .have k:∀c o,s1.heap.get? c=some o->s'.heap.get? c=some o:=fun c o e=>by
   have lc:=YAN e
   refine hmv.heap c o (fun z=>?_) (YAC _ (YAC _ e))
   rcases YAU.mp z with z | z
   .rw[z,YBb]at lc;exact absurd lc (YCu.mpr (YCi _))
   .rw[YAR.mp z]at lc;exact absurd lc (YAz _)
  have nw:s1.heap.get? (s1.heap.push (revObj a ((its.toArray.size:Int)-1))).objs.size=none:=by
   cases z:s1.heap.get? (s1.heap.push (revObj a ((its.toArray.size:Int)-1))).objs.size with
   | none=>rfl
   | some o=>
    have:=YAN z
    rw[YBb]at this
    exact absurd this (YCu.mpr (YCi _))
  have ea:acc'.toList=its.reverse:=by
   have sz:acc'.size=its.length:=by rw[hacc.1,YAM]
   apply YCC
   intro j
   rw[YAs]
   by_cases hj:j<its.length
   .have e:acc'[j]?=some acc'[j]:=by simp[sz,hj]
    have e2:=hacc.2 j _ e
    rw[List.getElem?_reverse hj,e]
    simpa using e2.symm
   .rw[Array.getElem?_eq_none (by omega),YBG (by rw[List.length_reverse];omega)]
  have vr:Vals xs.reverse its.reverse:=by
   have:∀ {vs:List V} {us:List Value},Vals vs us->Vals vs.reverse us.reverse:=by
    intro vs us r
    induction r with
    | nil=>exact .nil
    | cons r1 _ ih=>rw[List.reverse_cons,List.reverse_cons];exact ih.append (.cons r1 .nil)
   exact this rv
  refine⟨.ref _,_,I1.laid2 (s':=s') (o:=.lst xs.reverse) hmv.os hmv.gens k nw ⟨by rw[List.length_reverse];exact hz,its.reverse,c',vr,by rw[<-ea,YCN];exact hS'⟩,rfl,q _ (I1.hok.none_of nw)⟩
end
open PySem.W (Frag)
theorem ZaD {X:Cx}{x:Str}{l:Q11}{j:Nat}{pos:Pos}(h:x=⟨l.toArray⟩):PE X (.Constant (.str x) j pos) (tC (tx l)):=by subst h;exact ZmQ
theorem ZjG {X:Cx} {x y:Str} {pos:Pos} (hg:Gl X x) (hm:∃t,X.mg x=some (.str y t)) (hd:(x == ("__debug__":Str))=false:=by decide):PE X (.Name x pos) (tC (.str y)):=by
 obtain⟨t,h⟩:=hm
 exact Zij hg h ⟨t,rfl⟩ hd
theorem Zb8 {X:Cx} {x:Str} {y:Int} {pos:Pos} (hg:Gl X x) (hm:∃t,X.mg x=some (.int y t)) (hd:(x == ("__debug__":Str))=false:=by decide):PE X (.Name x pos) (tC (.int y)):=by
 obtain⟨t,h⟩:=hm
 exact Zij hg h ⟨t,rfl⟩ hd
section
variable {CX:CXT}{P:Program}{w:World}{K:Q44}{mg:Str->Option Value}{base:Heap}{N:List Str}{qual:Str}{scope:Scope}{f:Addr}{cd:Value}{A:Around}{outer:List Env}{s:Shared}{H:Hp}{E:XK}{X:Cx}{e:Addr}
theorem cxPr:(cxOf CX P w K mg base N qual scope f cd A outer s H E).prog=P:=rfl
theorem cxWo:(cxOf CX P w K mg base N qual scope f cd A outer s H E).w=w:=rfl
theorem suxK:(sux X e).K=X.K:=rfl
theorem Zod:(sux X e).prog=X.prog:=rfl
theorem Zoc:(sux X e).w=X.w:=rfl
end
open PySem.W (Frag KeqHits)
section
variable {X:Cx}{K:Frag}
end
open PySem.W (Frag)
section
variable {prog:Program}{w:World}{A:Around}{E:Q33}{s:Shared}
variable {z TI TO i1 i2:Addr}{f1 f2:List Addr}{n i:Nat}{P1 P2:Nat->Value->Prop}{S1 S2:Nat->Heap->Prop}{a b:Value}
end
section
variable {prog:Program}{w:World}{A:Around}{E:Q33}{s:Shared}{z TI TO i1 i2:Addr}{f1 f2:List Addr}{n i:Nat}{P1 P2:Nat->Value->Prop}{S1 S2:Nat->Heap->Prop}{a b:Value}
end
noncomputable def Itz (K:Q44)(a b:Addr):It:=
  ⟨fun i H=>∃xs ys x y,SqT K H a xs/\SqT K H b ys/\xs.length=ys.length/\xs[i]?=some x/\ys[i]?=some y,
   fun i H v H'=>∃p x y,H p=none/\v=.ref p/\H'=upd H p (.tup [x,y])/\(∀xs,SqT K H a xs->xs[i]?=some x)/\∀ys,SqT K H b ys->ys[i]?=some y,
   fun i H=>∃xs ys,SqT K H a xs/\SqT K H b ys/\xs.length=ys.length/\xs.length=i⟩
section
variable {X:Cx}{es:List Expr}{x1:Nat}{tp:Pos}
end
section
variable {prog:Program}{w:World}{A:Around}{E:Q33}{s:Shared}{l I S:Addr}{ls:Q22}{vs:List Value}{R:Result->Shared->Prop}{Q:Q33}
end
section
variable {X:Cx}{e:Expr}{ta:TA}{p p2 pos kpos:Pos}
end
open PySem.W (Frag)
theorem ZgG {X:Cx} {K:Frag} {T id:String} {name:Str} {o e:Expr} {es:List Expr} {to:TE} {t:TA} {apos cpos:Pos} {r:V->List V->Hp->VK->Prop} (hK:X.K=K) (pa:PlainAttrs T) (slot:Slot T name id) (hty:typeOf (.builtin id)=pure (.type "method_descriptor")) (hm:MtR X id r) (ho:PE X o to) (ha:PA X (e::es) t)
  (hbase:attributeBase o name X.env (eval o X.env)=eval o X.env:=by rfl)
  (hfew:((backTo cpos (starEach (e::es) X.env)).all (fun x=>!x.1)&&(backToKw cpos (keywordEach [] X.env)).all (fun x=>x.1.isSome)&&decide ((e::es).length+([]:List Keyword).length+(if ([]:List Keyword).isEmpty then 0 else 1)<30))=true:=by rfl)
  (hline:(apos.endLine == cpos.line)=true:=by rfl) (hs:starEach (e::es) X.env=(false,eval e X.env)::starEach es X.env:=by rfl) (hplain:(backTo cpos (starEach es X.env)).any (·.1)=false:=by rfl):PE X (.Call (.Attribute o name apos) (e::es) [] cpos) (tBM K T r to t):=by
 subst hK
 exact ZdS pa slot hty hm ho ha hbase hfew hline hs hplain
def sNo:TS:=fun _ _ _=>False
theorem Zc7 {X:Cx}{st:Stmt}:PS X st sNo:=fun _ _ _ _ _ _ h=>h.elim
section
variable {X:Cx}{CX:CXT}{k:Nat}{L f:Addr}{fd:FuncData}{ps:List Str}{sp:Sp}{E:XK}{x:Str}{pos apos np:Pos}{e:Expr}{es:List Expr}{t:TA}{ds:List Value}{dvs:List V}
theorem ZgF {pl:Sem Bool} (hg:Gl X x) (hm:X.mg x=some (.ref L)) (cr:ClsRead X.K L "__init__" (.ref f)) (F:FnOk X.prog X.w X.K X.mg X.base CX k f fd ps sp) (hr:Room k X.A) (hk:PySem.W.keepIn X.K (.ref f)=true) (hb:Binds X.K fd ps ds) (hd:Vals dvs ds) (hx:Zc5 CX X E)
  (ha:PA X (e::es) t) (hdb:(x == ("__debug__":Str))=false:=by decide) (hst:starEach (e::es) X.env=(false,eval e X.env)::starEach es X.env:=by rfl) (hpl:(backTo pos (starEach es X.env)).any (·.1)=false:=by rfl)
  (ht:eval (.Call (.Attribute (.Name x np) "__init__" apos) (e::es) [] pos) X.env=(do
   let ov <-eval (.Name x np) X.env
   standAt apos.atName
   let (f,first) <-holding [ov] (getMethod ov "__init__" pl)
   callWith pos f first (backTo pos (starEach (e::es) X.env)) (backToKw pos (keywordEach [] X.env))):=by rfl):PE X (.Call (.Attribute (.Name x np) "__init__" apos) (e::es) [] pos) (Zk6 sp dvs E t):=by
 intro pins s U H Q I h
 refine YCy (pl:=pl) (Zer I hg hm ?_ hdb) ht
 refine PySem.W.method_cls I.kIn cr.sp (PySem.W.cls_value I.kIn cr.rd cr.fd cr.hn ?_)
 refine YDX (first:=[]) (h₀:=X.base) I.ok.mod.kin hk (thn (ha pos pins _ U H _ (I.tok _) h) fun us s1 ⟨vs,H1,I1,r,q⟩=>⟨I1.kIn,?_⟩) hst hpl
 exact Zgy F hr hb hd hx I1 r q
end
def WhileRun (c:TT)(tb:TS)(D:Ends)(U:St)(H:Hp):Prop:=ZhV c tb D U H
theorem Zls {c:TT}{tb:TS}{D:Ends}{U:St}{H:Hp}:ZhV c tb D U H=WhileRun c tb D U H:=rfl
theorem WhileRun.by {c:TT}{tb:TS}{D:Ends}{U:St}{H:Hp}(Pv:St->Hp->Prop)(μ:St->Hp->Nat)(h0:Pv U H)
  (hs:∀U H,Pv U H->∃b:Bool,(∀Q:Bool->Hp->Prop,(∀H1,Same H H1->Q b H1)->c U H Q)/\∀H1,Same H H1->if b=true then tb { D with nx:=fun U' H'=>Pv U' H'/\μ U' H'<μ U H,ct:=fun U' H'=>Pv U' H'/\μ U' H'<μ U H,bk:=D.nx } U H1 else D.nx U H1):WhileRun c tb D U H:=by
 refine⟨fun m U H=>m=μ U H/\Pv U H,⟨_,rfl,h0⟩,?_⟩
 rintro m U H ⟨rfl,p⟩
 obtain⟨b,hc,hb⟩:=hs U H p
 refine hc _ fun H1 s1=>?_
 have q:=hb H1 s1
 cases b with
 | true=>exact⟨_,fun U' H' ⟨p',l⟩=>⟨_,l,rfl,p'⟩,q⟩
 | false=>exact q
section
variable {X:Cx}{k:Nat}{f C:Addr}{fd:FuncData}{ps:List Str}{sp:Sp}{dvs:List V}{ds:List Value}{x m:Str}{p pos apos:Pos}{e o:Expr}{es:List Expr}{ta:TE}{t:TA}
end
section
variable {X:Cx}
end
section
variable {X:Cx}{pins:List (Addr×Obj)}{U:St}{H:Hp}{s:Shared}
def Zl8:HO->Prop
 | .tup _=>False
 | .tbl _=>False
 | .own _=>False
 | _=>True
theorem Inv.shift {a:Addr}{u u':HO}(I:Inv X pins U H s)(ha:H a=some u)(hu:Zl8 u)(hf:∀o v,X.H_0 a≠some (.frz o v))(new:ObjOk X.prog X.w (upd H a u') s.heap a u'):Inv X pins U (upd H a u') s:=by
 have nn:∀b,H b=none->b≠a:=fun b n z=>by rw[z,ha]at n;cases n
 refine⟨I.ok,I.os,I.bare,⟨I.base.keep,I.base.slot,fun b o e n hx=>?_,I.base.there,fun b xs e=>?_,fun b o v e=>?_,fun b ps e=>?_⟩,I.loc,I.cell,?_,fun x c e=>?_,fun p hp=>?_,fun b ob e=>?_,I.len⟩
 .have:=I.base.free b o e n hx
  rw[Zac (nn b this)];exact this
 .have:=I.base.tups b xs e
  have ne:b≠a:=fun z=>by rw[z,ha]at this;cases this;exact hu
  rw[Zac ne];exact this
 .have ne:b≠a:=fun z=>hf o v (by rw[<-z];exact e)
  rw[Zac ne];exact I.base.frzs b o v e
 .obtain⟨m,q⟩:=I.base.tbls b ps e
  have ne:b≠a:=fun z=>by rw[z,ha]at q;cases q;exact hu
  exact⟨m,by rw[Zac ne];exact q⟩
 .rw[Zac (nn _ I.free)];exact I.free
 .rw[Zac (nn _ (I.freeC x c e))];exact I.freeC x c e
 .obtain⟨e,n,r⟩:=I.pin p hp
  exact⟨e,by rw[Zac (nn _ n)];exact n,r⟩
 .by_cases hb:b=a
  .subst hb
   rw[Zad]at e
   cases e
   exact new
  .rw[Zac hb]at e
   refine(I.hok b ob e).stay (fun _ _ _ q=>q) (fun c q=>?_) fun c xs q=>?_
   .have ne:c≠a:=fun z=>by rw[z,ha]at q;cases q;exact hu
    rw[Zac ne];exact q
   .have ne:c≠a:=fun z=>by rw[z,ha]at q;cases q;exact hu
    rw[Zac ne];exact q
theorem Inv.notFrz {a:Addr}{u:HO}(I:Inv X pins U H s)(ha:H a=some u)(hu:∀o v,u≠.frz o v):∀o v,X.H_0 a≠some (.frz o v):=fun o v e=>by
 have:=I.base.frzs a o v e
 rw[ha]at this
 exact hu o v (Option.some.inj this)
theorem Inv.freezeD {a:Addr}{kvs:List (Key×V)}(I:Inv X pins U H s)(ha:H a=some (.dK kvs)):∃o es ep,o.data=.dict es ep/\s.heap.get? a=some o/\Inv X pins U (upd H a (.frz o (.dK kvs))) s:=by
 obtain⟨z,y,vs,r,ob,es,ep,e,c⟩:=I.hok a _ ha
 refine⟨ob,es,ep,c.2.1,e,I.shift ha trivial (I.notFrz ha fun o v q=>by cases q) ⟨e,z,y,vs,r,ob,es,ep,e,c⟩⟩
theorem Inv.thawD {a:Addr}{o:Obj}{kvs:List (Key×V)}(I:Inv X pins U H s)(ha:H a=some (.frz o (.dK kvs)))(hf:∀o v,X.H_0 a≠some (.frz o v)):Inv X pins U (upd H a (.dK kvs)) s:=by
 obtain⟨e,z,y,vs,r,c⟩:=I.hok a _ ha
 exact I.shift ha trivial hf ⟨z,y,vs,r,c⟩
end
theorem ZlN {P:Program}{w:World}{k:Key}{u:Value}(h:(Zaq P w).is k u=true):RelV (kV k) u:=by
 cases k with
 | inl i=>
  have h':(intKind P w).is i u=true:=h
  cases u<;>first | (exact absurd h' YAD) | skip
  rename_i j t
  have e:(i == j)=true\/(j == i)=true:=by first | exact .inl h' | exact .inr h'
  rcases e with e | e
  .exact⟨t,by rw[beq_iff_eq.mp e]⟩
  .exact⟨t,by rw[beq_iff_eq.mp e]⟩
 | inr x=>
  have h':(strKind P w).is x u=true:=h
  cases u<;>first | (exact absurd h' YAD) | skip
  rename_i j t
  have e:(x == j)=true\/(j == x)=true:=by first | exact .inl h' | exact .inr h'
  rcases e with e | e
  .exact⟨t,by rw[beq_iff_eq.mp e]⟩
  .exact⟨t,by rw[beq_iff_eq.mp e]⟩
noncomputable def Itd (o:Obj)(kvs:List (Key×V))(a:Addr):It:=
 ⟨fun i H=>H a=some (.frz o (.dK kvs))/\i<kvs.length,fun i H x H'=>H'=H/\∃p,kvs[i]?=some p/\x=kV p.1,fun i H=>H a=some (.frz o (.dK kvs))/\kvs.length<=i⟩
theorem KV.getK {kvs:List (Key×V)}{vs:List (Key×Value)}(r:KV kvs vs):∀ {i:Nat} {p:Key×V},kvs[i]?=some p->∃v,vs[i]?=some (p.1,v):=by
 intro i p h
 have hk:=r.keys
 have hl:=r.length
 have hi:i<vs.length:=by rw[<-hl];exact(YAK.mp h).1
 have e1:(kvs.map (·.1))[i]?=some p.1:=by rw[YAW,h];rfl
 rw[hk,YAW,YAG hi]at e1
 refine⟨vs[i].2,?_⟩
 rw[YAG hi]
 have:vs[i].1=p.1:=Option.some.inj e1
 rw[<-this]
theorem ZhU {P:Program}{w:World}{K:Q44}{tg:Expr}{o:Obj}{es:Array DictEntry}{ep:Nat}{kvs:List (Key×V)}(a it:Addr)(hd:o.data=.dict es ep):Turn P w K tg (Itd o kvs a) [it] it (fun i h=>h.IsKeyIter it a i kvs.length ep) where
 mem:=by simp
 obj:=fun i h st b hb=>by
  have e:b=it:=by simpa using hb
  subst e
  obtain⟨o,e,c,d⟩:=st
  exact⟨o,e,fun v z=>by rw[d]at z;cases z⟩
 keep:=fun i h h' st k=>let ⟨o,ho,r⟩:=st;⟨o,k it (by simp) o ho,r⟩
 item:=by
  intro X hP hw hK hc i pins s U H E I hf st hg
  subst hP hw hK
  obtain⟨ha,hi⟩:=hg
  obtain⟨e,z,y,vs,r,o',es',ep',e',c1,c2,c3⟩:=I.hok a _ ha
  rw[e]at e'
  cases e'
  rw[hd]at c2
  cases c2
  obtain⟨v,hv⟩:=r.getK (YAG hi)
  obtain⟨f0,f1,f2,f3,f4,f5⟩:=hf it (by simp)
  rw[r.length]at st
  refine wpAny_pyNext_dict_item st ⟨o,es,e,c1,hd,c3⟩ hv fun key h' hk st' sb=>?_
  have I1:Inv X pins U H { s with heap:=h' }:=I.turned (t':=s.toks) (fun b o hb e=>(sb.2 b hb).trans e) f0 f1 f3 f4 f5
  obtain⟨oi,ei,ci,di⟩:=id st'
  rw[<-r.length]at st'
  exact⟨key,rfl,ZiX (s:={ s with heap:=h' }) ei ci di (by decide) ⟨kV kvs[i].1,H,I1,ZlN hk,⟨rfl,_,YAG hi,rfl⟩,st',fun b hb=>(hf b hb).1⟩⟩
 done:=by
  intro X hP hw hK hc i pins s U H E I hf st hg
  subst hP hw hK
  obtain⟨ha,hi⟩:=hg
  obtain⟨e,z,y,vs,r,o',es',ep',e',c1,c2,c3⟩:=I.hok a _ ha
  rw[e]at e'
  cases e'
  rw[hd]at c2
  cases c2
  obtain⟨f0,f1,f2,f3,f4,f5⟩:=hf it (by simp)
  rw[r.length]at st hi
  exact wpAny_pyNext_dict_end (I.ok.hd hc) st ⟨o,es,e,c1,hd,c3⟩ (YBG hi) fun h' eb=>⟨rfl,I.turned (t':=s.toks) (fun b o hb e=>eb b o hb e) f0 f1 f3 f4 f5⟩
 self:=fun _ _ _ _ _ st h=>wpAny_pyIter_keyiter st h
section
variable {X:Cx}{tg:Expr}
def ZnH (td:TE):TI:=fun U H R=>td U H fun x H1=>∃a kvs,x=.ref a/\H1 a=some (.dK kvs)/\∀o,R (Itd o kvs a) (upd H1 a (.frz o (.dK kvs)))
theorem Zen {l:Expr}{tl:TE}(hl:PE X l tl):PI X tg l (ZnH tl):=by
 intro pins s U H R I h
 refine thn (hl pins s U H _ I h) fun v s1 ⟨x,H1,I1,r1,q1⟩=>?_
 obtain⟨a,kvs,e,hq,q⟩:=q1
 subst e
 cases r1
 obtain⟨z,y,vs,r,_⟩:=id (I1.hok a _ hq)
 obtain⟨o,es,ep,hd,ho,I2⟩:=I1.freezeD hq
 obtain⟨_,z2,y2,vs2,r2,o',es',ep',e',c1,c2,c3⟩:=I2.hok a _ Zad
 rw[ho]at e'
 cases e'
 rw[hd]at c2
 cases c2
 refine wpAny_pyIter_dict y2 ⟨o,es,ho,c1,hd,c3⟩ ?_
 refine⟨s1.heap.objs.size,[s1.heap.objs.size],_,_,_,rfl,I2.kept (t':=s1.toks) fun b o e=>YAC _ e,ZhU (kvs:=kvs) a _ hd,⟨_,YAO _ rfl,rfl,by rw[r2.length];rfl⟩,fun b hb=>?_,q o⟩
 have e:b=s1.heap.objs.size:=by simpa using hb
 subst e
 exact I2.fpOk (YAH _) (I2.hok.fresh (YAH _))
def Thw (a:Addr)(P:Hp->Prop)(H':Hp):Prop:=∃o kvs,H' a=some (.frz o (.dK kvs))/\P (upd H' a (.dK kvs))
noncomputable def thD (a:Addr)(D:Ends):Ends:={ nx:=fun U H=>Thw a (D.nx U) H,rt:=fun v H=>Thw a (D.rt v) H,bk:=fun U H=>Thw a (D.bk U) H,ct:=fun U H=>Thw a (D.ct U) H }
def ZmB (ts:TS):TS:=fun D U H=>∃a kvs,H a=some (.dK kvs)/\ts (thD a D) U H
theorem Zdu {st:Stmt}{ts:TS}(h:PS X st ts):PS X st (ZmB ts):=by
 intro pins s U H D I ⟨a,kvs,ha,hh⟩
 have nf:=I.notFrz ha fun o v q=>by cases q
 refine YBp (h pins s U H _ I hh) (fun f s1 q=>?_) fun _ _ z=>z
 cases f with
 | next=>obtain⟨U1,H1,I1,o,k1,e1,q1⟩:=q;exact⟨U1,_,I1.thawD e1 nf,q1⟩
 | brk=>obtain⟨U1,H1,I1,o,k1,e1,q1⟩:=q;exact⟨U1,_,I1.thawD e1 nf,q1⟩
 | cont=>obtain⟨U1,H1,I1,o,k1,e1,q1⟩:=q;exact⟨U1,_,I1.thawD e1 nf,q1⟩
 | ret u=>obtain⟨v,U1,H1,I1,r,o,k1,e1,q1⟩:=q;exact⟨v,U1,_,I1.thawD e1 nf,r,q1⟩
end
section
variable {g:TG}{tb:TS}{D:Ends}{U:St}{H:Hp}{o:Obj}{kvs:List (Key×V)}{a:Addr}
theorem ForRun.dict (Pv:Nat->St->Hp->Prop)(h0:Pv 0 U H)(hl:∀i U H,Pv i U H->H a=some (.frz o (.dK kvs)))
  (hs:∀i p U H,kvs[i]?=some p->Pv i U H->g (kV p.1) U H fun U2 H2=>tb { D with nx:=Pv (i+1),ct:=Pv (i+1),bk:=D.nx } U2 H2) (hd:∀U H,Pv kvs.length U H->D.nx U H):ForRun (Itd o kvs a) g tb D U H:=by
 refine⟨fun i m U H=>m=kvs.length-i/\i<=kvs.length/\Pv i U H,⟨kvs.length,by simp,YAq _,h0⟩,?_⟩
 rintro i m U H ⟨rfl,hi,p⟩
 have q:=hl i U H p
 by_cases hlt:i<kvs.length
 .refine .inr ⟨⟨q,hlt⟩,Pv (i+1),fun U' H' p'=>⟨kvs.length-(i+1),by omega,rfl,hlt,p'⟩,fun x H' y=>?_⟩
  obtain⟨e,p2,e2,e3⟩:=y
  subst e e3
  exact hs i p2 U _ e2 p
 .have e:i=kvs.length:=by omega
  subst e
  exact .inl ⟨⟨q,YAH _⟩,hd U H p⟩
end
theorem Same.thaw {H H1 H2:Hp}{a:Addr}{o:Obj}{kvs:List (Key×V)}(ha:H a=some (.dK kvs))(s:Same (upd H a (.frz o (.dK kvs))) H2):Same H (upd H2 a (.dK kvs)):=fun b u hb=>by
 by_cases e:b=a
 .rw[e]at hb ⊢;rw[Zad,<-hb,ha]
 .rw[Zac e];exact s b u (by rw[Zac e];exact hb)
theorem ZeA:typeLookup (.type "dict") "__len__"=pure (some (.builtin "dict.__len__")):=by rw[typeLookup_type,builtinLookup_eq_fast];kernel_rfl
theorem Zcn:∀ {vs:List V} {us:List Value},vs.length=us.length->(∀(i:Nat) (x:V) (u:Value),vs[i]?=some x->us[i]?=some u->RelV x u)->Vals vs us
 | [],[],_,_=>.nil
 | [],_::_,h,_=>by simp at h
 | _::_,[],h,_=>by simp at h
 | x::vs,u::us,h,r=>.cons (r 0 x u rfl rfl) (Zcn (by simpa using h) fun i y v h1 h2=>r (i+1) y v h1 h2)
section
variable {prog:Program}{w:World}{A:Around}{E:Q33}{s:Shared}
theorem Zfz {S:Addr}{ls:List (Key×Value)}{ep:Nat}{Q:List Value->Shared->Prop}(hh:A.handled=none)(hd:(S == sysModules)=false)(hS:s.heap.DictAt (Zaq prog w) S ls ep)(hn:ls.length<=sizeLine)
  (hQ:∀(s':Shared) (vs:List Value),(∀b o,s.heap.get? b=some o->s'.heap.get? b=some o)->s'.gens=s.gens->s'.os=s.os->Vals (ls.map fun p=>kV p.1) vs->Q vs s'):wpAny (model prog w) A (collect (.ref S)) Q E s:=by
 unfold collect
 refine YAA (wpAny_runValue (codeAny_builtin F.entry_proto_collect ?_))
 rw[YBT F.plain_proto_collect _]
 show wpAny _ A.in1 (newList [] >>= fun l=>again (.builtin "list.__iadd__" ⟨[l,.ref S],[]⟩)) _ _ s
 refine YAA (YCA (YAF ⟨plainId_quiet YDc _,codeAny_builtin F.entry_list_iadd ?_⟩))
 rw[YBT YDc _]
 generalize hH:s.heap.push { cls:=.type "list",data:=.seq ([]:List Value).toArray }=H
 have hHs:H.objs.size=s.heap.objs.size+1:=by rw[<-hH,YBb]
 have hL:H.get? s.heap.objs.size=some { cls:=.type "list",data:=.seq ([]:List Value).toArray }:=hH▸YAO _ rfl
 have k1:∀b o,s.heap.get? b=some o->H.get? b=some o:=fun b o e=>hH▸YAC _ e
 have hS1:H.DictAt (Zaq prog w) S ls ep:=hS.keep k1
 have hT:Shared.TypeIs { s with heap:=H } (.ref S) "dict":=hS1.dictOf.typeIs
 have nS:S≠s.heap.objs.size:=YAd hS.lt_size
 show wpAny _ A.in1 (Builtin.List.listExtendWith (.ref s.heap.objs.size) (.ref S) (.ref s.heap.objs.size)) _ _ { s with heap:=H }
 unfold Builtin.List.listExtendWith
 refine YAA (YCx hT ?_)
 have h1:Builtin.List.listSameRef (.ref s.heap.objs.size) (.ref S)=false:=by simp[Builtin.List.listSameRef,YAv nS]
 have h2:(Value.type "dict" == Value.type "list")=false:=by decide
 have h3:(Value.type "dict" == Value.type "tuple")=false:=by decide
 simp only[h1,h2,h3,Bool.or_false,YCX,if_false]
 refine YAA (wpAny_pyIter_dict (s:={ s with heap:=H }) hd hS1 ?_)
 obtain⟨I,hI0⟩:∃I,I=H.objs.size:=⟨_,rfl⟩
 obtain⟨h2',hh2⟩:∃h2',h2'=H.push { cls:=.type "dict_keyiterator",data:=.fields #[.ref S,.int 0 0,.int ls.length 0,.int ep 0] }:=⟨_,rfl⟩
 rw[<-hh2]
 show wpAny _ A.in1 (holding [.ref H.objs.size] (Builtin.List.listLengthHint (.ref S)) >>= _) _ _ _
 rw[<-hI0]
 have k2:∀b o,H.get? b=some o->h2'.get? b=some o:=fun b o e=>by rw[hh2];exact YAC _ e
 have hI:H.objs.size<=I:=YCS hI0.symm
 have nI:S≠I:=by rw[hI0];exact YAd hS1.lt_size
 have st0:h2'.IsKeyIter I S 0 ls.length ep:=⟨_,by rw[hh2,hI0];exact YAO _ rfl,rfl,rfl⟩
 have hS2:h2'.DictAt (Zaq prog w) S ls ep:=hS1.keep k2
 have W:∀A':Around,A'.handled=none->_:=fun A' hA=>Walks.dictKeys (prog:=prog) (w:=w) (knd:=Zaq prog w) (A:=A') hA I S nI ls ep
 have st:=And.intro st0 hS2
 have hfp:∀b∈[I,S],b=S\/H.objs.size<=b:=fun b hb=>by
  rcases YAU.mp hb with z | z
  .exact .inr (by rw[z];exact hI)
  .exact .inl (by simpa using z)
 have hT2:Shared.TypeIs { s with heap:=h2' } (.ref S) "dict":=hS2.dictOf.typeIs
 refine YAA (YBM ?_)
 unfold Builtin.List.listLengthHint
 refine YAA (YDO hT2 ZeA ?_)
 wp_delta
 refine YAA (wpAny_isInstance (T:="dict") (v:=.ref S) (b:=true) hT2 (by rw[isSubtype_type];kernel_rfl) ?_)
 show wpAny _ A.in1 (typeOf (Value.ref S) >>= fun r=>_) _ _ _
 refine YAA (YCx hT2 ?_)
 refine YAF ?_
 rw[YAP (by decide)]
 refine YAA (YCI ?_)
 have hL2:h2'.get? s.heap.objs.size=some { cls:=.type "list",data:=.seq ([]:List Value).toArray }:=k2 _ _ hL
 refine YAA ?_
 show wpAny _ A.in1 (updateSeq s.heap.objs.size (·.push .none) >>= fun _=>updateSeq s.heap.objs.size (·.pop)) _ _ _
 refine YAA (YDN hL2 rfl ?_)
 have hL3:=YBt (Obj.mapSeq (·.push Value.none)) hL2 rfl
 refine YDN hL3 rfl ?_
 have hL4:=YBt (Obj.mapSeq (·.pop)) hL3 rfl
 have oth:∀b o,b≠s.heap.objs.size->h2'.get? b=some o->((h2'.update s.heap.objs.size (Obj.mapSeq (·.push Value.none))).update s.heap.objs.size (Obj.mapSeq (·.pop))).get? b=some o:=
  fun b o hb e=>(YCH _ _ (YAv hb)).trans ((YCH _ _ (YAv hb)).trans e)
 have hle:s.heap.objs.size+1<=I:=by rw[<-hHs];exact hI
 have hSf:s.heap.objs.size∉[I,S]:=fun z=>by
  rcases hfp _ z with q | q
  .exact nS q.symm
  .have q':H.objs.size<=s.heap.objs.size:=q
   rw[hHs]at q';exact absurd q' (Nat.not_succ_le_self _)
 refine YAF ⟨plainId_quiet F.plain_extend_loop _,codeAny_extend_loopS (W A.in1 hh).toS hn _ hSf _ ls.length 0 _ _ _ rfl (YAq _) ((W A.in1 hh).frame 0 h2' _ st fun b hb o e=>oth b o (fun z=>hSf (z▸hb)) e) hL4 (ItemsOf.nil _) fun s' acc' c' hm hS' hacc=>?_⟩
 show wpAny _ A (load s.heap.objs.size >>= fun r=>_) _ _ s'
 refine YAA (wpAny_load hS' ?_)
 have hvs:Vals (ls.map fun p=>kV p.1) acc'.toList:=by
  refine Zcn (by rw[YAB];exact(Array.length_toList.trans hacc.1).symm) fun i x u h1 h2=>?_
  rw[YAs]at h2
  obtain⟨k,v,e,hk⟩:=hacc.2 i u h2
  rw[YAW,e]at h1
  cases h1
  exact ZlN hk
 have done:=hQ s' acc'.toList (fun b o e=>by
  have hlt:=YAN e
  refine hm.heap b o (fun z=>?_) (oth b o (YAd hlt) (k2 b o (k1 b o e)))
  rcases YAU.mp z with q | q
  .rw[q]at hlt;exact YAz _ hlt
  .have q:b=I:=by simpa using q
   rw[q]at hlt
   exact absurd hlt (YCu.mpr (Nat.le_of_succ_le hle))) hm.gens hm.os hvs
 exact YAF done
end
noncomputable def kTx (l:Q11):Key:=.inr ⟨l.toArray⟩
theorem ZiN (l:Q11):kV (kTx l)=tx l:=rfl
section
variable {X:Cx}
end
noncomputable def wordsOf (l:Q11)(n:Nat):Q22:=ZbJ (ddl ((List.range (l.length+1-n)).map fun i=>(l.drop i).take n))
theorem Zcj {x:Q11}:∀(ls acc:Q22),x∈ls.foldl addT acc↔x∈acc\/x∈ls
 | [],acc=>by simp
 | y::ls,acc=>by
  rw[YCp,Zcj ls]
  have h:x∈addT acc y↔x∈acc\/x=y:=by
   unfold addT
   split
   .rename_i h
    constructor
    .exact .inl
    .rintro (q | q)
     .exact q
     .rw[q];exact h
   .rw[YAZ,YAR]
  rw[h,YAU,or_assoc]
theorem Zf3 {x:Q11}{ls:Q22}:x∈ddl ls↔x∈ls:=by
 unfold ddl
 rw[Zcj]
 simp
theorem Zis (ls:Q22):(ddl ls).Nodup:=by rw[<-ZeG];exact ZcG _
open PySem.W (Frag)
def AtW (l w:Q11)(i:Nat):Prop:=i+w.length<=l.length/\(l.drop i).take w.length=w
def Inf (w l:Q11):Prop:=∃i,AtW l w i
theorem Zbf (l w:Q11)(i:Nat):StrLaws.At ⟨l.toArray⟩ ⟨w.toArray⟩ (⟨l.toArray⟩:Str).length i↔AtW l w i:=by
 have e1:(⟨l.toArray⟩:Str).length=l.length:=Zei l
 have e2:(⟨w.toArray⟩:Str).length=w.length:=Zei w
 unfold StrLaws.At AtW Builtin.Str.subAt
 rw[e1,e2]
 refine and_congr_right fun h=>?_
 have e3:l.toArray.extract i (i+w.length)=((l.drop i).take w.length).toArray:=by
  apply Array.ext'
  simp only[List.extract_toArray,List.extract_eq_take_drop]
  have:i+w.length-i=w.length:=by omega
  rw[this]
 show (l.toArray.extract i (i+w.length) == w.toArray)=true↔_
 rw[e3,beq_iff_eq]
 exact⟨fun z=>by simpa using congrArg Array.toList z,fun z=>by rw[z]⟩
theorem AtW.nil (l:Q11):AtW l [] 0:=⟨by simp,by simp⟩
theorem Inf.nil (l:Q11):Inf [] l:=⟨0,AtW.nil l⟩
theorem Inf.len {w l:Q11}(h:Inf w l):w.length<=l.length:=by obtain⟨i,h,_⟩:=h;omega
theorem Inf.mem {w l:Q11}(h:Inf w l){c:Nat}(hc:c∈w):c∈l:=by
 obtain⟨i,_,h⟩:=h
 rw[<-h]at hc
 exact YAh (YAf hc)
theorem Inf.refl (l:Q11):Inf l l:=⟨0,by simp,by simp⟩
theorem AtW.trans {u v w:Q11}{i j:Nat}(h1:AtW v u i)(h2:AtW w v j):AtW w u (j+i):=by
 obtain⟨a1,b1⟩:=h1
 obtain⟨a2,b2⟩:=h2
 refine⟨by omega,?_⟩
 have e:(w.drop (j+i)).take u.length=((((w.drop j).take v.length).drop i).take u.length):=by
  rw[List.drop_take,YBr,YCL]
  congr 1
  omega
 rw[e,b2,b1]
theorem Inf.trans {u v w:Q11}(h1:Inf u v)(h2:Inf v w):Inf u w:=by
 obtain⟨i,h1⟩:=h1
 obtain⟨j,h2⟩:=h2
 exact⟨_,h1.trans h2⟩
theorem Zex (w:Q11):Inf w.tail w:=by
 cases w with
 | nil=>exact Inf.nil _
 | cons c w=>exact⟨1,by simp;omega,by simp⟩
theorem Zey (w:Q11):Inf w.dropLast w:=⟨0,by simp,by rw[YBg,YAx,YCa]⟩
theorem ZiU {v w:Q11}(h:Inf v w)(hl:v.length<w.length):Inf v w.dropLast\/Inf v w.tail:=by
 obtain⟨i,h1,h2⟩:=h
 cases i with
 | zero=>
  refine .inl ⟨0,by rw[YAx];omega,?_⟩
  rw[YBg]at h2 ⊢
  rw[YCa,YCL]
  have:min v.length (w.length-1)=v.length:=by omega
  rw[this];exact h2
 | succ i=>
  refine .inr ⟨i,by rw[YCh];omega,?_⟩
  rw[List.drop_tail];exact h2
theorem ZgR {v w:Q11}(h:Inf v w)(hl:w.length<=v.length):v=w:=by
 obtain⟨i,h1,h2⟩:=h
 have hi:i=0:=by omega
 subst hi
 rw[YBg,YAm hl]at h2
 exact h2.symm
theorem ZaP {l x:Q11}{n:Nat}(hn:n<=l.length+1):x∈wordsOf l n↔x.length=n/\Inf x l:=by
 unfold wordsOf
 rw[(Za1 _).mem_iff,Zf3,YAo]
 constructor
 .rintro⟨i,hi,rfl⟩
  have hi:=YAu.mp hi
  have hl:((l.drop i).take n).length=n:=by rw[YAc,YAj];omega
  exact⟨hl,i,by omega,by rw[hl]⟩
 .rintro⟨rfl,i,h1,h2⟩
  exact⟨i,YAu.mpr (by omega),h2⟩
theorem Zdh (l:Q11)(n:Nat):(wordsOf l n).length<=l.length+1:=by
 unfold wordsOf
 rw[(Za1 _).length_eq]
 have:∀(ls acc:Q22),(ls.foldl addT acc).length<=acc.length+ls.length:=by
  intro ls
  induction ls with
  | nil=>intro acc;simp
  | cons x ls ih=>
   intro acc
   rw[YCp]
   refine YAJ (ih _) ?_
   unfold addT
   split<;>simp<;>omega
 have h:=this ((List.range (l.length+1-n)).map fun i=>(l.drop i).take n) []
 rw[YAB,YBD]at h
 unfold ddl
 simp only[YDQ]at h
 omega
noncomputable def ZcB (sh st:Q22)(h:Q11)(c:Nat):Bool:=decide ((h++[c]).tail∈sh)&&!decide (h++[c]∈st)
noncomputable def Zeu (sh st:Q22)(m h:Q11):Q22:=(m.filter (ZcB sh st h)).map fun c=>h++[c]
noncomputable def ZdU (sh st:Q22)(m:Q11):Q22:=sh.flatMap (Zeu sh st m)
noncomputable def ZcA (l m:Q11)(i:Nat):Q22:=(List.range i).flatMap fun k=>ZdU (wordsOf l k) (wordsOf l (k+1)) m
noncomputable def Zar (l m:Q11):Q22:=ZcA l m (l.length+1)
theorem ZdC (l m:Q11)(i:Nat):ZcA l m (i+1)=ZcA l m i++ZdU (wordsOf l i) (wordsOf l (i+1)) m:=by
 unfold ZcA
 rw[YBX,YDS,List.flatMap_singleton]
theorem Zfg (sh st:Q22)(m h:Q11):(Zeu sh st m h).length<=m.length:=by unfold Zeu;rw[YAB];exact YAe _ _
theorem Zbz {α β:Type}{f:α->List β}{b:Nat}(h:∀x,(f x).length<=b):∀l:List α,(l.flatMap f).length<=l.length*b
 | []=>by simp
 | x::l=>by
  rw[List.flatMap_cons,YAE,YAk,Nat.succ_mul]
  have:=h x
  have:=Zbz h l
  omega
theorem ZiI (sh st:Q22)(m:Q11):(ZdU sh st m).length<=sh.length*m.length:=Zbz (Zfg sh st m) sh
theorem Zdz {sh st:Q22}{m w:Q11}:w∈ZdU sh st m↔∃h c,h∈sh/\c∈m/\w=h++[c]/\w.tail∈sh/\w∉st:=by
 unfold ZdU Zeu ZcB
 simp only[YDG,YAo,YBP,YAV,Bool.not_eq_true',decide_eq_true_iff,decide_eq_false_iff_not]
 constructor
 .rintro⟨h,hh,c,⟨hc,h1,h2⟩,rfl⟩;exact⟨h,c,hh,hc,rfl,h1,h2⟩
 .rintro⟨h,c,hh,hc,rfl,h1,h2⟩;exact⟨h,hh,c,⟨hc,h1,h2⟩,rfl⟩
structure Miss (l w:Q11):Prop where
 ne:w≠[]
 init:Inf w.dropLast l
 tail:Inf w.tail l
 no:¬Inf w l
theorem Zao {l m w:Q11}:w∈Zar l m↔Miss l w/\∃c∈m,w.getLast?=some c:=by
 unfold Zar ZcA
 rw[YDG]
 constructor
 .rintro⟨k,hk,hw⟩
  have hk:=YAu.mp hk
  obtain⟨h,c,h1,hc,rfl,h3,h4⟩:=Zdz.mp hw
  rw[ZaP (by omega)]at h1 h3
  refine⟨⟨by simp,by simpa using h1.2,h3.2,fun z=>h4 ((ZaP (by omega)).mpr ⟨by simp[h1.1],z⟩)⟩,c,hc,by simp⟩
 .rintro⟨⟨ne,hi,ht,hn⟩,c,hc,hl⟩
  have e:w.dropLast++[c]=w:=by
   rw[YBi ne]at hl
   have h:=YBz ne
   rw[Option.some.inj hl]at h
   exact h
  have hlen:w.dropLast.length=w.length-1:=YAx
  have h1:1<=w.length:=YBY.mpr ne
  refine⟨w.length-1,YAu.mpr (by have:=hi.len;omega),Zdz.mpr ⟨w.dropLast,c,?_,hc,e.symm,?_,?_⟩⟩
  .rw[ZaP (by have:=hi.len;omega)];exact⟨hlen,hi⟩
  .rw[ZaP (by have:=hi.len;omega)];exact⟨YCh,ht⟩
  .rw[ZaP (by have:=hi.len;omega)];exact fun z=>hn z.2
theorem Zet {l m:Q11}:∀(n:Nat) (w:Q11),w.length=n->(∀c∈w,c∈m)->¬Inf w l->∃v,v∈Zar l m/\Inf v w:=by
 intro n
 induction n with
 | zero=>
  intro w hw _ hn
  have:w=[]:=YBo.mp hw
  rw[this]at hn
  exact absurd (Inf.nil l) hn
 | succ n ih=>
  intro w hw hm hn
  have ne:w≠[]:=fun e=>by rw[e]at hw;simp at hw
  by_cases hi:Inf w.dropLast l
  .by_cases ht:Inf w.tail l
   .refine⟨w,Zao.mpr ⟨⟨ne,hi,ht,hn⟩,w.getLast ne,hm _ (List.getLast_mem ne),YBi ne⟩,Inf.refl w⟩
   .obtain⟨v,h1,h2⟩:=ih w.tail (by rw[YCh];omega) (fun c hc=>hm c (List.mem_of_mem_tail hc)) ht
    exact⟨v,h1,h2.trans (Zex w)⟩
  .obtain⟨v,h1,h2⟩:=ih w.dropLast (by rw[YAx];omega) (fun c hc=>hm c (YAf (by rw[<-YCa];exact hc))) hi
   exact⟨v,h1,h2.trans (Zey w)⟩
theorem ZiG {l m w:Q11}(hm:∀c∈w,c∈m):Inf w l↔∀v∈Zar l m,¬Inf v w:=by
 constructor
 .intro h v hv hw
  exact(Zao.mp hv).1.no (hw.trans h)
 .intro h
  by_cases hi:Inf w l
  .exact hi
  .obtain⟨v,h1,h2⟩:=Zet (m:=m) _ w rfl hm hi
   exact absurd h2 (h v h1)
theorem Zhv {l m v w:Q11}(hv:v∈Zar l m)(hw:w∈Zar l m)(h:Inf v w):v=w:=by
 rcases Nat.lt_or_ge v.length w.length with hl | hl
 .rcases ZiU h hl with h | h
  .exact absurd (h.trans (Zao.mp hw).1.init) (Zao.mp hv).1.no
  .exact absurd (h.trans (Zao.mp hw).1.tail) (Zao.mp hv).1.no
 .exact ZgR h hl
theorem same_upd3' {H H2:Hp}{e:Addr}{o':HO}(h:H e=none)(s:Same H H2):Same H (upd H2 e o'):=fun b u hb=>by
 have:b≠e:=fun z=>by rw[z,h]at hb;cases hb
 rw[Zac this];exact s _ _ hb
section
variable {tt:TT}{te:TE}{Q:VK}{τ0:St}{H:Hp}{K:Frag}{a:Addr}{xs:List V}
theorem CompRun.listL (b:Nat->Bool)(f:Nat->V)(hz:xs.length<=100000)(hx:SqL K H a xs)
  (ht:∀i H' Q' (h:i<xs.length),Same H H'->(∀H'',Same H' H''->Q' (b i) H'')->tt (τ0.set 0 (some (xs.getD i .non))) H' Q')
  (he:∀i H' Q' (h:i<xs.length),b i=true->Same H H'->(∀H'',Same H' H''->Q' (f i) H'')->te (τ0.set 0 (some (xs.getD i .non))) H' Q')
  (hQ:∀p H',Same H H'->H p=none->H' p=some (.lst (((List.range xs.length).filter b).map f))->Q (.ref p) H'):CompRun (Itl K a) τ0 (ZbX 0) tt te H Q:=by
 intro acc ha
 refine⟨fun i m τ H2=>i<=xs.length/\m=xs.length-i/\(∀w:Option V,τ.set 0 w=τ0.set 0 w)/\Same H H2/\H2 acc=some (.lst (((List.range i).filter b).map f)),⟨xs.length,YAq _,rfl,fun _=>rfl,Zap ha,Zad⟩,?_⟩
 rintro i m τ H2 ⟨hi,rfl,hτ,hs,hacc⟩
 by_cases hlt:i<xs.length
 .refine .inr ⟨⟨xs,xs[i],hs.seq hx,by simp[hlt]⟩,fun τ' H'=>(∀w:Option V,τ'.set 0 w=τ0.set 0 w)/\Same H H'/\H' acc=some (.lst (((List.range (i+1)).filter b).map f)),fun τ' H' q=>⟨xs.length-(i+1),by omega,hlt,rfl,q⟩,fun x H3 y=>?_⟩
  obtain⟨rfl,y⟩:=y
  have ex:x=xs.getD i .non:=by rw[YAI,y xs (hs.seq hx)];rfl
  subst ex
  show tt (τ.set 0 (some (xs.getD i .non))) _ _
  rw[hτ]
  have hτ':∀w:Option V,(τ0.set 0 (some (xs.getD i .non))).set 0 w=τ0.set 0 w:=fun w=>by rw[YCz]
  refine ht i _ _ hlt hs fun H4 s4=>?_
  cases hb:b i with
  | false=>
   rw[YAL YAD]
   refine⟨hτ',hs.trans s4,?_⟩
   rw[s4 _ _ hacc,YBX,YBV]
   simp[hb]
  | true=>
   rw[YAP rfl]
   refine he i _ _ hlt hb (hs.trans s4) fun H5 s5=>⟨_,s5 _ _ (s4 _ _ hacc),?_,hτ',same_upd3' ha ((hs.trans s4).trans s5),?_⟩
   .rw[YAB]
    have:=YAe b (List.range i)
    rw[YBD]at this
    rw[sizeLine_eq];omega
   .rw[Zad,YBX,YBV]
    simp[hb]
 .have e:i=xs.length:=by omega
  subst e
  exact .inl ⟨⟨xs,hs.seq hx,YAH _⟩,hQ acc H2 hs ha hacc⟩
theorem CompRun.tups (P:Nat->List V->Prop)(hz:xs.length<=100000)(hx:SqL K H a xs)
  (he:∀i H' Q' (h:i<xs.length),Same H H'->(∀p vs H'',Same H' H''->H'' p=some (.tup vs)->P i vs->Q' (.ref p) H'')->te (τ0.set 0 (some (xs.getD i .non))) H' Q')
  (hQ:∀p ys H',Same H H'->H p=none->H' p=some (.lst ys)->ys.length=xs.length->(∀i y,ys[i]?=some y->∃t vs,y=.ref t/\H' t=some (.tup vs)/\P i vs)->Q (.ref p) H'):CompRun (Itl K a) τ0 (ZbX 0) tAll te H Q:=by
 intro acc ha
 refine⟨fun i m τ H2=>i<=xs.length/\m=xs.length-i/\(∀w:Option V,τ.set 0 w=τ0.set 0 w)/\Same H H2/\∃ys,H2 acc=some (.lst ys)/\ys.length=i/\∀i y,ys[i]?=some y->∃t vs,y=.ref t/\H2 t=some (.tup vs)/\P i vs,
  ⟨xs.length,YAq _,rfl,fun _=>rfl,Zap ha,[],Zad,rfl,fun i y h=>by simp at h⟩,?_⟩
 rintro i m τ H2 ⟨hi,rfl,hτ,hs,ys,hacc,hlen,hall⟩
 by_cases hlt:i<xs.length
 .refine .inr ⟨⟨xs,xs[i],hs.seq hx,by simp[hlt]⟩,fun τ' H'=>(∀w:Option V,τ'.set 0 w=τ0.set 0 w)/\Same H H'/\∃ys,H' acc=some (.lst ys)/\ys.length=i+1/\∀i y,ys[i]?=some y->∃t vs,y=.ref t/\H' t=some (.tup vs)/\P i vs,fun τ' H' q=>⟨xs.length-(i+1),by omega,hlt,rfl,q⟩,fun x H3 y=>?_⟩
  obtain⟨rfl,y⟩:=y
  have ex:x=xs.getD i .non:=by rw[YAI,y xs (hs.seq hx)];rfl
  subst ex
  unfold ZbX tAll
  dsimp only
  rw[YAP rfl,hτ]
  have hτ':∀w:Option V,(τ0.set 0 (some (xs.getD i .non))).set 0 w=τ0.set 0 w:=fun w=>by rw[YCz]
  refine he i _ _ hlt hs fun p vs H5 s5 hp hP=>⟨ys,s5 _ _ hacc,by rw[hlen,sizeLine_eq];omega,hτ',same_upd3' ha (hs.trans s5),ys++[.ref p],Zad,by simp[hlen],fun j z hz'=>?_⟩
  have ne:∀ {t:Addr} {us:List V},H5 t=some (.tup us)->t≠acc:=fun h e=>by rw[e,s5 _ _ hacc]at h;cases h
  by_cases hj:j<ys.length
  .rw[YAl hj]at hz'
   obtain⟨t,us,rfl,h1,h2⟩:=hall j z hz'
   have h1':=s5 _ _ h1
   exact⟨t,us,rfl,by rw[Zac (ne h1')];exact h1',h2⟩
  .rw[YAn (by omega)]at hz'
   have hj':j-ys.length=0:=by
    rcases Nat.eq_zero_or_pos (j-ys.length) with h | h
    .exact h
    .rw[YBG (by simp;omega)]at hz';cases hz'
   rw[hj']at hz'
   cases hz'
   have:j=i:=by omega
   exact⟨p,vs,rfl,by rw[Zac (ne hp)];exact hp,by rw[this];exact hP⟩
 .have e:i=xs.length:=by omega
  subst e
  exact .inl ⟨⟨xs,hs.seq hx,YAH _⟩,hQ acc ys H2 hs ha hacc hlen hall⟩
end
noncomputable def infB (w l:Q11):Bool:=(List.range (l.length+1)).any fun i=>decide (i+w.length<=l.length)&&decide ((l.drop i).take w.length=w)
theorem Zbu {w l:Q11}:infB w l=true↔Inf w l:=by
 unfold infB Inf AtW
 rw[YBa]
 constructor
 .rintro⟨i,_,h⟩
  rw[YAV,decide_eq_true_eq,decide_eq_true_eq]at h
  exact⟨i,h⟩
 .rintro⟨i,h1,h2⟩
  refine⟨i,YAu.mpr (by omega),?_⟩
  rw[YAV,decide_eq_true_eq,decide_eq_true_eq]
  exact⟨h1,h2⟩
theorem Zce {w l:Q11}:infB w l=false↔¬Inf w l:=by rw[<-Zbu,Bool.not_eq_true]
theorem ZgV (w l:Q11):(!(Builtin.Str.occurrences ⟨l.toArray⟩ ⟨w.toArray⟩ 0 (⟨l.toArray⟩:Str).length 1).isEmpty)=infB w l:=by
 rw[YBR,StrLaws.found_iff,Zbu]
 exact⟨fun ⟨i,h⟩=>⟨i,(Zbf l w i).mp h⟩,fun ⟨i,h⟩=>⟨i,(Zbf l w i).mpr h⟩⟩
section
variable {X:Cx}
theorem Zbr:OpR X (compareOp .In) (fun x y H Q=>∃w l,x=tx w/\y=tx l/\Q (.bl (infB w l)) H):=by
 rintro pins s U H x y v u Q I rx ry ⟨w,l,rfl,rfl,q⟩
 refine Ze7 pins s U H _ _ v u Q I rx ry ⟨_,_,rfl,rfl,?_⟩
 rw[ZgV];exact q
theorem Zdw:OpR X (compareOp .NotIn) (fun x y H Q=>∃w l,x=tx w/\y=tx l/\Q (.bl (!infB w l)) H):=by
 rintro pins s U H x y v u Q I rx ry ⟨w,l,rfl,rfl,q⟩
 refine Ze5 pins s U H _ _ v u Q I rx ry ⟨_,_,rfl,rfl,?_⟩
 rw[ZgV];exact q
end
section
variable {X:Cx}
theorem Zjj (hc:X.calm=true):ZbU X (.builtin "any") (fun xs H Q=>∃(a:Addr) (bs:List Bool),xs=[.ref a]/\H a=some (.lst (bs.map V.bl))/\Q (.bl (bs.any id)) H):=by
 rintro pins s U H xs us Q I r ⟨a,bs,rfl,ha,q⟩
 obtain⟨u,rfl,ru⟩:=r.one
 cases ru
 obtain⟨_,its,n,r',hlen,e⟩:=I.lstM ha
 have hl:s.heap.IsList a its.toArray:=PySem.IsL.isList e
 have hne:a≠s.heap.objs.size:=YAd (YAN e)
 refine call_any_walkS (YCt hl ?_)
 have hL:its.toArray.size=bs.length:=by rw[YAM,<-r'.length,YAB]
 have W:=(Walks.list (prog:=X.prog) (w:=X.w) (A:=X.A.in1) (by simpa using I.ok.hd hc) s.heap.objs.size a hne its.toArray).toS
 refine⟨s.heap.objs.size,_,_,_,_,_,_,fun i=>bs.getD i true,rfl,W,⟨⟨_,YAO _ rfl,rfl,rfl⟩,hl.push _⟩,?_,fun s' hm=>?_⟩
 .intro i v s Q E hv hQ
  have e':its[i]?=some v:=by simpa using hv
  obtain⟨x,hx,rx⟩:=ZfN r' e'
  rw[YAW]at hx
  cases hb:bs[i]? with
  | none=>rw[hb]at hx;cases hx
  | some b=>
   rw[hb]at hx
   cases hx
   obtain rfl:v=Value.bool b:=rx
   have:bs.getD i true=b:=by rw[YAI,hb];rfl
   have hQ':Q (bs.getD i true) s:=hQ
   rw[this]at hQ'
   exact YBc hQ'
 .have ea:(List.range its.toArray.size).any (fun i=>bs.getD i true)=bs.any id:=by
   rw[hL]
   rw[YBR,YBa,YBa]
   constructor
   .rintro⟨i,hi,h⟩
    have hi:=YAu.mp hi
    rw[YAI,YAG hi]at h
    exact⟨_,YBw hi,h⟩
   .rintro⟨b,hb,h⟩
    obtain⟨i,hi,rfl⟩:=YBZ hb
    refine⟨i,YAu.mpr hi,?_⟩
    rw[YAI,YAG hi]
    exact h
  rw[ea]
  have I2:Inv X pins U H s':=I.call' (ch:=[]) hm.os (Un.kept fun b o q=>hm.heap b o (fun z=>?_) (YAC _ q)) (I.hok.kept fun b o q=>hm.heap b o (fun z=>?_) (YAC _ q)) (by rw[show s'.gens=s.gens from hm.gens];exact I.bare) (fun b hb=>by cases hb)
  .exact⟨.bl _,H,I2,rfl,q⟩
  .have z:b=s.heap.objs.size:=by simpa using z
   rw[z]at q;exact absurd (YAN q) (YAz _)
  .have z:b=s.heap.objs.size:=by simpa using z
   rw[z]at q;exact absurd (YAN q) (YAz _)
end
section
variable {X:Cx}{pins:List (Addr×Obj)}{U:St}{H:Hp}{s:Shared}{a b:Addr}{kvs more:List (Key×V)}{A:Around}{E:Q33}
end
section
variable {prog:Program}{w:World}{A:Around}{E:Q33}{s:Shared}{l I S:Addr}{ns:List Int}{vs:List Value}{R:Result->Shared->Prop}{Q:Q33}{d:Value}
end
section
variable {X:Cx}{e:Expr}{ta:TA}{p p2 pos kpos:Pos}
end
open PySem.W (Frag)
theorem Zeo {X:Cx}:MtM X "str.find" (fun x vs H Q=>∃l w,x=tx l/\vs=[tx w]/\∀r:Int,((r=-1/\¬Inf w l)\/∃i:Nat,r=(i:Int)/\AtW l w i/\∀j,j<i->¬AtW l w j)->Q (.int r) H):=by
 rintro pins s U H x vs v us Q I rx rv ⟨l,w,rfl,rfl,q⟩
 obtain⟨t,rfl⟩:=rx
 obtain⟨u,rfl,t',rfl⟩:=rv.one
 refine SC.find ?_
 refine⟨.int _,H,I.tok _,⟨_,rfl⟩,q _ ?_⟩
 rcases find_whole (⟨l.toArray⟩:Str) ⟨w.toArray⟩ with⟨h1,h2⟩|⟨i,h1,h2,h3⟩
 .exact .inl ⟨h1,fun ⟨i,hi⟩=>h2 i ((Zbf l w i).mpr hi)⟩
 .exact .inr ⟨i,h1,(Zbf l w i).mp h2,fun j hj hA=>h3 j hj ((Zbf l w j).mpr hA)⟩
section
variable {τ0:St}{tt:TT}{te:TE}{H:Hp}{Q:VK}
end
section
variable {X:Cx}{pos:Pos}
end
theorem ZlH (x y:Str):(Txt.rfind x y=-1/\∀i,¬StrLaws.At x y x.length i)\/∃i:Nat,Txt.rfind x y=(i:Int)/\StrLaws.At x y x.length i/\∀k,i<k->¬StrLaws.At x y x.length k:=by
 have key:∀(n a:Nat) (o:Option Nat),(∀i,o=some i->StrLaws.At x y x.length i/\i<a/\∀k,i<k->k<a->¬StrLaws.At x y x.length k)->(o=none->∀k,k<a->¬StrLaws.At x y x.length k) ->
   ∀r,r=Id.run (forIn (List.range' a n) o fun i r=>if (decide (i+y.length<=x.length)&&Builtin.Str.subAt x y i)=true then pure (ForInStep.yield (some i)) else pure (ForInStep.yield r)) ->
    (∀i,r=some i->StrLaws.At x y x.length i/\∀k,i<k->k<a+n->¬StrLaws.At x y x.length k)/\(r=none->∀k,k<a+n->¬StrLaws.At x y x.length k):=by
  intro n
  induction n with
  | zero=>
   intro a o h1 h2 r hr
   have e:r=o:=hr
   subst e
   exact⟨fun i hi=>⟨(h1 i hi).1,fun k hk hl=>(h1 i hi).2.2 k hk (by omega)⟩,fun e k hk=>h2 e k (by omega)⟩
  | succ n ih=>
   intro a o h1 h2 r hr
   rw[List.range'_succ,YDR]at hr
   by_cases c:(decide (a+y.length<=x.length)&&Builtin.Str.subAt x y a)=true
   .rw[YAP c]at hr
    have hA:StrLaws.At x y x.length a:=by
     rw[YAV,decide_eq_true_iff]at c
     exact c
    have:=ih (a+1) (some a) (fun i hi=>by cases hi;exact⟨hA,YDF _,fun k h3 h4=>by omega⟩) (fun e=>by cases e) r hr
    rw[show a+(n+1)=a+1+n by omega]
    exact this
   .rw[YAL c]at hr
    have hA:¬StrLaws.At x y x.length a:=fun z=>c (by rw[YAV,decide_eq_true_iff];exact z)
    have:=ih (a+1) o (fun i hi=>⟨(h1 i hi).1,by have:=(h1 i hi).2.1;omega,fun k h3 h4=>by
     by_cases e:k=a
     .rw[e];exact hA
     .exact(h1 i hi).2.2 k h3 (by omega)⟩) (fun e k hk=>by
     by_cases e2:k=a
     .rw[e2];exact hA
     .exact h2 e k (by omega)) r hr
    rw[show a+(n+1)=a+1+n by omega]
    exact this
 have e:Builtin.Str.lastOccurrence x y 0 x.length=Id.run (forIn (List.range' 0 (x.length+1)) (none:Option Nat) fun i r=>if (decide (i+y.length<=x.length)&&Builtin.Str.subAt x y i)=true then pure (ForInStep.yield (some i)) else pure (ForInStep.yield r)):=by
  unfold Builtin.Str.lastOccurrence
  simp only[Std.Legacy.Range.forIn_eq_forIn_range',Std.Legacy.Range.size]
  simp
 obtain⟨k1,k2⟩:=key (x.length+1) 0 none (fun i hi=>by cases hi) (fun _ k hk=>by omega) _ e
 unfold Txt.rfind
 cases hr:Builtin.Str.lastOccurrence x y 0 x.length with
 | none=>
  refine .inl ⟨rfl,fun i hi=>?_⟩
  exact k2 hr i (by have:=hi.1;omega) hi
 | some i=>
  refine .inr ⟨i,rfl,(k1 i hr).1,fun k hk hA=>?_⟩
  exact(k1 i hr).2 k hk (by have:=hA.1;omega) hA
theorem ZjP {X:Cx}:MtM X "str.rfind" (fun x vs H Q=>∃l w,x=tx l/\vs=[tx w]/\∀r:Int,((r=-1/\¬Inf w l)\/∃i:Nat,r=(i:Int)/\AtW l w i/\∀j,i<j->¬AtW l w j)->Q (.int r) H):=by
 rintro pins s U H x vs v us Q I rx rv ⟨l,w,rfl,rfl,q⟩
 obtain⟨t,rfl⟩:=rx
 obtain⟨u,rfl,t',rfl⟩:=rv.one
 refine SC.rfind ?_
 refine⟨.int _,H,I.tok _,⟨_,rfl⟩,q _ ?_⟩
 rcases ZlH (⟨l.toArray⟩:Str) ⟨w.toArray⟩ with⟨h1,h2⟩|⟨i,h1,h2,h3⟩
 .exact .inl ⟨h1,fun ⟨i,hi⟩=>h2 i ((Zbf l w i).mpr hi)⟩
 .exact .inr ⟨i,h1,(Zbf l w i).mp h2,fun j hj hA=>h3 j hj ((Zbf l w j).mpr hA)⟩
theorem Zf0:mroOf (.type "dict")=pure [.type "dict",.type "object"]:=by rw[mroOf_type];kernel_rfl
theorem ZdT:typeLookup (.type "dict") "__new__"=pure (some (.builtin "dict.__new__")):=by rw[typeLookup_type,builtinLookup_eq_fast];kernel_rfl
theorem ZhI:TypeCalled "dict" "dict.__new__" "dict.__init__":=
 ⟨by decide +kernel,by decide +kernel,⟨_,_,Zf0⟩,madeBy_type Zf0 ZdT (by decide +kernel),by decide +kernel,by rw[isSubtype_type];kernel_rfl,F.slot_dict_init⟩
theorem ZeQ (a:Value):checkTypeCall "dict" ⟨[a],[]⟩=pure ():=by kernel_rfl
theorem ZfZ (a:Value):checkBuiltinCall "dict.__new__" ⟨[.type "dict",a],[]⟩=pure ():=by kernel_rfl
theorem ZeD:entryFor table "dict.__new__"=some Builtin.«dict.__new__»:=entryFor_of_tree (by kernel_rfl)
theorem Zct:plainId "dict.__new__"=true:=by decide +kernel
theorem Zcl:entryFor table "dict.update.loop"=some Builtin.«dict.update.loop»:=entryFor_of_tree (by kernel_rfl)
theorem Zbe:plainId "dict.update.loop"=true:=by decide +kernel
theorem ZeR:isSubtype (.type "dict") (.type "dict")=pure true:=by rw[isSubtype_type];kernel_rfl
theorem Zix:typeLookup (.type "list") "keys"=pure none:=by rw[typeLookup_type,builtinLookup_eq_fast];kernel_rfl
noncomputable abbrev noDct:Obj:={ cls:=.type "dict",data:=.dict #[] }
section
variable {prog:Program}{w:World}{A:Around}{E:Q33}{s:Shared}
theorem ZlX (a:Value){Q₁:Q33}(h:Q₁ (.ref s.heap.objs.size) { s with heap:=s.heap.push noDct }):
  codeAny (model prog w) A (.call (.builtin "dict.__new__") ⟨[.type "dict",a],[]⟩) (wants Q₁ E) s:=by
 refine codeAny_of_tree ?_
 show wpAny _ A.in1 (checkBuiltinCall "dict.__new__" ⟨[.type "dict",a],[]⟩ >>= fun _=>again (.builtin "dict.__new__" ⟨[.type "dict",a],[]⟩)) _ _ s
 refine YAA (wpAny_of_eq (ZfZ a) (YAF ⟨plainId_quiet Zct _,codeAny_builtin ZeD ?_⟩))
 rw[YBT Zct _]
 unfold Builtin.«dict.__new__»
 have hsub:=ZeR
 have hmro:=Zf0
 obtain⟨hp,g,d,tk,os⟩:=s
 dsimp only
 wp_walk
 exact h
theorem Ziy {a:Addr} {o:Obj} {xs:Array Value} {k:Nat} {Q:Option Value->Shared->Prop} (hx:s.heap.get? a=some o) (hc:o.cls=.type "list") (hdat:o.data=.seq xs k) (hd:o.dict=none) (hA:A.handled=none)
  (h:∀h' tk,(∀b ob,s.heap.get? b=some ob->h'.get? b=some ob)->Q none { s with heap:=h',toks:=tk }):
  wpAny (model prog w) A (getAttr? (.ref a) "keys") Q E s:=by
 obtain⟨c,dct,dat,sl⟩:=o
 simp only at hc hdat hd
 subst hc hdat hd
 obtain⟨hp,g,d,tk,os⟩:=s
 have hT:∀tk',(⟨hp,g,d,tk',os⟩:Shared).TypeIs (.ref a) "list":=fun _=>⟨_,hx,rfl⟩
 have f1:=sub_AttributeError
 have f3:=F.slot_list_getattribute.lookup
 have f4:=F.slot_list_getattribute.bind (.ref a)
 have f5:=am_list_getattr_none
 unfold getAttr? getAttrBy? getAttrBy
 repeat (any_goals (first | assumption | exact hT _ | ((with_reducible show wpAny _ _ (call (Value.builtin "list.__getattribute__") _ _) _ _ _);refine call_meets F.slot_list_getattribute (hT _) am_entry_list_getattribute (F.args_list_getattribute_2 _ _) (meets_getattribute_miss_list a xs k sl "keys" _ Zix (by decide +kernel)) ⟨hx,hA,fun h' tk' e hx'=>?_⟩) | wp_step))
 obtain⟨t',u',he⟩:=hx'.there
 show wpAny _ _ (getattributeRaised _ _ _ _ _ _ _) _ _ _
 unfold getattributeRaised
 repeat (any_goals (first | assumption | wp_step))
 exact h _ _ hx'.keeps
def PairAt (P:Program)(w:World)(h:Heap)(u:Value)(x:Key×Value):Prop:=∃b kv,u=.ref b/\h.IsTuple b #[kv,x.2]/\(Zaq P w).is x.1 kv=true
theorem PairAt.keep {h h':Heap}{u:Value}{x:Key×Value}{d It l:Addr}{i:Nat}{kvs:List (Key×Value)}(p:PairAt prog w h u x)(hd:h.DictOf (Zaq prog w) d kvs)(hi:h.IsListIter It l i)(k:∀b o,b≠d->b≠It->h.get? b=some o->h'.get? b=some o):PairAt prog w h' u x:=by
 obtain⟨b,kv,rfl,⟨o,ho,hc,r⟩,hk⟩:=p
 obtain⟨od,_,_,hod,hcd,_⟩:=hd
 obtain⟨oi,hoi,hci,_⟩:=hi
 refine⟨b,kv,rfl,⟨o,k b o (fun z=>?_) (fun z=>?_) ho,hc,r⟩,hk⟩
 .subst z
  rw[ho]at hod
  cases hod
  have:=hcd.1
  rw[hc]at this
  exact absurd this (by decide)
 .subst z
  rw[ho]at hoi
  cases hoi
  rw[hc]at hci
  exact absurd hci (by decide)
theorem Zeq (kvs:List (Key×Value))(k:Key)(v:Value):(stored kvs k v).length<=kvs.length+1:=by
 unfold stored
 split<;>simp
theorem Zke {R:Result->Shared->Prop}{l It d:Addr}{us:List Value}(hh:A.handled=none)(n1:It≠d)(n2:l≠d)(n3:l≠It):∀(xs:List (Key×Value)) (i:Nat) (n:Int) (tk:Tok) (s:Shared) (kvs:List (Key×Value)),i+xs.length=us.length ->
  (∀j x,xs[j]?=some x->∃u,us[i+j]?=some u/\PairAt prog w s.heap u x)->s.heap.IsListIter It l i->s.heap.IsList l us.toArray->s.heap.DictOf (Zaq prog w) d kvs->kvs.length+xs.length<=sizeLine ->
  (∀h' tk',(∀b o,b≠d->b≠It->s.heap.get? b=some o->h'.get? b=some o)->h'.DictOf (Zaq prog w) d (xs.foldl (fun a x=>stored a x.1 x.2) kvs)->R (.ok (.ret .none)) { s with heap:=h',toks:=tk' }) ->
  codeAny (model prog w) A (.builtin "dict.update.loop" ⟨[.ref d,.ref It,.int n tk,.none],[]⟩) R s:=by
 intro xs
 induction xs with
 | nil=>
  intro i n tk s kvs hl hx hi hL hD hz hR
  refine codeAny_builtin Zcl ?_
  rw[YBT Zbe _]
  show wpAny _ A.in1 (pyNext (.ref It) >>= fun r=>_) _ _ s
  refine YAA (wpAny_pyNext_list_end (by simp[hh]) hi hL (by simp at hl;simp[hl]) fun h' eb=>?_)
  dsimp only
  unfold Builtin.Dict.addKeywords
  wp_walk
  exact hR h' _ (fun b o hb hi e=>eb b o hi e) (hD.extBut eb (YAv n1))
 | cons x xs ih=>
  intro i n tk s kvs hl hx hi hL hD hz hR
  refine codeAny_builtin Zcl ?_
  rw[YBT Zbe _]
  show wpAny _ A.in1 (pyNext (.ref It) >>= fun r=>_) _ _ s
  obtain⟨u,hu,pu⟩:=hx 0 x rfl
  refine YAA (wpAny_pyNext_list_item hi hL (x:=u) (by simpa using hu) fun h1 hi1 sb1=>?_)
  have pu1:=pu.keep hD hi (h':=h1) (fun b o _ hb e=>(sb1.2 b hb).trans e)
  obtain⟨b,kv,rfl,hb,hk⟩:=pu1
  have hT:Shared.TypeIs { s with heap:=h1 } (.ref b) "tuple":=hb.typeIs
  have hD1:h1.DictOf (Zaq prog w) d kvs:=hD.sameBut sb1 (YAv n1)
  have hL1:h1.IsList l us.toArray:=(let ⟨o,ho,r⟩:=hL;⟨o,(sb1.2 l n3).trans ho,r⟩)
  dsimp only
  refine YAA (YBM (YAA (wpAny_tryCatch ?_)))
  unfold Builtin.Dict.pairItems
  refine YAA (YCx hT ?_)
  rw[YAP (by decide)]
  obtain⟨o,ho,hc,nn,hd⟩:=hb
  refine YAA (wpAny_seqItems ho hd (YAF ?_))
  show wpAny _ _ (holding [kv,x.2] (dictSet d kv x.2)) _ _ _
  have hz':kvs.length+(xs.length+1)<=sizeLine:=hz
  refine YBM (wpAny_dictSet_pairs hk hD1 (fun h2 hD2 sb2=>?_) (hsz:=by omega))
  have k2:∀b o,b≠d->b≠It->s.heap.get? b=some o->h2.get? b=some o:=fun b o z1 z2 e=>(sb2.2 b z1).trans ((sb1.2 b z2).trans e)
  refine YAF ⟨plainId_quiet Zbe _,ih (i+1) _ _ _ _ (by have:i+(xs.length+1)=us.length:=hl;omega) (fun j y hy=>?_) ?_ ?_ hD2 ?_ (fun h' tk' kp hD'=>hR h' tk' (fun b o z1 z2 e=>kp b o z1 z2 (k2 b o z1 z2 e)) hD')⟩
  .obtain⟨u2,hu2,p2⟩:=hx (j+1) y hy
   exact⟨u2,by rw[<-hu2];congr 1;omega,p2.keep hD hi k2⟩
  .obtain⟨oi,hoi,r⟩:=hi1
   exact⟨oi,(sb2.2 It n1).trans hoi,r⟩
  .obtain⟨ol,hol,r⟩:=hL1
   exact⟨ol,(sb2.2 l n2).trans hol,r⟩
  .have:=Zeq kvs x.1 x.2
   omega
theorem Zkf {a:Addr} {us:List Value} {o:Obj} {nn:Nat} {xs:List (Key×Value)} {Q:Q33} (hh:A.handled=none) (ho:s.heap.get? a=some o) (hc:o.cls=.type "list") (hdat:o.data=.seq us.toArray nn) (hd:o.dict=none) (hl:us.length=xs.length)
  (hx:∀(j:Nat) (x:Key×Value),xs[j]?=some x->∃u,us[j]?=some u/\PairAt prog w s.heap u x) (hz:xs.length<=sizeLine)
  (h:∀h' tk',(∀b o,s.heap.get? b=some o->h'.get? b=some o)->h'.DictOf (Zaq prog w) s.heap.objs.size (xs.foldl (fun a x=>stored a x.1 x.2) [])->Q (.ref s.heap.objs.size) { s with heap:=h',toks:=tk' }):
  wpAny (model prog w) A (call (.type "dict") [.ref a]) Q E s:=by
 refine callType_codes (Q₁:=fun obj s_1=>obj=.ref s.heap.objs.size/\s_1={ s with heap:=s.heap.push noDct }) ZhI (ZeQ _) F.entry_dict_init (ZlX _ ⟨rfl,rfl⟩) fun obj s_1 h9=>?_
 obtain⟨rfl,rfl⟩:=h9
 have lt:=YAN ho
 have hS:(s.heap.push noDct).get? s.heap.objs.size=some noDct:=YAO _ rfl
 have hT:Shared.TypeIs { s with heap:=s.heap.push noDct } (.ref s.heap.objs.size) "dict":=⟨_,hS,rfl⟩
 refine⟨hT,F.args_dict_init_2 _ _,?_⟩
 unfold Builtin.«dict.__init__» Builtin.Dict.selfAndRest
 refine YAA (YAA (wpAny_notOrdered_dict hT ?_))
 show wpAny _ _ (pure (s.heap.objs.size,[Value.ref a])) _ _ _
 refine YAF ?_
 show wpAny _ _ (Builtin.Dict.updateFrom "dict.__init__" s.heap.objs.size (.ref a) [] .none) _ _ _
 unfold Builtin.Dict.updateFrom
 have ho1:(s.heap.push noDct).get? a=some o:=YAC _ ho
 have hTl:Shared.TypeIs { s with heap:=s.heap.push noDct } (.ref a) "list":=⟨_,ho1,hc⟩
 refine YAA (YCx hTl ?_)
 rw[YAP (by decide)]
 refine YAA (Ziy ho1 hc hdat hd (by simp[hh]) fun h2 tk2 k2=>?_)
 rw[YAP (show (none:Option Value).isNone=true from rfl)]
 refine YAA (YCI ?_)
 have hL2:h2.IsList a us.toArray:=⟨o,k2 _ _ ho1,hc,nn,hdat⟩
 have lt2:s.heap.objs.size<h2.objs.size:=YAN (k2 _ _ hS)
 have la2:a<h2.objs.size:=YAN (k2 _ _ ho1)
 show wpAny _ _ (pyIter (.ref a) >>= fun it=>again (.builtin "dict.update.loop" ⟨[.ref s.heap.objs.size,it,rawInt 0,.none],[]⟩)) _ _ _
 refine YAA (YCt hL2 ?_)
 have k3:∀b o,s.heap.get? b=some o->(h2.push { cls:=.type "list_iterator",data:=.fields #[.ref a,.int 0 0] }).get? b=some o:=fun b o e=>YAC _ (k2 b o (YAC _ e))
 have hD3:(h2.push { cls:=.type "list_iterator",data:=.fields #[.ref a,.int 0 0] }).DictOf (Zaq prog w) s.heap.objs.size []:=by
  obtain⟨od,es,ep,hod,r⟩:=Heap.DictOf.new (knd:=Zaq prog w) s.heap
  exact⟨od,es,ep,YAC _ (k2 _ _ hod),r⟩
 refine YAF ⟨plainId_quiet Zbe _,Zke (by simp[hh]) (Nat.ne_of_gt lt2) (YAd lt) (YAd la2) xs 0 _ _ _ [] (by rw[hl];simp) (fun j x hj=>?_) ⟨_,YAO _ rfl,rfl,rfl⟩ (hL2.push _) hD3 (by simpa using hz) fun h' tk' kp hD'=>?_⟩
 .obtain⟨u,hu,b,kv,rfl,⟨ob,hob,r⟩,hk⟩:=hx j x hj
  exact⟨_,by simpa using hu,b,kv,rfl,⟨ob,k3 _ _ hob,r⟩,hk⟩
 .refine⟨rfl,h h' tk' (fun b o e=>kp b o (YAd (YAN e)) (fun z=>?_) (k3 b o e)) hD'⟩
  have z1:=YAN e
  rw[z]at z1
  exact absurd (Nat.lt_trans z1 lt2) (YAz _)
end
section
variable {X:Cx}
def ZkV (H:Hp)(ys:List V)(xs:List (Key×V)):Prop:=ys.length=xs.length/\∀(i:Nat) (y:V),ys[i]?=some y->∃(x:Key×V) (b:Addr),xs[i]?=some x/\y=.ref b/\H b=some (.tup [kV x.1,x.2])
def rDct:List V->Hp->VK->Prop:=fun vs H Q=>∃p ys xs,vs=[.ref p]/\H p=some (.lst ys)/\ZkV H ys xs/\∀d,H d=none->Q (.ref d) (upd H d (.dK (Zbm [] xs)))
theorem ZgH {pins:List (Addr×Obj)}{U:St}{H:Hp}{s:Shared}(I:Inv X pins U H s):∀(xs:List (Key×V)) (ys:List V) (its:List Value),Vals ys its->ZkV H ys xs->∃vs:List (Key×Value),KV xs vs/\∀(j:Nat) (x:Key×Value),vs[j]?=some x->∃u,its[j]?=some u/\PairAt X.prog X.w s.heap u x
 | [],ys,its,r,⟨hl,hx⟩=>⟨[],.nil,fun j x h=>by simp at h⟩
 | x::xs,ys,its,r,⟨hl,hx⟩=>by
  cases r with
  | nil=>simp at hl
  | @cons y u ys its ry r=>
   obtain⟨x',b,e1,rfl,hb⟩:=hx 0 y rfl
   cases e1
   obtain rfl:u=Value.ref b:=ry
   obtain⟨its2,r2,hT,_⟩:=I.tuple (a:=b) (xs:=[kV x.1,x.2]) (.inl (.inl hb))
   obtain⟨k',v',rfl,rk,rv⟩:∃k' v',its2=[k',v']/\RelV (kV x.1) k'/\RelV x.2 v':=by
    cases r2 with
    | cons p q=>
     cases q with
     | cons p' q'=>cases q';exact⟨_,_,rfl,p,p'⟩
   obtain⟨vs,hv,hp⟩:=ZgH I xs ys its r ⟨by simpa using hl,fun i z hz=>by
    obtain⟨x2,b2,h1,h2⟩:=hx (i+1) z hz
    exact⟨x2,b2,h1,h2⟩⟩
   refine⟨(x.1,v')::vs,.cons ⟨rfl,rv⟩ hv,fun j z hz=>?_⟩
   cases j with
   | zero=>
    cases hz
    exact⟨_,rfl,b,k',rfl,hT,ZdE rk⟩
   | succ j=>exact hp j z hz
theorem Zkj (hc:X.calm=true):ZbU X (.type "dict") rDct:=by
 rintro pins s U H vs us Q I r ⟨p,ys,xs,rfl,hp,hx,q⟩
 obtain⟨u,rfl,ru⟩:=r.one
 cases ru
 obtain⟨its,rv,⟨o,n,ho,hcl,hd,hs⟩,hz⟩:=I.list (a:=p) (xs:=ys) (.inl (.inl hp))
 obtain⟨vs,hv,hP⟩:=ZgH I xs ys its rv hx
 have l1:=rv.length
 have l2:=hv.length
 have l3:=hx.1
 refine Zkf (I.ok.hd hc) ho hcl hs hd (by omega) hP (by omega) fun h' tk' kp hD=>?_
 refine⟨.ref s.heap.objs.size,_,I.laid (t':=tk') kp (YAH _) (Zeb (kvs:=Zbm [] xs) ?_ ?_ (KV.merge hv .nil) hD),rfl,q _ I.fresh⟩
 .have:=Zbt xs []
  simp only[YDQ]at this
  omega
 .exact beq_eq_false_iff_ne.mpr (YAv (YAd I.big))
end
def BefW (a b:Q11):Prop:=a.length<b.length\/(a.length=b.length/\a<b)
theorem Zfb:∀ {a b:Q11} {x y:Q11},a.length=b.length->a<b->a++x<b++y
 | [],[],_,_,_,h=>by cases h
 | [],_::_,_,_,e,_=>by simp at e
 | _::_,[],_,_,e,_=>by simp at e
 | c::a,d::b,x,y,e,h=>by
  rw[YDJ,YDJ]
  cases h with
  | rel h=>exact List.Lex.rel h
  | cons h=>exact List.Lex.cons (Zfb (by simpa using e) h)
theorem ZiA:∀(a:Q11) {c d:Nat},c<d->a++[c]<a++[d]
 | [],_,_,h=>List.Lex.rel h
 | _::a,_,_,h=>List.Lex.cons (ZiA a h)
theorem Ziz:∀(a b:Q11),a<b\/a=b\/b<a
 | [],[]=>.inr (.inl rfl)
 | [],_::_=>.inl .nil
 | _::_,[]=>.inr (.inr .nil)
 | c::a,d::b=>by
  rcases Nat.lt_trichotomy c d with h | h | h
  .exact .inl (List.Lex.rel h)
  .subst h
   rcases Ziz a b with h | h | h
   .exact .inl (List.Lex.cons h)
   .exact .inr (.inl (by rw[h]))
   .exact .inr (.inr (List.Lex.cons h))
  .exact .inr (.inr (List.Lex.rel h))
theorem ZeO (l:Q11)(n:Nat):(wordsOf l n).Pairwise (· < ·):=by
 have h1:(wordsOf l n).Pairwise (fun a b=>leT a b=true):=ZbB _
 have h2:(wordsOf l n).Nodup:=(Za1 _).nodup_iff.mpr (by rw[<-ZeG];exact ZcG _)
 refine(h1.and h2).imp ?_
 rintro a b ⟨x,y⟩
 have x':¬b<a:=by simpa [leT] using x
 rcases Ziz a b with z | z | z
 .exact z
 .exact absurd z y
 .exact absurd z x'
theorem ZaE {l m:Q11}(hm:m.Pairwise (· < ·)):(Zar l m).Pairwise BefW:=by
 unfold Zar ZcA
 have len:∀k w,k<=l.length->w∈ZdU (wordsOf l k) (wordsOf l (k+1)) m->w.length=k+1:=fun k w hk hw=>by
  obtain⟨h,c,h1,_,rfl,_⟩:=Zdz.mp hw
  rw[ZaP (by omega)]at h1
  rw[YAE,h1.1];rfl
 rw[List.pairwise_flatMap]
 refine⟨fun k hk=>?_,?_⟩
 .have hk:=YAu.mp hk
  unfold ZdU
  rw[List.pairwise_flatMap]
  refine⟨fun h hh=>?_,?_⟩
  .unfold Zeu
   rw[YBm]
   exact(hm.filter _).imp fun {c d} hcd=>.inr ⟨by simp,ZiA h hcd⟩
  .refine YDb ?_ (ZeO l k)
   intro a b ha hb hab x hx y hy
   have la:=((ZaP (l:=l) (by omega)).mp ha).1
   have lb:=((ZaP (l:=l) (by omega)).mp hb).1
   unfold Zeu at hx hy
   obtain⟨c,_,rfl⟩:=YAo.mp hx
   obtain⟨d,_,rfl⟩:=YAo.mp hy
   exact .inr ⟨by simp[la,lb],Zfb (by rw[la,lb]) hab⟩
 .refine YDb ?_ List.pairwise_lt_range
  intro i j hi hj hij x hx y hy
  have hi:=YAu.mp hi
  have hj:=YAu.mp hj
  exact .inl (by rw[len i x (by omega) hx,len j y (by omega) hy];omega)
theorem ZcJ {a:Q11}:¬BefW a a:=fun h=>h.elim (fun h=>YAz _ h) fun h=>List.lt_irrefl _ h.2
theorem Zd2 {l m:Q11}(hm:m.Pairwise (· < ·)):(Zar l m).Nodup:=by
 unfold List.Nodup
 exact(ZaE hm).imp fun {a b} h e=>by subst e;exact ZcJ h
theorem Zdx {α:Type}[DecidableEq α]:∀(l m:List α),l.Nodup->(∀x∈l,x∈m)->l.length<=m.length
 | [],m,_,_=>YAq _
 | x::l,m,nd,h=>by
  have hx:=h x YAi
  have nd':=YBf.mp nd
  have:=Zdx l (m.erase x) nd'.2 fun y hy=>(List.mem_erase_of_ne (fun e=>by rw[e]at hy;exact nd'.1 hy)).mpr (h y (YAY _ hy))
  rw[List.length_erase_of_mem hx]at this
  have pos:0<m.length:=List.length_pos_of_mem hx
  rw[YAk]
  omega
theorem ZhC {l u v:Q11}{i j:Nat}(hu:AtW l u i)(hv:AtW l v j)(e:i+u.length=j+v.length)(hl:v.length<=u.length):v=u.drop (u.length-v.length):=by
 obtain⟨a1,a2⟩:=hu
 obtain⟨b1,b2⟩:=hv
 have hj:j=i+(u.length-v.length):=by omega
 rw[<-a2,YAc,YAj,YBs (by omega),List.drop_take,YBr,<-hj]
 rw[show u.length-(u.length-v.length)=v.length by omega]
 exact b2.symm
theorem Zkb {u l:Q11}(h:Inf u l)(k:Nat):Inf (u.drop k) l:=by
 obtain⟨i,h1,h2⟩:=h
 by_cases hk:k<=u.length
 .refine⟨i+k,by rw[YAj];omega,?_⟩
  rw[YAj]
  have:(l.drop (i+k)).take (u.length-k)=((l.drop i).take u.length).drop k:=by rw[List.drop_take,YBr]
  rw[this,h2]
 .rw[YBI (by omega)];exact Inf.nil l
theorem Zd1 {w:Q11}{c:Nat}(h:w.getLast?=some c):w=w.dropLast++[c]:=by
 have ne:w≠[]:=fun e=>by rw[e]at h;cases h
 rw[YBi ne]at h
 have h2:=YBz ne
 rw[Option.some.inj h]at h2
 exact h2.symm
theorem ZgM {l w v:Q11}{c i j:Nat}(hw:Miss l w)(hv:Miss l v)(cw:w.getLast?=some c)(cv:v.getLast?=some c)(iw:AtW l w.dropLast i)(jv:AtW l v.dropLast j)(e:i+w.dropLast.length=j+v.dropLast.length)(hl:v.length<=w.length):v=w:=by
 have ew:=Zd1 cw
 have ev:=Zd1 cv
 have lw:w.dropLast.length=w.length-1:=YAx
 have lv:v.dropLast.length=v.length-1:=YAx
 have w1:1<=w.length:=YBY.mpr hw.ne
 have v1:1<=v.length:=YBY.mpr hv.ne
 have s:=ZhC iw jv e (by omega)
 rw[show w.dropLast.length-v.dropLast.length=w.length-v.length by omega]at s
 have h2:(w.dropLast++[c]).drop (w.length-v.length)=w.dropLast.drop (w.length-v.length)++[c]:=YBC (by omega)
 have vs:v=w.drop (w.length-v.length):=by
  have h3:v.dropLast++[c]=w.dropLast.drop (w.length-v.length)++[c]:=congrArg (·++[c]) s
  rw[<-h2,<-ew,<-ev]at h3
  exact h3
 by_cases eq:v.length=w.length
 .rw[vs,eq,YCZ];rfl
 .exfalso
  apply hv.no
  have:v=w.tail.drop (w.length-v.length-1):=by
   rw[<-List.drop_one,YBr,show 1+(w.length-v.length-1)=w.length-v.length by omega]
   exact vs
  rw[this]
  exact Zkb hw.tail _
noncomputable def endOf (l w:Q11):Nat:=((List.range (l.length+1)).find? fun e=>(List.range (l.length+1)).any fun i=>decide (i+w.dropLast.length=e)&&decide (i+w.dropLast.length<=l.length)&&decide ((l.drop i).take w.dropLast.length=w.dropLast)).getD 0
theorem ZeE {l w:Q11}(h:Inf w.dropLast l):∃i,AtW l w.dropLast i/\endOf l w=i+w.dropLast.length:=by
 unfold endOf
 cases f:(List.range (l.length+1)).find? fun e=>(List.range (l.length+1)).any fun i=>decide (i+w.dropLast.length=e)&&decide (i+w.dropLast.length<=l.length)&&decide ((l.drop i).take w.dropLast.length=w.dropLast) with
 | none=>
  obtain⟨i,h1,h2⟩:=h
  have:=List.find?_eq_none.mp f (i+w.dropLast.length) (YAu.mpr (by omega))
  exfalso
  apply this
  rw[YBa]
  exact⟨i,YAu.mpr (by omega),by rw[decide_eq_true rfl,decide_eq_true h1,decide_eq_true h2];rfl⟩
 | some e=>
  have:=List.find?_some f
  rw[YBa]at this
  obtain⟨i,_,hi⟩:=this
  simp only[YAV,decide_eq_true_iff]at hi
  exact⟨i,⟨hi.1.2,hi.2⟩,hi.1.1.symm⟩
theorem Zb0 {α β:Type}{f:α->β}:∀ {l:List α},l.Nodup->(∀x∈l,∀y∈l,f x=f y->x=y)->(l.map f).Nodup
 | [],_,_=>by simp
 | x::l,nd,h=>by
  have nd':=YBf.mp nd
  rw[YAr,YBf]
  refine⟨fun z=>?_,Zb0 nd'.2 fun a ha b hb=>h a (YAY _ ha) b (YAY _ hb)⟩
  obtain⟨y,hy,e⟩:=YAo.mp z
  have:=h y (YAY _ hy) x YAi e
  rw[this]at hy
  exact nd'.1 hy
theorem Zhu {l m:Q11}(hm:m.Pairwise (· < ·)):(Zar l m).length<=m.length*(l.length+1):=by
 have nd:=Zd2 (l:=l) hm
 have inj:∀x∈Zar l m,∀y∈Zar l m,(x.getLast?,endOf l x)=(y.getLast?,endOf l y)->x=y:=by
  intro x hx y hy e
  obtain⟨mx,c,hc,cx⟩:=Zao.mp hx
  obtain⟨my,d,hd,cy⟩:=Zao.mp hy
  have e1:x.getLast?=y.getLast?:=congrArg Prod.fst e
  have e2:endOf l x=endOf l y:=congrArg Prod.snd e
  obtain⟨i,hi,ei⟩:=ZeE mx.init
  obtain⟨j,hj,ej⟩:=ZeE my.init
  have cy':y.getLast?=some c:=by rw[<-e1];exact cx
  rcases Nat.le_total y.length x.length with h | h
  .exact(ZgM mx my cx cy' hi hj (by omega) h).symm
  .exact ZgM my mx cy' cx hj hi (by omega) h
 have nd2:=Zb0 (f:=fun w:Q11=>(w.getLast?,endOf l w)) nd inj
 have h:=Zdx _ (m.flatMap fun c=>(List.range (l.length+1)).map fun e=>(some c,e)) nd2 fun p hp=>by
  obtain⟨w,hw,rfl⟩:=YAo.mp hp
  obtain⟨mw,c,hc,cw⟩:=Zao.mp hw
  obtain⟨i,hi,ei⟩:=ZeE mw.init
  rw[YDG]
  refine⟨c,hc,YAo.mpr ⟨endOf l w,YAu.mpr (by have:=hi.1;omega),by rw[cw]⟩⟩
 rw[YAB]at h
 have e:(m.flatMap fun c=>(List.range (l.length+1)).map fun e=>(some c,e)).length=m.length*(l.length+1):=by
  rw[List.length_flatMap]
  have:(m.map fun c=>((List.range (l.length+1)).map fun e=>(some c,e)).length)=List.replicate m.length (l.length+1):=by
   apply YBx (by simp)
   intro i h1 h2
   simp
  rw[this,List.sum_replicate_nat]
 rw[e]at h
 exact h
noncomputable def gal:Bool->Keyed->Array Keyed->Nat->Nat->Nat->StateT SortSt Sem (Option Nat):=sortPriv% PySem.Builtin.gallop
noncomputable def galB (bey:Nat->StateT SortSt Sem (Option Bool)) (n h:Nat):StateT SortSt Sem (Option Nat):=do
  let mut la:=0
  let mut o:=1
  let mut lo:=0
  let mut hi:=0
  let some rt <-bey h | return none
  if rt then
   let mx:=n-h
   for _ in [0:n] do
    if o>=mx then break
    let some mo <-bey (h+o) | return none
    if !mo then break
    la:=o
    o:=2*o+1
   lo:=h+la+1
   hi:=h+min o mx
  else
   let mx:=h+1
   for _ in [0:n] do
    if o>=mx then break
    let some fo <-bey (h-o) | return none
    if fo then break
    la:=o
    o:=2*o+1
   lo:=h+1-min o mx
   hi:=h-la
  for _ in [0:n] do
   if lo>=hi then break
   let m:=lo+(hi-lo)/2
   let some mo <-bey m | return none
   if mo then lo:=m+1 else hi:=m
  return some hi
noncomputable def beyOf (lf:Bool) (ky:Keyed) (ar:Array Keyed) (bs:Nat) (i:Nat):StateT SortSt Sem (Option Bool):=do
 let x <-elem' ar (bs+i)
 if lf then lt' x ky else return (<-lt' ky x).map (!·)
theorem ZnM (lf:Bool)(ky:Keyed)(ar:Array Keyed)(bs n h:Nat):gal lf ky ar bs n h=galB (beyOf lf ky ar bs) n h:=rfl
noncomputable def galT (bey:Nat->StateT SortSt Sem (Option Bool)) (n l0 h0:Nat):StateT SortSt Sem (Option Nat):=do
  let mut lo:=l0
  let mut hi:=h0
  for _ in [0:n] do
   if lo>=hi then break
   let m:=lo+(hi-lo)/2
   let some mo <-bey m | return none
   if mo then lo:=m+1 else hi:=m
  return some hi
section
variable {M:Model}{A:Around}{E:Q33}{s:Shared}{bey:Nat->StateT SortSt Sem (Option Bool)}{B:Nat->Bool}{n h:Nat}{st:SortSt}{Q:Option Nat->SortSt->Prop}
noncomputable def Parts (B:Nat->Bool) (n lo hi:Nat):Prop:=(∀i,i<lo->B i=true)/\∀i,hi<=i->i<n->B i=false
theorem ZlQ {lo hi:Nat}(hb:∀i (Q:Option Bool->SortSt->Prop),i<n->Q (some (B i)) st->wpS M A E s (bey i) Q st)(mono:∀i j,i<=j->j<n->B j=true->B i=true)(h1:lo<=hi)(h2:hi<=n)(hp:Parts B n lo hi)
  (q:∀k,k<=n->Parts B n k k->Q (some k) st):wpS M A E s (galT bey n lo hi) Q st:=by
 unfold galT
 refine YAQ (YCG (YBW (I:=fun i c st'=>st'=st/\∃lo hi,c=(none,lo,hi)/\lo<=hi/\hi<=n/\hi-lo<=n-i/\Parts B n lo hi) (Q:=fun c st'=>st'=st/\∃k,c=(none,k,k)/\k<=n/\Parts B n k k) ?step ?fin ⟨rfl,lo,hi,rfl,h1,h2,by omega,hp⟩) ?post)
 case step=>
  rintro i c st' _ hi' ⟨rfl,lo,hi,rfl,h1,h2,h3,hp⟩
  dsimp only
  by_cases hl:lo>=hi
  .have e:lo=hi:=by omega
   subst e
   rw[YAP hl]
   exact YAa ⟨rfl,lo,rfl,h2,hp⟩
  .rw[YAL hl]
   have hm1:lo<=lo+(hi-lo)/2:=by omega
   have hm2:lo+(hi-lo)/2<hi:=by omega
   generalize lo+(hi-lo)/2=m at hm1 hm2
   refine YAQ (hb m _ (by omega) ?_)
   cases hB:B m with
   | true=>exact YAa ⟨rfl,m+1,hi,rfl,by omega,h2,by omega,fun i hi=>mono i m (by omega) (by omega) hB,hp.2⟩
   | false=>
    refine YAa ⟨rfl,lo,m,rfl,by omega,by omega,by omega,hp.1,fun i hi hn=>?_⟩
    cases hx:B i with
    | false=>rfl
    | true=>rw[mono m i hi hn hx]at hB;cases hB
 case fin=>
  rintro c st' ⟨rfl,lo,hi,rfl,h1,h2,h3,hp⟩
  have e:lo=hi:=by omega
  subst e
  exact⟨rfl,lo,rfl,h2,hp⟩
 case post=>
  rintro c st' ⟨rfl,k,rfl,hk,hp⟩
  exact YAa (q k hk hp)
theorem ZlR (hh:h<n)
  (hb:∀i (Q:Option Bool->SortSt->Prop),i<n->Q (some (B i)) st->wpS M A E s (bey i) Q st) (mono:∀i j,i<=j->j<n->B j=true->B i=true)
  (q:∀k,k<=n->Parts B n k k->Q (some k) st):wpS M A E s (galB bey n h) Q st:=by
 have anti:∀ {i j},B i=false->i<=j->j<n->B j=false:=fun {i j} h1 h2 h3=>by
  cases hx:B j with
  | false=>rfl
  | true=>rw[mono i j h2 h3 hx]at h1;cases h1
 have jp:∀lo hi,lo<=hi->hi<=n->Parts B n lo hi->wpS M A E s (galT bey n lo hi) Q st:=fun lo hi a b c=>ZlQ hb mono a b c q
 unfold galB
 refine YAQ (hb h _ hh ?_)
 cases hB:B h with
 | true=>
  dsimp only
  rw[YAP rfl]
  refine YAQ (YCG (YBW (I:=fun i c st'=>st'=st/\∃la o,c=(none,la,o)/\i<o/\la<o/\h+la<n/\B (h+la)=true) (Q:=fun c st'=>st'=st/\∃la o,c=(none,la,o)/\la<o/\h+la<n/\B (h+la)=true/\(n-h<=o\/B (h+o)=false)) ?step ?fin ⟨rfl,0,1,rfl,by omega,by omega,by omega,hB⟩) ?post)
  case step=>
   rintro i c st' _ hi' ⟨rfl,la,o,rfl,h1,h2,h3,h4⟩
   dsimp only
   by_cases hl:o>=n-h
   .rw[YAP hl]
    exact YAa ⟨rfl,la,o,rfl,h2,h3,h4,.inl hl⟩
   .rw[YAL hl]
    refine YAQ (hb (h+o) _ (by omega) ?_)
    cases hx:B (h+o) with
    | false=>exact YAa ⟨rfl,la,o,rfl,h2,h3,h4,.inr hx⟩
    | true=>exact YAa ⟨rfl,o,2*o+1,rfl,by omega,by omega,by omega,hx⟩
  case fin=>
   rintro c st' ⟨rfl,la,o,rfl,h1,h2,h3,h4⟩
   exact⟨rfl,la,o,rfl,h2,h3,h4,.inl (by omega)⟩
  case post=>
   rintro c st' ⟨rfl,la,o,rfl,h2,h3,h4,h5⟩
   refine jp (h+la+1) (h+min o (n-h)) (by omega) (by omega) ⟨fun i hi=>mono i (h+la) (by omega) h3 h4,fun i hi hn=>?_⟩
   rcases h5 with h5 | h5
   .omega
   .exact anti h5 (by omega) hn
 | false=>
  dsimp only
  rw[YAL YAD]
  refine YAQ (YCG (YBW (I:=fun i c st'=>st'=st/\∃la o,c=(none,la,o)/\i<o/\la<o/\la<=h/\B (h-la)=false) (Q:=fun c st'=>st'=st/\∃la o,c=(none,la,o)/\la<o/\la<=h/\B (h-la)=false/\(h+1<=o\/(o<=h/\B (h-o)=true))) ?step2 ?fin2 ⟨rfl,0,1,rfl,by omega,by omega,by omega,hB⟩) ?post2)
  case step2=>
   rintro i c st' _ hi' ⟨rfl,la,o,rfl,h1,h2,h3,h4⟩
   dsimp only
   by_cases hl:o>=h+1
   .rw[YAP hl]
    exact YAa ⟨rfl,la,o,rfl,h2,h3,h4,.inl hl⟩
   .rw[YAL hl]
    refine YAQ (hb (h-o) _ (by omega) ?_)
    cases hx:B (h-o) with
    | true=>exact YAa ⟨rfl,la,o,rfl,h2,h3,h4,.inr ⟨by omega,hx⟩⟩
    | false=>exact YAa ⟨rfl,o,2*o+1,rfl,by omega,by omega,by omega,hx⟩
  case fin2=>
   rintro c st' ⟨rfl,la,o,rfl,h1,h2,h3,h4⟩
   exact⟨rfl,la,o,rfl,h2,h3,h4,.inl (by omega)⟩
  case post2=>
   rintro c st' ⟨rfl,la,o,rfl,h2,h3,h4,h5⟩
   refine jp (h+1-min o (h+1)) (h-la) (by omega) (by omega) ⟨fun i hi=>?_,fun i hi hn=>anti h4 hi hn⟩
   rcases h5 with h5 | ⟨h5,h6⟩
   .omega
   .exact mono i (h-o) (by omega) (by omega) h6
end
structure Cmp (D:Keyed->Prop)(L:Keyed->Keyed->Bool):Prop where
 asym:∀x y,D x->D y->L x y=true->L y x=false
 tr:∀x y z,D x->D y->D z->L y x=false->L z y=false->L z x=false
abbrev Le (L:Keyed->Keyed->Bool)(x y:Keyed):Prop:=L y x=false
structure MS (D:Keyed->Prop)(L:Keyed->Keyed->Bool)(T:List Keyed)(o x y:List Keyed):Prop where
 perm:(o++(x++y)).Perm T
 so:o.Pairwise (Le L)
 ox:∀u∈o,∀v∈x,Le L u v
 oy:∀u∈o,∀v∈y,Le L u v
 sx:x.Pairwise (Le L)
 sy:y.Pairwise (Le L)
section
variable {D:Keyed->Prop}{L:Keyed->Keyed->Bool}{T o x y p:List Keyed}
theorem MS.movX (h:MS D L T o (p++x) y)(hp:∀u∈p,∀v∈y,Le L u v):MS D L T (o++p) x y:=by
 obtain⟨h1,h2,h3,h4,h5,h6⟩:=h
 rw[YBS]at h5
 refine⟨by simpa [YAt] using h1,YBS.mpr ⟨h2,h5.1,fun u hu v hv=>h3 u hu v (by simp[hv])⟩,?_,?_,h5.2.1,h6⟩
 .intro u hu v hv
  rcases YAZ.mp hu with hu | hu
  .exact h3 u hu v (by simp[hv])
  .exact h5.2.2 u hu v hv
 .intro u hu v hv
  rcases YAZ.mp hu with hu | hu
  .exact h4 u hu v hv
  .exact hp u hu v hv
theorem MS.swap (h:MS D L T o x y):MS D L T o y x:=
 ⟨(List.Perm.append_left o List.perm_append_comm).trans h.perm,h.so,h.oy,h.ox,h.sy,h.sx⟩
theorem MS.movY (h:MS D L T o x (p++y))(hp:∀u∈p,∀v∈x,Le L u v):MS D L T (o++p) x y:=(h.swap.movX hp).swap
theorem MS.fin (h:MS D L T o x []):(o++x).Perm T/\(o++x).Pairwise (Le L):=
 ⟨by simpa using h.perm,YBS.mpr ⟨h.so,h.sx,h.ox⟩⟩
theorem MS.all (h:MS D L T o x y)(hxy:∀u∈x,∀v∈y,Le L u v):(o++x++y).Perm T/\(o++x++y).Pairwise (Le L):=by
 have:=(MS.movX (x:=[]) (by simpa using h) hxy).swap.fin
 simpa using this
end
noncomputable def mLo:Array Keyed->Array Keyed->StateT SortSt Sem (Array Keyed):=sortPriv% PySem.Builtin.mergeLo
noncomputable abbrev ZaB (st:SortSt)(g:Nat):SortSt:=SortSt.mk' (kindOf st) (arrOf st) (pendingOf st) g (failedOf st)
noncomputable def setG (g:Nat):StateT SortSt Sem Unit:=modify fun s=>ZaB s g
noncomputable def mLoB (p q:Array Keyed):StateT SortSt Sem (Array Keyed):=do
 rule "list.sort.merge-lo"
 let tt:=p.size+q.size
 let dn (o:Array Keyed) (i j:Nat):=o++p.extract i p.size++q.extract j q.size
 let lp (o:Array Keyed) (i j:Nat):=o++q.extract j q.size++p.extract i p.size
 let mut o:Array Keyed:=#[<-elem' q 0]
 let mut i:=0
 let mut j:=1
 if j == q.size then return dn o i j
 if i+1 == p.size then return lp o i j
 let mut mg:=gallopOf (<-get)
 for _ in [0:tt] do
  let mut ca:=0
  let mut cb:=0
  for _ in [0:tt] do
   let some wn <-lt' (<-elem' q j) (<-elem' p i) | return dn o i j
   if wn then
    o:=o.push (<-elem' q j);j:=j+1;cb:=cb+1;ca:=0
    if j == q.size then return dn o i j
    if cb>=mg then break
   else
    o:=o.push (<-elem' p i);i:=i+1;ca:=ca+1;cb:=0
    if i+1 == p.size then return lp o i j
    if ca>=mg then break
  rule "list.sort.gallop"
  mg:=mg+1
  for _ in [0:tt] do
   if mg>1 then mg:=mg-1
   setG mg
   let some k <-gal false (<-elem' q j) p i (p.size-i) 0 | return dn o i j
   ca:=k
   if k>0 then
    o:=o++p.extract i (i+k);i:=i+k
    if i+1 == p.size then return lp o i j
    if i == p.size then return dn o i j
   o:=o.push (<-elem' q j);j:=j+1
   if j == q.size then return dn o i j
   let some k <-gal true (<-elem' p i) q j (q.size-j) 0 | return dn o i j
   cb:=k
   if k>0 then
    o:=o++q.extract j (j+k);j:=j+k
    if j == q.size then return dn o i j
   o:=o.push (<-elem' p i);i:=i+1
   if i+1 == p.size then return lp o i j
   if ca<7&&cb<7 then break
  mg:=mg+1
  setG mg
 unsupported "internal:list.sort.merge-bound"
theorem Znl (p q:Array Keyed):mLo p q=mLoB p q:=rfl
section
variable {M:Model}{A:Around}{E:Q33}{s:Shared}{D:Keyed->Prop}{L:Keyed->Keyed->Bool}{kd:SortKind}
noncomputable def PureC (M:Model) (A:Around) (E:Q33) (s:Shared) (D:Keyed->Prop) (L:Keyed->Keyed->Bool) (kd:SortKind):Prop:=
 ∀(st:SortSt) (x y:Keyed) (Q:Option Bool->SortSt->Prop),kindOf st=kd->D x->D y->Q (some (L x y)) st->wpS M A E s (lt' x y) Q st
theorem ZaX {ar:Array Keyed}{i:Nat}{x:Keyed}{Q:Keyed->SortSt->Prop}{st:SortSt}(h:ar[i]?=some x)(q:Q x st):wpS M A E s (elem' ar i) Q st:=by
 rw[elem'_eq,h];exact YAa q
theorem Zd6 (hC:Cmp D L)(hP:PureC M A E s D L kd){lf:Bool}{ky:Keyed}{ar:Array Keyed}{bs n h:Nat}{st:SortSt}{Q:Option Nat->SortSt->Prop}(hk:kindOf st=kd)
  (hn:bs+n<=ar.size) (hh:h<n) (hy:D ky) (hd:∀u∈ar.toList,D u) (hs:((ar.toList.drop bs).take n).Pairwise (Le L))
  (q:∀k,k<=n->(∀u∈((ar.toList.drop bs).take n).take k,if lf then L u ky=true else Le L u ky)->(∀u∈((ar.toList.drop bs).take n).drop k,if lf then Le L ky u else L ky u=true)->Q (some k) st):
  wpS M A E s (gal lf ky ar bs n h) Q st:=by
 rw[ZnM]
 obtain⟨xs,hxs⟩:∃xs,xs=(ar.toList.drop bs).take n:=⟨_,rfl⟩
 rw[<-hxs]at hs q
 have hlen:xs.length=n:=by rw[hxs,YAc,YAj,YAS];omega
 have hat:∀i (hi:i<xs.length),ar[bs+i]?=some xs[i]:=by
  intro i hi
  have:xs[i]?=some xs[i]:=YAG hi
  rw[<-this,hxs,YCV,YAP (by omega),YCW,YAs]
 have hdx:∀u∈xs,D u:=fun u hu=>hd u (YAh (YAf (hxs▸hu)))
 refine ZlR (B:=fun i=>if hi:i<xs.length then (if lf then L xs[i] ky else !L ky xs[i]) else false) hh ?_ ?_ ?_
 .intro i Q hi hq
  have hi':i<xs.length:=by omega
  rw[dif_pos hi']at hq
  refine YAQ (ZaX (hat i hi') ?_)
  have hD:=hdx _ (YBw hi')
  cases lf with
  | true=>exact hP st _ _ _ hk hD hy hq
  | false=>exact YAQ (hP st _ _ _ hk hy hD (YAa hq))
 .intro i j hij hj
  have hj':j<xs.length:=by omega
  have hi':i<xs.length:=by omega
  rw[dif_pos hj',dif_pos hi']
  by_cases e:i=j
  .subst e;exact id
  .have hle:Le L xs[i] xs[j]:=YCM.mp hs i j hi' hj' (by omega)
   have hDi:=hdx _ (YBw hi')
   have hDj:=hdx _ (YBw hj')
   cases lf with
   | true=>
    rw[YAP rfl,YAP rfl]
    intro h1
    cases h2:L xs[i] ky with
    | true=>rfl
    | false=>rw[hC.tr ky _ _ hy hDi hDj h2 hle]at h1;cases h1
   | false=>
    rw[YAL YAD,YAL YAD]
    intro h1
    rw[Bool.not_eq_true']at h1 ⊢
    exact hC.tr _ _ ky hDi hDj hy hle h1
 .intro k hk' hp
  refine q k hk' (fun u hu=>?_) (fun u hu=>?_)
  .obtain⟨i,hi,rfl⟩:=YBZ hu
   rw[YAc]at hi
   have:=hp.1 i (by omega)
   dsimp only at this
   rw[dif_pos (by omega)]at this
   rw[List.getElem_take]
   cases lf with
   | true=>exact this
   | false=>simpa using this
  .obtain⟨i,hi,rfl⟩:=YBZ hu
   rw[YAj]at hi
   have:=hp.2 (k+i) (by omega) (by omega)
   dsimp only at this
   rw[dif_pos (by omega)]at this
   rw[List.getElem_drop]
   cases lf with
   | true=>exact this
   | false=>simpa using this
end
abbrev LoC:=Option (Array Keyed)×Array Keyed×Nat×Nat×Nat×Nat×Nat
noncomputable def dnf (p q o:Array Keyed) (i j:Nat):Array Keyed:=o++p.extract i p.size++q.extract j q.size
noncomputable def lpf (p q o:Array Keyed) (i j:Nat):Array Keyed:=o++q.extract j q.size++p.extract i p.size
noncomputable def loE (p q o:Array Keyed) (i j mg ca cb:Nat):StateT SortSt Sem (ForInStep LoC):=do
 let e <-elem' p i
 if (i+1+1 == p.size)=true then pure (ForInStep.done (some (lpf p q (o.push e) (i+1) j),o.push e,i+1,j,mg,ca,cb))
 else if (decide (ca<7)&&decide (cb<7))=true then pure (ForInStep.done (none,o.push e,i+1,j,mg,ca,cb))
 else pure (ForInStep.yield (none,o.push e,i+1,j,mg,ca,cb))
noncomputable def loD (p q o:Array Keyed) (i j mg ca cb:Nat):StateT SortSt Sem (ForInStep LoC):=do
 let e <-elem' q j
 if (j+1 == q.size)=true then pure (ForInStep.done (some (dnf p q (o.push e) i (j+1)),o.push e,i,j+1,mg,ca,cb))
 else do
  let some k <-gal true (<-elem' p i) q (j+1) (q.size-(j+1)) 0 | pure (ForInStep.done (some (dnf p q (o.push e) i (j+1)),o.push e,i,j+1,mg,ca,cb))
  if k>0 then
   if (j+1+k == q.size)=true then pure (ForInStep.done (some (dnf p q (o.push e++q.extract (j+1) (j+1+k)) i (j+1+k)),o.push e++q.extract (j+1) (j+1+k),i,j+1+k,mg,ca,k))
   else loE p q (o.push e++q.extract (j+1) (j+1+k)) i (j+1+k) mg ca k
  else loE p q (o.push e) i (j+1) mg ca k
noncomputable def loF (p q o:Array Keyed) (i j mg ca cb:Nat):StateT SortSt Sem (ForInStep LoC):=do
 setG mg
 let some k <-gal false (<-elem' q j) p i (p.size-i) 0 | pure (ForInStep.done (some (dnf p q o i j),o,i,j,mg,ca,cb))
 if k>0 then
  if (i+k+1 == p.size)=true then pure (ForInStep.done (some (lpf p q (o++p.extract i (i+k)) (i+k) j),o++p.extract i (i+k),i+k,j,mg,k,cb))
  else if (i+k == p.size)=true then pure (ForInStep.done (some (dnf p q (o++p.extract i (i+k)) (i+k) j),o++p.extract i (i+k),i+k,j,mg,k,cb))
  else loD p q (o++p.extract i (i+k)) (i+k) j mg k cb
 else loD p q o i j mg k cb
section
variable {M:Model}{A:Around}{E:Q33}{s:Shared}{D:Keyed->Prop}{L:Keyed->Keyed->Bool}{kd:SortKind}{p q:Array Keyed}{T:List Keyed}{st:SortSt}
structure LoI (D:Keyed->Prop)(L:Keyed->Keyed->Bool)(p q:Array Keyed)(T:List Keyed)(o:Array Keyed)(i j:Nat):Prop where
 ms:MS D L T o.toList (p.toList.drop i) (q.toList.drop j)
 li:i+1<p.size
 lj:j<q.size
noncomputable def Fin1 (L:Keyed->Keyed->Bool) (T:List Keyed) (z:Array Keyed):Prop:=z.toList.Perm T/\z.toList.Pairwise (Le L)
theorem Zfq {p:Array Keyed}{i:Nat}{e:Keyed}(h:p[i]?=some e):p.toList.drop i=e::p.toList.drop (i+1):=by
 obtain⟨hi,rfl⟩:=Array.getElem?_eq_some_iff.mp h
 rw[<-Array.getElem_toList]
 exact YDY (by simpa using hi)
theorem at? {p:Array Keyed}{i:Nat}(h:i<p.size):∃e,p[i]?=some e/\e∈p.toList:=⟨p[i],getElem?_pos p i h,by simp⟩
theorem Zkd (p q o:Array Keyed)(i j:Nat):(dnf p q o i j).toList=o.toList++p.toList.drop i++q.toList.drop j:=by
 unfold dnf;rw[YBH,YBH,YBF,YBF,List.extract,List.extract,YAm (by simp),YAm (by simp)]
theorem ZjT (p q o:Array Keyed)(i j:Nat):(lpf p q o i j).toList=o.toList++q.toList.drop j++p.toList.drop i:=by
 unfold lpf;rw[YBH,YBH,YBF,YBF,List.extract,List.extract,YAm (by simp),YAm (by simp)]
theorem Zfp (p:Array Keyed)(i k:Nat):(p.extract i (i+k)).toList=(p.toList.drop i).take k:=by
 simp[YBF,List.extract]
theorem Zea (l:List Keyed)(i k:Nat):l.drop i=(l.drop i).take k++l.drop (i+k):=by
 rw[<-YBr,YAy]
structure LoH (D:Keyed->Prop)(L:Keyed->Keyed->Bool)(p q:Array Keyed):Prop where
 dp:∀u∈p.toList,D u
 dq:∀u∈q.toList,D u
 sp:p.toList.Pairwise (Le L)
 sq:q.toList.Pairwise (Le L)
 last:∀u∈q.toList,∀v∈p.toList.drop (p.size-1),L u v=true
theorem LoH.fin_lp {o:Array Keyed}{i j:Nat}(hH:LoH D L p q)(hC:Cmp D L)(h:MS D L T o.toList (p.toList.drop i) (q.toList.drop j))(e:i+1=p.size):Fin1 L T (lpf p q o i j):=by
 unfold Fin1;rw[ZjT]
 refine h.swap.all fun u hu v hv=>?_
 have hu:=YAh hu
 have e':i=p.size-1:=by omega
 subst e'
 exact hC.asym _ _ (hH.dq u hu) (hH.dp v (YAh hv)) (hH.last u hu v hv)
theorem ZgW {o:Array Keyed}{i j:Nat}(h:MS D L T o.toList (p.toList.drop i) (q.toList.drop j))(e:j=q.size):Fin1 L T (dnf p q o i j):=by
 unfold Fin1;rw[Zkd]
 have e2:q.toList.drop j=[]:=YBI (by simp;omega)
 rw[e2]at h ⊢
 simpa using h.fin
noncomputable def LoQ (D:Keyed->Prop) (L:Keyed->Keyed->Bool) (p q:Array Keyed) (T:List Keyed) (w:Nat) (c:LoC):Prop:=
 ∃r o i j mg ca cb,c=(r,o,i,j,mg,ca,cb)/\((∃z,r=some z/\Fin1 L T z)\/(r=none/\LoI D L p q T o i j/\w<=i+j))
noncomputable def LoY (D:Keyed->Prop) (L:Keyed->Keyed->Bool) (p q:Array Keyed) (T:List Keyed) (w:Nat) (c:LoC):Prop:=
 ∃o i j mg ca cb,c=(none,o,i,j,mg,ca,cb)/\LoI D L p q T o i j/\w<=i+j
noncomputable def LoP (D:Keyed->Prop) (L:Keyed->Keyed->Bool) (p q:Array Keyed) (T:List Keyed) (w:Nat) (st:SortSt) (r:ForInStep LoC) (st':SortSt):Prop:=
 (∃g,st'=ZaB st g)/\match r with | .done c=>LoQ D L p q T w c | .yield c=>LoY D L p q T w c
theorem ZkC {o:Array Keyed}{i j mg ca cb w g:Nat}(hH:LoH D L p q)(hC:Cmp D L)(hi:i+1<p.size)(hj:j<q.size)(hw:w<=i+1+j)(h:MS D L T o.toList (p.toList.drop i) (q.toList.drop j))
  (hle:∀u∈(p.toList.drop i).take 1,∀v∈q.toList.drop j,Le L u v):wpS M A E s (loE p q o i j mg ca cb) (LoP D L p q T w st) (ZaB st g):=by
 obtain⟨e,he,hm⟩:=at? (p:=p) (i:=i) (by omega)
 have hd:=Zfq he
 have h2:MS D L T (o.push e).toList (p.toList.drop (i+1)) (q.toList.drop j):=by
  rw[YBd]
  rw[hd]at h hle
  exact MS.movX (p:=[e]) h (fun u hu v hv=>hle u (by simpa using hu) v hv)
 unfold loE
 refine YAQ (ZaX he ?_)
 by_cases c1:i+1+1=p.size
 .rw[YAP (by simpa using c1)]
  exact YAa ⟨⟨g,rfl⟩,_,_,_,_,_,_,_,rfl,.inl ⟨_,rfl,hH.fin_lp hC h2 c1⟩⟩
 .rw[YAL (by simpa using c1)]
  have hI:LoI D L p q T (o.push e) (i+1) j:=⟨h2,by omega,hj⟩
  split
  .exact YAa ⟨⟨g,rfl⟩,_,_,_,_,_,_,_,rfl,.inr ⟨rfl,hI,hw⟩⟩
  .exact YAa ⟨⟨g,rfl⟩,_,_,_,_,_,_,rfl,hI,hw⟩
theorem ZkD {o:Array Keyed}{i j mg ca cb w g:Nat}(hH:LoH D L p q)(hC:Cmp D L)(hP:PureC M A E s D L kd)(hk:kindOf st=kd)(hi:i+1<p.size)(hj:j<q.size)(hw:w<=i+1+j)(h:MS D L T o.toList (p.toList.drop i) (q.toList.drop j))
  (hle:∀u∈(q.toList.drop j).take 1,∀v∈p.toList.drop i,Le L u v):wpS M A E s (loD p q o i j mg ca cb) (LoP D L p q T w st) (ZaB st g):=by
 obtain⟨e,he,hm⟩:=at? (p:=q) (i:=j) hj
 obtain⟨x,hx,hxm⟩:=at? (p:=p) (i:=i) (by omega)
 have hd:=Zfq he
 have h2:MS D L T (o.push e).toList (p.toList.drop i) (q.toList.drop (j+1)):=by
  rw[YBd]
  rw[hd]at h hle
  exact MS.movY (p:=[e]) h (fun u hu v hv=>hle u (by simpa using hu) v hv)
 unfold loD
 refine YAQ (ZaX he ?_)
 by_cases c1:j+1=q.size
 .rw[YAP (by simpa using c1)]
  exact YAa ⟨⟨g,rfl⟩,_,_,_,_,_,_,_,rfl,.inl ⟨_,rfl,ZgW h2 c1⟩⟩
 .rw[YAL (by simpa using c1)]
  refine YAQ (ZaX hx ?_)
  have et:(q.toList.drop (j+1)).take (q.size-(j+1))=q.toList.drop (j+1):=YAm (by simp)
  refine YAQ (Zd6 hC hP (by exact hk) (by omega) (by omega) (hH.dp x hxm) hH.dq (by rw[et];exact h2.sy) ?_)
  rw[et]
  intro k hkn ha hb
  replace ha:∀u∈(q.toList.drop (j+1)).take k,L u x=true:=ha
  replace hb:∀u∈(q.toList.drop (j+1)).drop k,Le L x u:=hb
  dsimp only
  have hpd:=Zfq hx
  have hsx:=h2.sx
  rw[hpd,YBU]at hsx
  have xle:∀v∈p.toList.drop i,Le L x v:=by
   intro v hv
   rw[hpd]at hv
   rcases YAU.mp hv with rfl | hv
   .cases hx:L v v with
    | false=>exact hx
    | true=>exact hC.asym v v (hH.dp v hxm) (hH.dp v hxm) hx
   .exact hsx.1 v hv
  have h3:MS D L T (o.push e++q.extract (j+1) (j+1+k)).toList (p.toList.drop i) (q.toList.drop (j+1+k)):=by
   rw[YBH,Zfp]
   rw[Zea q.toList (j+1) k]at h2
   refine h2.movY fun u hu v hv=>?_
   have hDu:=hH.dq u (YAh (YAf hu))
   exact hC.tr u x v hDu (hH.dp x hxm) (hH.dp v (YAh hv)) (hC.asym u x hDu (hH.dp x hxm) (ha u hu)) (xle v hv)
  have hle2:∀u∈(p.toList.drop i).take 1,∀v∈q.toList.drop (j+1+k),Le L u v:=by
   intro u hu v hv
   rw[hpd]at hu
   have:u=x:=by simpa using hu
   subst this
   exact hb v (by rwa [YBr])
  by_cases hk0:k>0
  .rw[YAP hk0]
   by_cases c2:j+1+k=q.size
   .rw[YAP (by simpa using c2)]
    exact YAa ⟨⟨g,rfl⟩,_,_,_,_,_,_,_,rfl,.inl ⟨_,rfl,ZgW h3 c2⟩⟩
   .rw[YAL (by simpa using c2)]
    exact ZkC hH hC hi (by omega) (by omega) h3 hle2
  .rw[YAL hk0]
   have:k=0:=by omega
   subst this
   exact ZkC hH hC hi (by omega) (by omega) h2 hle2
theorem Znr {o:Array Keyed}{i j mg ca cb w g:Nat}(hH:LoH D L p q)(hC:Cmp D L)(hP:PureC M A E s D L kd)(hk:kindOf st=kd)(hw:w<=i+1+j)(hI:LoI D L p q T o i j):
  wpS M A E s (loF p q o i j mg ca cb) (LoP D L p q T w st) (ZaB st g):=by
 obtain⟨h,hi,hj⟩:=hI
 obtain⟨x,hx,hxm⟩:=at? (p:=q) (i:=j) hj
 have hqd:=Zfq hx
 have hsy:=h.sy
 rw[hqd,YBU]at hsy
 have xle:∀v∈q.toList.drop j,Le L x v:=by
  intro v hv
  rw[hqd]at hv
  rcases YAU.mp hv with rfl | hv
  .cases hx:L v v with
   | false=>exact hx
   | true=>exact hC.asym v v (hH.dq v hxm) (hH.dq v hxm) hx
  .exact hsy.1 v hv
 unfold loF
 refine YAQ (YCO ?_)
 refine YAQ (ZaX hx ?_)
 have et:(p.toList.drop i).take (p.size-i)=p.toList.drop i:=YAm (by simp)
 refine YAQ (Zd6 hC hP (by exact hk) (by omega) (by omega) (hH.dq x hxm) hH.dp (by rw[et];exact h.sx) ?_)
 rw[et]
 intro k hkn ha hb
 replace ha:∀u∈(p.toList.drop i).take k,Le L u x:=ha
 replace hb:∀u∈(p.toList.drop i).drop k,L x u=true:=hb
 dsimp only
 have h3:MS D L T (o++p.extract i (i+k)).toList (p.toList.drop (i+k)) (q.toList.drop j):=by
  rw[YBH,Zfp]
  rw[Zea p.toList i k]at h
  refine h.movX fun u hu v hv=>?_
  exact hC.tr u x v (hH.dp u (YAh (YAf hu))) (hH.dq x hxm) (hH.dq v (YAh hv)) (ha u hu) (xle v hv)
 have hle2:∀u∈(q.toList.drop j).take 1,∀v∈p.toList.drop (i+k),Le L u v:=by
  intro u hu v hv
  rw[hqd]at hu
  have:u=x:=by simpa using hu
  subst this
  have hv':v∈(p.toList.drop i).drop k:=by rwa [YBr]
  exact hC.asym u v (hH.dq u hxm) (hH.dp v (YAh hv)) (hb v hv')
 have hlast:i+k≠p.size:=by
  intro e
  obtain⟨y,hy,hym⟩:=at? (p:=p) (i:=p.size-1) (by omega)
  have hyd:=Zfq hy
  have h5:=hH.last x hxm y (by rw[hyd];simp)
  have hy2:y∈(p.toList.drop i).take k:=by
   rw[YAm (by simp;omega)]
   have:y∈p.toList.drop (p.size-1):=by rw[hyd];simp
   rw[show p.size-1=i+(p.size-1-i) by omega,<-YBr]at this
   exact YAh this
  have h6:=ha y hy2
  rw[show L x y=false from h6]at h5
  cases h5
 by_cases hk0:k>0
 .rw[YAP hk0]
  by_cases c2:i+k+1=p.size
  .rw[YAP (by simpa using c2)]
   exact YAa ⟨⟨_,rfl⟩,_,_,_,_,_,_,_,rfl,.inl ⟨_,rfl,hH.fin_lp hC h3 c2⟩⟩
  .rw[YAL (by simpa using c2),YAL (by simpa using hlast)]
   exact ZkD hH hC hP hk (by omega) hj (by omega) h3 hle2
 .rw[YAL hk0]
  have:k=0:=by omega
  subst this
  exact ZkD hH hC hP hk hi hj hw h hle2
theorem Znk {Q:Array Keyed->SortSt->Prop}(hH:LoH D L p q)(hC:Cmp D L)(hP:PureC M A E s D L kd)(hk:kindOf st=kd)(hp:0<p.size)(hq:0<q.size)
  (h0:∀u∈q.toList.take 1,∀v∈p.toList,Le L u v) (hQ:∀z g,Fin1 L (p.toList++q.toList) z->Q z (ZaB st g)):wpS M A E s (mLo p q) Q st:=by
 rw[Znl];unfold mLoB
 obtain⟨e,he,hm⟩:=at? (p:=q) (i:=0) hq
 have hd:q.toList=e::q.toList.drop 1:=by simpa using Zfq he
 have h1:MS D L (p.toList++q.toList) (#[e]:Array Keyed).toList (p.toList.drop 0) (q.toList.drop 1):=by
  have:MS D L (p.toList++q.toList) [] p.toList ([e]++q.toList.drop 1):=⟨by rw[hd];simp,List.Pairwise.nil,by simp,by simp,hH.sp,by have:=hH.sq;rw[hd]at this;exact this⟩
  refine this.movY fun u hu v hv=>h0 u ?_ v hv
  rw[hd];simpa using hu
 refine YAQ (YDd (YCI ⟨rfl,?_⟩))
 refine YAQ (ZaX he ?_)
 by_cases c1:1=q.size
 .rw[YAP (by simpa using c1)]
  exact YAa (hQ _ _ (ZgW h1 c1))
 rw[YAL (by simpa using c1)]
 by_cases c2:0+1=p.size
 .rw[YAP (by simpa using c2)]
  exact YAa (hQ _ _ (hH.fin_lp hC h1 c2))
 rw[YAL (by simpa using c2)]
 refine YAQ (YDM ?_)
 have hI:LoI D L p q (p.toList++q.toList) #[e] 0 1:=⟨h1,by omega,by omega⟩
 generalize p.toList++q.toList=T at hI hQ
 refine YAQ (YCG (YBW (I:=fun x c st'=>∃g,st'=ZaB st g/\∃o i j mg,c=(none,o,i,j,mg)/\LoI D L p q T o i j/\x<=i+j)
  (Q:=fun c st'=>∃g,st'=ZaB st g/\∃z o i j mg,c=(some z,o,i,j,mg)/\Fin1 L T z) ?step ?fin ⟨gallopOf st,rfl,_,_,_,_,rfl,hI,by omega⟩) ?post)
 case post=>
  rintro c st' ⟨g,rfl,z,o,i,j,mg,rfl,hz⟩
  exact YAa (hQ z g hz)
 case fin=>
  rintro c st' ⟨g,rfl,o,i,j,mg,rfl,hI,hx⟩
  have:=hI.li;have:=hI.lj
  omega
 case step=>
  rintro x c st' _ hx ⟨g,rfl,o,i,j,mg,rfl,hI,hxi⟩
  dsimp only
  refine YAQ (YCG (YBW (I:=fun y c st'=>st'=ZaB st g/\∃o i j ca cb,c=(none,o,i,j,ca,cb)/\LoI D L p q T o i j/\y+x<=i+j)
   (Q:=fun c st'=>st'=ZaB st g/\∃r o i j ca cb,c=(r,o,i,j,ca,cb)/\((∃z,r=some z/\Fin1 L T z)\/(r=none/\LoI D L p q T o i j/\x+1<=i+j))) ?s1 ?f1 ⟨rfl,_,_,_,_,_,rfl,hI,by omega⟩) ?p1)
  case f1=>
   rintro c st' ⟨rfl,o,i,j,ca,cb,rfl,hI,hx⟩
   have:=hI.li;have:=hI.lj
   omega
  case s1=>
   rintro y c st' _ hy ⟨rfl,o,i,j,ca,cb,rfl,hI,hxi⟩
   obtain⟨h,hi,hj⟩:=hI
   obtain⟨u,hu,hum⟩:=at? (p:=q) (i:=j) hj
   obtain⟨v,hv,hvm⟩:=at? (p:=p) (i:=i) (by omega)
   have hDu:=hH.dq u hum
   have hDv:=hH.dp v hvm
   have hqd:=Zfq hu
   have hpd:=Zfq hv
   have hsx:=h.sx
   have hsy:=h.sy
   rw[hpd,YBU]at hsx
   rw[hqd,YBU]at hsy
   dsimp only
   refine YAQ (ZaX hu (YAQ (ZaX hv (YAQ (hP _ _ _ _ hk hDu hDv ?_)))))
   dsimp only
   cases hL:L u v with
   | true=>
    rw[YAP rfl]
    refine YAQ (ZaX hu ?_)
    have h2:MS D L T (o.push u).toList (p.toList.drop i) (q.toList.drop (j+1)):=by
     rw[YBd]
     rw[hqd]at h
     refine MS.movY (p:=[u]) h fun a ha b hb=>?_
     have ha:a=u:=by simpa using ha
     subst ha
     have hav:Le L a v:=hC.asym _ _ hDu hDv hL
     rw[hpd]at hb
     rcases YAU.mp hb with rfl | hb
     .exact hav
     .exact hC.tr a v b hDu hDv (hH.dp b (YAh hb)) hav (hsx.1 b hb)
    by_cases c3:j+1=q.size
    .rw[YAP (by simpa using c3)]
     exact YAa ⟨rfl,_,_,_,_,_,_,rfl,.inl ⟨_,rfl,ZgW h2 c3⟩⟩
    .rw[YAL (by simpa using c3)]
     have hI:LoI D L p q T (o.push u) i (j+1):=⟨h2,hi,by omega⟩
     split
     .exact YAa ⟨rfl,_,_,_,_,_,_,rfl,.inr ⟨rfl,hI,by omega⟩⟩
     .exact YAa ⟨rfl,_,_,_,_,_,rfl,hI,by omega⟩
   | false=>
    rw[YAL YAD]
    refine YAQ (ZaX hv ?_)
    have h2:MS D L T (o.push v).toList (p.toList.drop (i+1)) (q.toList.drop j):=by
     rw[YBd]
     rw[hpd]at h
     refine MS.movX (p:=[v]) h fun a ha b hb=>?_
     have ha:a=v:=by simpa using ha
     subst ha
     rw[hqd]at hb
     rcases YAU.mp hb with rfl | hb
     .exact hL
     .exact hC.tr a u b hDv hDu (hH.dq b (YAh hb)) hL (hsy.1 b hb)
    by_cases c3:i+1+1=p.size
    .rw[YAP (by simpa using c3)]
     exact YAa ⟨rfl,_,_,_,_,_,_,rfl,.inl ⟨_,rfl,hH.fin_lp hC h2 c3⟩⟩
    .rw[YAL (by simpa using c3)]
     have hI:LoI D L p q T (o.push v) (i+1) j:=⟨h2,by omega,hj⟩
     split
     .exact YAa ⟨rfl,_,_,_,_,_,_,rfl,.inr ⟨rfl,hI,by omega⟩⟩
     .exact YAa ⟨rfl,_,_,_,_,_,rfl,hI,by omega⟩
  case p1=>
   rintro c st' ⟨rfl,r,o,i,j,ca,cb,rfl,⟨z,rfl,hz⟩|⟨rfl,hI,hw⟩⟩
   .exact YAa ⟨g,rfl,z,o,i,j,mg,rfl,hz⟩
   .dsimp only
    refine YAQ (YDd (YCI ⟨rfl,?_⟩))
    refine YAQ (YCG (YBW (I:=fun y c st'=>(∃g,st'=ZaB st g)/\LoY D L p q T (y+(x+1)) c)
     (Q:=fun c st'=>(∃g,st'=ZaB st g)/\LoQ D L p q T (x+1) c) ?s2 ?f2 ⟨⟨g,rfl⟩,_,_,_,_,_,_,rfl,hI,by omega⟩) ?p2)
    case f2=>
     rintro c st' ⟨_,o,i,j,mg,ca,cb,rfl,hI,hx⟩
     have:=hI.li;have:=hI.lj
     omega
    case p2=>
     rintro c st' ⟨⟨g,rfl⟩,r,o,i,j,mg,ca,cb,rfl,⟨z,rfl,hz⟩|⟨rfl,hI,hw⟩⟩
     .exact YAa ⟨g,rfl,z,o,i,j,mg,rfl,hz⟩
     .exact YAQ (YCO (YAa ⟨_,rfl,_,_,_,_,rfl,hI,hw⟩))
    case s2=>
     rintro y c st' _ hy ⟨⟨g,rfl⟩,o,i,j,mg,ca,cb,rfl,hI,hw⟩
     have key:∀mg,wpS M A E s (loF p q o i j mg ca cb) (fun r st'=>match r with | .done c'=>(∃g,st'=ZaB st g)/\LoQ D L p q T (x+1) c' | .yield c'=>(∃g,st'=ZaB st g)/\LoY D L p q T (y+1+(x+1)) c') (ZaB st g):=by
      intro mg
      refine YCG (Znr (w:=y+1+(x+1)) hH hC hP hk (by omega) hI) ?_
      rintro r st' ⟨hg,hr⟩
      cases r with
      | done c=>
       obtain⟨r,o,i,j,mg,ca,cb,rfl,h | ⟨rfl,hI,hw⟩⟩:=hr
       .exact⟨hg,r,o,i,j,mg,ca,cb,rfl,.inl h⟩
       .exact⟨hg,none,o,i,j,mg,ca,cb,rfl,.inr ⟨rfl,hI,by omega⟩⟩
      | yield c=>exact⟨hg,hr⟩
     have key2:wpS M A E s (if mg>1 then loF p q o i j (mg-1) ca cb else loF p q o i j mg ca cb) (fun r st'=>match r with | .done c'=>(∃g,st'=ZaB st g)/\LoQ D L p q T (x+1) c' | .yield c'=>(∃g,st'=ZaB st g)/\LoY D L p q T (y+1+(x+1)) c') (ZaB st g):=by
      split
      .exact key _
      .exact key _
     refine YCG (Q:=fun r st'=>match r with | .done c'=>(∃g,st'=ZaB st g)/\LoQ D L p q T (x+1) c' | .yield c'=>(∃g,st'=ZaB st g)/\LoY D L p q T (y+1+(x+1)) c') ?_ (fun r st' hr=>by cases r<;>exact hr)
     by_cases hmg:mg>1
     .rw[YAP (show (none,o,i,j,mg,ca,cb).snd.snd.snd.snd.fst>1 from hmg)]
      refine Eq.mp ?_ (key (mg-1))
      refine congrArg (fun m=>wpS M A E s m _ _) ?_
      unfold loF loD loE lpf dnf
      dsimp only
     .rw[YAL (show ¬(none,o,i,j,mg,ca,cb).snd.snd.snd.snd.fst>1 from hmg)]
      exact key mg
end
noncomputable def mHi:Array Keyed->Array Keyed->StateT SortSt Sem (Array Keyed):=sortPriv% PySem.Builtin.mergeHi
noncomputable def mHiB (p q:Array Keyed):StateT SortSt Sem (Array Keyed):=do
 rule "list.sort.merge-hi"
 let tt:=p.size+q.size
 let dn (o:Array Keyed) (i j:Nat):=p.extract 0 i++q.extract 0 j++o.reverse
 let fb (o:Array Keyed) (i j:Nat):=q.extract 0 j++p.extract 0 i++o.reverse
 let mut i:=p.size-1
 let mut j:=q.size
 let mut o:Array Keyed:=#[<-elem' p i]
 if i == 0 then return dn o i j
 if j == 1 then return fb o i j
 let mut mg:=gallopOf (<-get)
 for _ in [0:tt] do
  let mut ca:=0
  let mut cb:=0
  for _ in [0:tt] do
   let some wn <-lt' (<-elem' q (j-1)) (<-elem' p (i-1)) | return dn o i j
   if wn then
    i:=i-1;o:=o.push (<-elem' p i);ca:=ca+1;cb:=0
    if i == 0 then return dn o i j
    if ca>=mg then break
   else
    j:=j-1;o:=o.push (<-elem' q j);cb:=cb+1;ca:=0
    if j == 1 then return fb o i j
    if cb>=mg then break
  rule "list.sort.gallop"
  mg:=mg+1
  for _ in [0:tt] do
   if mg>1 then mg:=mg-1
   setG mg
   let some a <-gal false (<-elem' q (j-1)) p 0 i (i-1) | return dn o i j
   let k:=i-a
   ca:=k
   if k>0 then
    o:=o++(p.extract a i).reverse;i:=a
    if i == 0 then return dn o i j
   j:=j-1;o:=o.push (<-elem' q j)
   if j == 1 then return fb o i j
   let some a <-gal true (<-elem' p (i-1)) q 0 j (j-1) | return dn o i j
   let k:=j-a
   cb:=k
   if k>0 then
    o:=o++(q.extract a j).reverse;j:=a
    if j == 1 then return fb o i j
    if j == 0 then return dn o i j
   i:=i-1;o:=o.push (<-elem' p i)
   if i == 0 then return dn o i j
   if ca<7&&cb<7 then break
  mg:=mg+1
  setG mg
 unsupported "internal:list.sort.merge-bound"
theorem Znn (p q:Array Keyed):mHi p q=mHiB p q:=rfl
abbrev HiC:=Option (Array Keyed)×Nat×Nat×Array Keyed×Nat×Nat×Nat
noncomputable def dnh (p q o:Array Keyed) (i j:Nat):Array Keyed:=p.extract 0 i++q.extract 0 j++o.reverse
noncomputable def fbh (p q o:Array Keyed) (i j:Nat):Array Keyed:=q.extract 0 j++p.extract 0 i++o.reverse
noncomputable def hiE (p q o:Array Keyed) (i j mg ca cb:Nat):StateT SortSt Sem (ForInStep HiC):=do
 let e <-elem' p (i-1)
 if (i-1 == 0)=true then pure (ForInStep.done (some (dnh p q (o.push e) (i-1) j),i-1,j,o.push e,mg,ca,cb))
 else if (decide (ca<7)&&decide (cb<7))=true then pure (ForInStep.done (none,i-1,j,o.push e,mg,ca,cb))
 else pure (ForInStep.yield (none,i-1,j,o.push e,mg,ca,cb))
noncomputable def hiD (p q o:Array Keyed) (i j mg ca cb:Nat):StateT SortSt Sem (ForInStep HiC):=do
 let e <-elem' q (j-1)
 if (j-1 == 1)=true then pure (ForInStep.done (some (fbh p q (o.push e) i (j-1)),i,j-1,o.push e,mg,ca,cb))
 else do
  let some a <-gal true (<-elem' p (i-1)) q 0 (j-1) (j-1-1) | pure (ForInStep.done (some (dnh p q (o.push e) i (j-1)),i,j-1,o.push e,mg,ca,cb))
  if j-1-a>0 then
   if (a == 1)=true then pure (ForInStep.done (some (fbh p q (o.push e++(q.extract a (j-1)).reverse) i a),i,a,o.push e++(q.extract a (j-1)).reverse,mg,ca,j-1-a))
   else if (a == 0)=true then pure (ForInStep.done (some (dnh p q (o.push e++(q.extract a (j-1)).reverse) i a),i,a,o.push e++(q.extract a (j-1)).reverse,mg,ca,j-1-a))
   else hiE p q (o.push e++(q.extract a (j-1)).reverse) i a mg ca (j-1-a)
  else hiE p q (o.push e) i (j-1) mg ca (j-1-a)
noncomputable def hiF (p q o:Array Keyed) (i j mg ca cb:Nat):StateT SortSt Sem (ForInStep HiC):=do
 setG mg
 let some a <-gal false (<-elem' q (j-1)) p 0 i (i-1) | pure (ForInStep.done (some (dnh p q o i j),i,j,o,mg,ca,cb))
 if i-a>0 then
  if (a == 0)=true then pure (ForInStep.done (some (dnh p q (o++(p.extract a i).reverse) a j),a,j,o++(p.extract a i).reverse,mg,i-a,cb))
  else hiD p q (o++(p.extract a i).reverse) a j mg (i-a) cb
 else hiD p q o i j mg (i-a) cb
section
variable {M:Model}{A:Around}{E:Q33}{s:Shared}{D:Keyed->Prop}{L:Keyed->Keyed->Bool}{kd:SortKind}{p q:Array Keyed}{T:List Keyed}{st:SortSt}
noncomputable abbrev Fl (L:Keyed->Keyed->Bool):Keyed->Keyed->Bool:=fun x y=>L y x
theorem Zkx {l:List Keyed}:l.reverse.Pairwise (Le (Fl L))↔l.Pairwise (Le L):=by rw[List.pairwise_reverse]
abbrev MR (D:Keyed->Prop)(L:Keyed->Keyed->Bool)(T:List Keyed)(p q o:Array Keyed)(i j:Nat):Prop:=MS D (Fl L) T o.toList (p.toList.take i).reverse (q.toList.take j).reverse
structure HiI (D:Keyed->Prop)(L:Keyed->Keyed->Bool)(p q:Array Keyed)(T:List Keyed)(o:Array Keyed)(i j:Nat):Prop where
 ms:MR D L T p q o i j
 li:0<i
 lj:1<j
 hi:i<=p.size
 hj:j<=q.size
structure HiH (D:Keyed->Prop)(L:Keyed->Keyed->Bool)(p q:Array Keyed):Prop where
 dp:∀u∈p.toList,D u
 dq:∀u∈q.toList,D u
 sp:p.toList.Pairwise (Le L)
 sq:q.toList.Pairwise (Le L)
 first:∀u∈q.toList.take 1,∀v∈p.toList,L u v=true
theorem Zha {p:Array Keyed}{i:Nat}{e:Keyed}(hi:0<i)(h:p[i-1]?=some e):p.toList.take i=p.toList.take (i-1)++[e]:=by
 obtain⟨i,rfl⟩:∃k,i=k+1:=⟨i-1,by omega⟩
 rw[Nat.add_sub_cancel]at h ⊢
 rw[List.take_succ,YAs,h];rfl
theorem Zjs {p:Array Keyed}{i:Nat}{e:Keyed}(hi:0<i)(h:p[i-1]?=some e):(p.toList.take i).reverse=[e]++(p.toList.take (i-1)).reverse:=by
 rw[Zha hi h,List.reverse_append];rfl
theorem ZdX (l:List Keyed){a i:Nat}(h:a<=i):(l.take i).reverse=((l.take i).drop a).reverse++(l.take a).reverse:=by
 rw[<-List.reverse_append]
 congr 1
 have:l.take a=(l.take i).take a:=by rw[YCL,YBs h]
 rw[this,YAy]
theorem ZnP (p:Array Keyed)(a i:Nat):(p.extract a i).reverse.toList=((p.toList.take i).drop a).reverse:=by
 rw[Array.toList_reverse,YBF,List.extract,List.drop_take]
theorem Zkc (p q o:Array Keyed)(i j:Nat):(dnh p q o i j).toList=p.toList.take i++q.toList.take j++o.toList.reverse:=by
 unfold dnh;rw[YBH,YBH,YBF,YBF,Array.toList_reverse,List.extract,List.extract];simp
theorem Zka (p q o:Array Keyed)(i j:Nat):(fbh p q o i j).toList=q.toList.take j++p.toList.take i++o.toList.reverse:=by
 unfold fbh;rw[YBH,YBH,YBF,YBF,Array.toList_reverse,List.extract,List.extract];simp
theorem Zi2 {l m:List Keyed}(h:l.Perm T/\l.Pairwise (Le (Fl L)))(e:m=l.reverse):m.Perm T/\m.Pairwise (Le L):=by
 subst e
 refine⟨(YDa l).trans h.1,?_⟩
 rw[List.pairwise_reverse];exact h.2
theorem ZgX {o:Array Keyed}{i j:Nat}(h:MR D L T p q o i j)(e:i=0):Fin1 L T (dnh p q o i j):=by
 unfold Fin1;rw[Zkc]
 subst e
 have h':=h.swap
 exact Zi2 (l:=o.toList++(q.toList.take j).reverse) (MS.fin (D:=D) (by simpa using h')) (by simp)
theorem HiH.fin_fb {o:Array Keyed}{i j:Nat}(hH:HiH D L p q)(hC:Cmp D L)(h:MR D L T p q o i j)(e:j=1):Fin1 L T (fbh p q o i j):=by
 unfold Fin1;rw[Zka]
 subst e
 refine Zi2 (h.all fun u hu v hv=>?_) (by simp)
 have hu:u∈p.toList:=YAf (YBh.mp hu)
 have hv:=YBh.mp hv
 exact hC.asym v u (hH.dq v (YAf hv)) (hH.dp u hu) (hH.first v hv u hu)
noncomputable def HiQ (D:Keyed->Prop) (L:Keyed->Keyed->Bool) (p q:Array Keyed) (T:List Keyed) (w:Nat) (c:HiC):Prop:=
 ∃r o i j mg ca cb,c=(r,i,j,o,mg,ca,cb)/\((∃z,r=some z/\Fin1 L T z)\/(r=none/\HiI D L p q T o i j/\i+j<=w))
noncomputable def HiY (D:Keyed->Prop) (L:Keyed->Keyed->Bool) (p q:Array Keyed) (T:List Keyed) (w:Nat) (c:HiC):Prop:=
 ∃o i j mg ca cb,c=(none,i,j,o,mg,ca,cb)/\HiI D L p q T o i j/\i+j<=w
noncomputable def HiP (D:Keyed->Prop) (L:Keyed->Keyed->Bool) (p q:Array Keyed) (T:List Keyed) (w:Nat) (st:SortSt) (r:ForInStep HiC) (st':SortSt):Prop:=
 (∃g,st'=ZaB st g)/\match r with | .done c=>HiQ D L p q T w c | .yield c=>HiY D L p q T w c
theorem ZkH {o:Array Keyed}{i j mg ca cb w g:Nat}(hH:HiH D L p q)(hi:0<i)(hip:i<=p.size)(hj:1<j)(hjq:j<=q.size)(hw:i-1+j<=w)(h:MR D L T p q o i j)
  (hle:∀u∈(p.toList.take i).drop (i-1),∀v∈q.toList.take j,Le L v u):wpS M A E s (hiE p q o i j mg ca cb) (HiP D L p q T w st) (ZaB st g):=by
 obtain⟨e,he,hm⟩:=at? (p:=p) (i:=i-1) (by omega)
 have hd:=Zjs hi he
 have h2:MR D L T p q (o.push e) (i-1) j:=by
  unfold MR at h ⊢
  rw[YBd]
  rw[hd]at h
  refine MS.movX h fun u hu v hv=>?_
  have hu:u=e:=by simpa using hu
  subst hu
  refine hle u ?_ v (YBh.mp hv)
  rw[Zha hi he,YBC (by simp;omega)]
  simp
 unfold hiE
 refine YAQ (ZaX he ?_)
 by_cases c1:i-1=0
 .rw[YAP (by simpa using c1)]
  exact YAa ⟨⟨g,rfl⟩,_,_,_,_,_,_,_,rfl,.inl ⟨_,rfl,ZgX h2 c1⟩⟩
 .rw[YAL (by simpa using c1)]
  have hI:HiI D L p q T (o.push e) (i-1) j:=⟨h2,by omega,hj,by omega,hjq⟩
  split
  .exact YAa ⟨⟨g,rfl⟩,_,_,_,_,_,_,_,rfl,.inr ⟨rfl,hI,hw⟩⟩
  .exact YAa ⟨⟨g,rfl⟩,_,_,_,_,_,_,rfl,hI,hw⟩
theorem le_refl' (hC:Cmp D L){v:Keyed}(h:D v):Le L v v:=by
 cases hx:L v v with
 | false=>exact hx
 | true=>exact hC.asym v v h h hx
theorem Zes (hC:Cmp D L)(hd:∀u∈p.toList,D u)(hs:p.toList.Pairwise (Le L)){i:Nat}{x:Keyed}(hi:0<i)(hx:p[i-1]?=some x)(hm:x∈p.toList):∀v∈p.toList.take i,Le L v x:=by
 intro v hv
 have h2:=hs.sublist (YCB i p.toList)
 rw[Zha hi hx]at h2 hv
 rcases YAZ.mp hv with hv | hv
 .exact(YBS.mp h2).2.2 v hv x (by simp)
 .have:v=x:=by simpa using hv
  subst this;exact le_refl' hC (hd v hm)
theorem ZdJ {i:Nat}{x u:Keyed}(hi:0<i)(hip:i<=p.size)(hx:p[i-1]?=some x):u∈(p.toList.take i).drop (i-1)↔u=x:=by
 rw[Zha hi hx,YBC (by simp;omega),YBI (by simp;omega)]
 simp
theorem ZkI {o:Array Keyed}{i j mg ca cb w g:Nat}(hH:HiH D L p q)(hC:Cmp D L)(hP:PureC M A E s D L kd)(hk:kindOf st=kd)(hi:0<i)(hip:i<=p.size)(hj:1<j)(hjq:j<=q.size)(hw:i-1+j<=w)
  (h:MR D L T p q o i j) (hle:∀v∈(q.toList.take j).drop (j-1),∀u∈p.toList.take i,Le L u v):wpS M A E s (hiD p q o i j mg ca cb) (HiP D L p q T w st) (ZaB st g):=by
 obtain⟨e,he,hm⟩:=at? (p:=q) (i:=j-1) (by omega)
 obtain⟨x,hx,hxm⟩:=at? (p:=p) (i:=i-1) (by omega)
 have h2:MR D L T p q (o.push e) i (j-1):=by
  unfold MR at h ⊢
  rw[YBd]
  rw[Zjs (by omega) he]at h
  refine MS.movY h fun u hu v hv=>?_
  have hu:u=e:=by simpa using hu
  exact hle u ((ZdJ (by omega) hjq he).mpr hu) v (YBh.mp hv)
 unfold hiD
 refine YAQ (ZaX he ?_)
 by_cases c1:j-1=1
 .rw[YAP (by simpa using c1)]
  exact YAa ⟨⟨g,rfl⟩,_,_,_,_,_,_,_,rfl,.inl ⟨_,rfl,hH.fin_fb hC h2 c1⟩⟩
 .rw[YAL (by simpa using c1)]
  refine YAQ (ZaX hx ?_)
  refine YAQ (Zd6 hC hP (by exact hk) (by omega) (by omega) (hH.dp x hxm) hH.dq (by rw[YBg];exact hH.sq.sublist (YCB _ _)) ?_)
  rw[YBg]
  intro a hkn ha hb
  replace ha:∀u∈(q.toList.take (j-1)).take a,L u x=true:=ha
  replace hb:∀u∈(q.toList.take (j-1)).drop a,Le L x u:=hb
  rw[YCL,YBs hkn]at ha
  dsimp only
  have xge:=Zes hC hH.dp hH.sp hi hx hxm
  have h3:MR D L T p q (o.push e++(q.extract a (j-1)).reverse) i a:=by
   unfold MR at h2 ⊢
   rw[YBH,ZnP]
   rw[ZdX q.toList hkn]at h2
   refine h2.movY fun u hu v hv=>?_
   have hu:=YBh.mp hu
   have hv:=YBh.mp hv
   exact hC.tr v x u (hH.dp v (YAf hv)) (hH.dp x hxm) (hH.dq u (YAf (YAh hu))) (xge v hv) (hb u hu)
  have hle2:∀u∈(p.toList.take i).drop (i-1),∀v∈q.toList.take a,Le L v u:=by
   intro u hu v hv
   have:=(ZdJ hi hip hx).mp hu
   subst this
   exact hC.asym v u (hH.dq v (YAf hv)) (hH.dp u hxm) (ha v hv)
  have ha0:a≠0:=by
   rintro rfl
   obtain⟨y,hy,hym⟩:=at? (p:=q) (i:=0) (by omega)
   have hyq:q.toList.take 1=[y]:=by have:=Zha (p:=q) (i:=1) (by omega) hy;simpa using this
   have h5:=hH.first y (by rw[hyq];simp) x hxm
   have h6:y∈q.toList.take (j-1):=by
    have:q.toList.take 1=(q.toList.take (j-1)).take 1:=by rw[YCL,YBs (by omega)]
    rw[this]at hyq
    exact YAf (i:=1) (by rw[hyq];simp)
   rw[show L y x=false from hb y h6]at h5
   cases h5
  by_cases hk0:j-1-a>0
  .rw[YAP hk0]
   by_cases c2:a=1
   .rw[YAP (by simpa using c2)]
    exact YAa ⟨⟨g,rfl⟩,_,_,_,_,_,_,_,rfl,.inl ⟨_,rfl,hH.fin_fb hC h3 c2⟩⟩
   .rw[YAL (by simpa using c2),YAL (by simpa using ha0)]
    exact ZkH hH hi hip (by omega) (by omega) (by omega) h3 hle2
  .rw[YAL hk0]
   have:a=j-1:=by omega
   subst this
   exact ZkH hH hi hip (by omega) (by omega) (by omega) h2 hle2
theorem ZnI {o:Array Keyed}{i j mg ca cb w g:Nat}(hH:HiH D L p q)(hC:Cmp D L)(hP:PureC M A E s D L kd)(hk:kindOf st=kd)(hw:i-1+j<=w)(hI:HiI D L p q T o i j):
  wpS M A E s (hiF p q o i j mg ca cb) (HiP D L p q T w st) (ZaB st g):=by
 obtain⟨h,hi,hj,hip,hjq⟩:=hI
 obtain⟨x,hx,hxm⟩:=at? (p:=q) (i:=j-1) (by omega)
 unfold hiF
 refine YAQ (YCO ?_)
 refine YAQ (ZaX hx ?_)
 refine YAQ (Zd6 hC hP (by exact hk) (by omega) (by omega) (hH.dq x hxm) hH.dp (by rw[YBg];exact hH.sp.sublist (YCB _ _)) ?_)
 rw[YBg]
 intro a hkn ha hb
 replace ha:∀u∈(p.toList.take i).take a,Le L u x:=ha
 replace hb:∀u∈(p.toList.take i).drop a,L x u=true:=hb
 rw[YCL,YBs hkn]at ha
 dsimp only
 have xge:=Zes hC hH.dq hH.sq (by omega) hx hxm
 have h3:MR D L T p q (o++(p.extract a i).reverse) a j:=by
  unfold MR at h ⊢
  rw[YBH,ZnP]
  rw[ZdX p.toList hkn]at h
  refine h.movX fun u hu v hv=>?_
  have hu:=YBh.mp hu
  have hv:=YBh.mp hv
  have hDu:=hH.dp u (YAf (YAh hu))
  exact hC.tr v x u (hH.dq v (YAf hv)) (hH.dq x hxm) hDu (xge v hv) (hC.asym x u (hH.dq x hxm) hDu (hb u hu))
 have hle2:∀v∈(q.toList.take j).drop (j-1),∀u∈p.toList.take a,Le L u v:=by
  intro v hv u hu
  have:=(ZdJ (by omega) hjq hx).mp hv
  subst this
  exact ha u hu
 by_cases hk0:i-a>0
 .rw[YAP hk0]
  by_cases c2:a=0
  .rw[YAP (by simpa using c2)]
   exact YAa ⟨⟨_,rfl⟩,_,_,_,_,_,_,_,rfl,.inl ⟨_,rfl,ZgX h3 c2⟩⟩
  .rw[YAL (by simpa using c2)]
   exact ZkI hH hC hP hk (by omega) (by omega) hj hjq (by omega) h3 hle2
 .rw[YAL hk0]
  have:a=i:=by omega
  subst this
  exact ZkI hH hC hP hk hi hip hj hjq hw h hle2
theorem Znm {Q:Array Keyed->SortSt->Prop}(hH:HiH D L p q)(hC:Cmp D L)(hP:PureC M A E s D L kd)(hk:kindOf st=kd)(hp:0<p.size)(hq:0<q.size)
  (h0:∀u∈p.toList.drop (p.size-1),∀v∈q.toList,Le L v u) (hQ:∀z g,Fin1 L (p.toList++q.toList) z->Q z (ZaB st g)):wpS M A E s (mHi p q) Q st:=by
 rw[Znn];unfold mHiB
 obtain⟨e,he,hm⟩:=at? (p:=p) (i:=p.size-1) (by omega)
 have hd:p.toList=p.toList.take (p.size-1)++[e]:=by
  have:=Zha hp he
  rwa [YAm (by simp)]at this
 have h1:MR D L (p.toList++q.toList) p q #[e] (p.size-1) q.size:=by
  unfold MR
  have e2:(q.toList.take q.size)=q.toList:=YAm (by simp)
  rw[e2]
  have:MS D (Fl L) (p.toList++q.toList) [] ([e]++(p.toList.take (p.size-1)).reverse) q.toList.reverse:=by
   have e3:[e]++(p.toList.take (p.size-1)).reverse=p.toList.reverse:=by
    conv=>rhs;rw[hd]
    simp
   rw[e3]
   exact⟨by simpa using (YDa _).append (YDa _),List.Pairwise.nil,by simp,by simp,Zkx.mpr hH.sp,Zkx.mpr hH.sq⟩
  refine this.movX fun u hu v hv=>h0 u ?_ v (YBh.mp hv)
  have hu:u=e:=by simpa using hu
  subst hu
  rw[hd,YBC (by simp)]
  simp
 refine YAQ (YDd (YCI ⟨rfl,?_⟩))
 refine YAQ (ZaX he ?_)
 by_cases c1:p.size-1=0
 .rw[YAP (by simpa using c1)]
  exact YAa (hQ _ _ (ZgX h1 c1))
 rw[YAL (by simpa using c1)]
 by_cases c2:q.size=1
 .rw[YAP (by simpa using c2)]
  exact YAa (hQ _ _ (hH.fin_fb hC h1 c2))
 rw[YAL (by simpa using c2)]
 refine YAQ (YDM ?_)
 have hI:HiI D L p q (p.toList++q.toList) #[e] (p.size-1) q.size:=⟨h1,by omega,by omega,by omega,by omega⟩
 generalize p.toList++q.toList=T at hI hQ
 refine YAQ (YCG (YBW (a:=0) (b:=p.size+q.size) (I:=fun x c st'=>∃g,st'=ZaB st g/\∃o i j mg,c=(none,i,j,o,mg)/\HiI D L p q T o i j/\x+(i+j)<=p.size+q.size)
  (Q:=fun c st'=>∃g,st'=ZaB st g/\∃z o i j mg,c=(some z,i,j,o,mg)/\Fin1 L T z) ?step ?fin ⟨gallopOf st,rfl,#[e],p.size-1,q.size,gallopOf st,rfl,hI,by omega⟩) ?post)
 case post=>
  rintro c st' ⟨g,rfl,z,o,i,j,mg,rfl,hz⟩
  exact YAa (hQ z g hz)
 case fin=>
  rintro c st' ⟨g,rfl,o,i,j,mg,rfl,hI,hx⟩
  have:=hI.li;have:=hI.lj
  omega
 case step=>
  rintro x c st' _ hx ⟨g,rfl,o,i,j,mg,rfl,hI,hxi⟩
  dsimp only
  refine YAQ (YCG (YBW (I:=fun y c st'=>st'=ZaB st g/\∃o i j ca cb,c=(none,i,j,o,ca,cb)/\HiI D L p q T o i j/\y+x+(i+j)<=p.size+q.size)
   (Q:=fun c st'=>st'=ZaB st g/\∃r o i j ca cb,c=(r,i,j,o,ca,cb)/\((∃z,r=some z/\Fin1 L T z)\/(r=none/\HiI D L p q T o i j/\x+1+(i+j)<=p.size+q.size))) ?s1 ?f1 ⟨rfl,_,_,_,_,_,rfl,hI,by omega⟩) ?p1)
  case f1=>
   rintro c st' ⟨rfl,o,i,j,ca,cb,rfl,hI,hx⟩
   have:=hI.li;have:=hI.lj
   omega
  case s1=>
   rintro y c st' _ hy ⟨rfl,o,i,j,ca,cb,rfl,hI,hxi⟩
   obtain⟨h,hi,hj,hip,hjq⟩:=hI
   obtain⟨u,hu,hum⟩:=at? (p:=q) (i:=j-1) (by omega)
   obtain⟨v,hv,hvm⟩:=at? (p:=p) (i:=i-1) (by omega)
   have hDu:=hH.dq u hum
   have hDv:=hH.dp v hvm
   have uge:=Zes hC hH.dq hH.sq (by omega) hu hum
   have vge:=Zes hC hH.dp hH.sp hi hv hvm
   dsimp only
   refine YAQ (ZaX hu (YAQ (ZaX hv (YAQ (hP _ _ _ _ hk hDu hDv ?_)))))
   dsimp only
   cases hL:L u v with
   | true=>
    rw[YAP rfl]
    refine YAQ (ZaX hv ?_)
    have h2:MR D L T p q (o.push v) (i-1) j:=by
     unfold MR at h ⊢
     rw[YBd]
     rw[Zjs hi hv]at h
     refine MS.movX h fun a ha b hb=>?_
     have ha:a=v:=by simpa using ha
     subst ha
     have hb:=YBh.mp hb
     exact hC.tr b u a (hH.dq b (YAf hb)) hDu hDv (uge b hb) (hC.asym _ _ hDu hDv hL)
    by_cases c3:i-1=0
    .rw[YAP (by simpa using c3)]
     exact YAa ⟨rfl,_,_,_,_,_,_,rfl,.inl ⟨_,rfl,ZgX h2 c3⟩⟩
    .rw[YAL (by simpa using c3)]
     have hI:HiI D L p q T (o.push v) (i-1) j:=⟨h2,by omega,by omega,by omega,by omega⟩
     split
     .exact YAa ⟨rfl,_,_,_,_,_,_,rfl,.inr ⟨rfl,hI,by omega⟩⟩
     .exact YAa ⟨rfl,_,_,_,_,_,rfl,hI,by omega⟩
   | false=>
    rw[YAL YAD]
    refine YAQ (ZaX hu ?_)
    have h2:MR D L T p q (o.push u) i (j-1):=by
     unfold MR at h ⊢
     rw[YBd]
     rw[Zjs (by omega) hu]at h
     refine MS.movY h fun a ha b hb=>?_
     have ha:a=u:=by simpa using ha
     subst ha
     have hb:=YBh.mp hb
     exact hC.tr b v a (hH.dp b (YAf hb)) hDv hDu (vge b hb) hL
    by_cases c3:j-1=1
    .rw[YAP (by simpa using c3)]
     exact YAa ⟨rfl,_,_,_,_,_,_,rfl,.inl ⟨_,rfl,hH.fin_fb hC h2 c3⟩⟩
    .rw[YAL (by simpa using c3)]
     have hI:HiI D L p q T (o.push u) i (j-1):=⟨h2,by omega,by omega,by omega,by omega⟩
     split
     .exact YAa ⟨rfl,_,_,_,_,_,_,rfl,.inr ⟨rfl,hI,by omega⟩⟩
     .exact YAa ⟨rfl,_,_,_,_,_,rfl,hI,by omega⟩
  case p1=>
   rintro c st' ⟨rfl,r,o,i,j,ca,cb,rfl,⟨z,rfl,hz⟩|⟨rfl,hI,hw⟩⟩
   .exact YAa ⟨g,rfl,z,o,i,j,mg,rfl,hz⟩
   .dsimp only
    refine YAQ (YDd (YCI ⟨rfl,?_⟩))
    refine YAQ (YCG (YBW (I:=fun y c st'=>(∃g,st'=ZaB st g)/\HiY D L p q T (p.size+q.size-y-(x+1)) c)
     (Q:=fun c st'=>(∃g,st'=ZaB st g)/\HiQ D L p q T (p.size+q.size-(x+1)) c) ?s2 ?f2 ⟨⟨g,rfl⟩,_,_,_,_,_,_,rfl,hI,by omega⟩) ?p2)
    case f2=>
     rintro c st' ⟨_,o,i,j,mg,ca,cb,rfl,hI,hx⟩
     have:=hI.li;have:=hI.lj
     omega
    case p2=>
     rintro c st' ⟨⟨g,rfl⟩,r,o,i,j,mg,ca,cb,rfl,⟨z,rfl,hz⟩|⟨rfl,hI,hw⟩⟩
     .exact YAa ⟨g,rfl,z,o,i,j,mg,rfl,hz⟩
     .exact YAQ (YCO (YAa ⟨_,rfl,o,i,j,mg+1,rfl,hI,by have:=hI.li;omega⟩))
    case s2=>
     rintro y c st' _ hy ⟨⟨g,rfl⟩,o,i,j,mg,ca,cb,rfl,hI,hw⟩
     have key:∀mg,wpS M A E s (hiF p q o i j mg ca cb) (fun r st'=>match r with | .done c'=>(∃g,st'=ZaB st g)/\HiQ D L p q T (p.size+q.size-(x+1)) c' | .yield c'=>(∃g,st'=ZaB st g)/\HiY D L p q T (p.size+q.size-(y+1)-(x+1)) c') (ZaB st g):=by
      intro mg
      have:=hI.li
      refine YCG (ZnI (w:=p.size+q.size-(y+1)-(x+1)) hH hC hP hk (by omega) hI) ?_
      rintro r st' ⟨hg,hr⟩
      cases r with
      | done c=>
       obtain⟨r,o,i,j,mg,ca,cb,rfl,h | ⟨rfl,hI,hw⟩⟩:=hr
       .exact⟨hg,r,o,i,j,mg,ca,cb,rfl,.inl h⟩
       .exact⟨hg,none,o,i,j,mg,ca,cb,rfl,.inr ⟨rfl,hI,by omega⟩⟩
      | yield c=>exact⟨hg,hr⟩
     refine YCG (Q:=fun r st'=>match r with | .done c'=>(∃g,st'=ZaB st g)/\HiQ D L p q T (p.size+q.size-(x+1)) c' | .yield c'=>(∃g,st'=ZaB st g)/\HiY D L p q T (p.size+q.size-(y+1)-(x+1)) c') ?_ (fun r st' hr=>by cases r<;>exact hr)
     by_cases hmg:mg>1
     .rw[YAP (show (none,i,j,o,mg,ca,cb).snd.snd.snd.snd.fst>1 from hmg)]
      refine Eq.mp ?_ (key (mg-1))
      refine congrArg (fun m=>wpS M A E s m _ _) ?_
      unfold hiF hiD hiE fbh dnh
      dsimp only
     .rw[YAL (show ¬(none,i,j,o,mg,ca,cb).snd.snd.snd.snd.fst>1 from hmg)]
      exact key mg
end
noncomputable def mAtB (i:Nat):StateT SortSt Sem Bool:=do
 let v <-get
 let (some (sa,na,pw),some (sb,nb,_)):=((pendingOf v)[i]?,(pendingOf v)[i+1]?) | unsupported "internal:list.sort.pending"
 set (setPending v (((pendingOf v).setIfInBounds i (sa,na+nb,pw)).eraseIdxIfInBounds (i+1)))
 let some k <-gal false (<-elem' (arrOf v) sb) (arrOf v) sa na 0 | return false
 let (sa,na):=(sa+k,na-k)
 if na == 0 then return true
 let some nb <-gal true (<-elem' (arrOf v) (sa+na-1)) (arrOf v) sb nb (nb-1) | return false
 if nb == 0 then return true
 let x:=(arrOf v).extract sa sb
 let y:=(arrOf v).extract sb (sb+nb)
 let mm <-if na<=nb then mLo x y else mHi x y
 modify fun u=>setArr u (mm.toList.zipIdx.foldl (fun a (p,j)=>a.setIfInBounds (sa+j) p) (arrOf u))
 return (failedOf (<-get)).isNone
theorem Znp (i:Nat):mergeAt' i=mAtB i:=rfl
theorem ZkX {M:Model}{A:Around}{E:Q33}{s:Shared}{U:Type}{v:U}{Q:PUnit->U->Prop}{st:U}(h:Q ⟨⟩ v):wpS M A E s (set v:StateT U Sem PUnit) Q st:=by
 unfold wpS;rw[StateT.run_set];exact YAF ⟨rfl,h⟩
noncomputable def putL (a:Array Keyed) (b:Nat) (l:List Keyed):Array Keyed:=l.zipIdx.foldl (fun a (p,j)=>a.setIfInBounds (b+j) p) a
theorem Zid:∀(l:List Keyed) (n b:Nat) (a:Array Keyed) (x y z:List Keyed),a.toList=x++y++z->x.length=b+n->y.length=l.length ->
  ((l.zipIdx n).foldl (fun a (p,j)=>a.setIfInBounds (b+j) p) a).toList=x++l++z
 | [],n,b,a,x,y,z,h,hx,hy=>by
  have:y=[]:=YBo.mp hy
  subst this;simpa using h
 | e::l,n,b,a,x,y,z,h,hx,hy=>by
  cases y with
  | nil=>simp at hy
  | cons f y=>
   rw[List.zipIdx_cons,YCp]
   have:=Zid l (n+1) b (a.setIfInBounds (b+n) e) (x++[e]) y z (by
    rw[YDW,h,<-hx,YAt,YDJ,List.set_append_right _ _ (YAH _),YCZ]
    simp) (by simp;omega) (by simpa using hy)
   rw[this];simp
theorem Zic {l:List Keyed}{b:Nat}{a:Array Keyed}{x y z:List Keyed}(h:a.toList=x++y++z)(hx:x.length=b)(hy:y.length=l.length):(putL a b l).toList=x++l++z:=
 Zid l 0 b a x y z h (by omega) hy
section
variable {M:Model}{A:Around}{E:Q33}{s:Shared}{D:Keyed->Prop}{L:Keyed->Keyed->Bool}{kd:SortKind}{st:SortSt}
theorem slice {a:Array Keyed}{x y z:List Keyed}{b n:Nat}(h:a.toList=x++y++z)(hb:b=x.length)(hn:n=y.length):(a.toList.drop b).take n=y:=by
 rw[h,hb,hn,YAt,List.drop_left,List.take_left]
theorem Zno {i pw pw2:Nat}{W X Y Z:List Keyed}{Q:Bool->SortSt->Prop}(hC:Cmp D L)(hP:PureC M A E s D L kd)(hk:kindOf st=kd)(hf:failedOf st=none)
  (ha:(arrOf st).toList=W++X++Y++Z) (hd:∀u∈(arrOf st).toList,D u) (hX:X≠[]) (hY:Y≠[]) (sX:X.Pairwise (Le L)) (sY:Y.Pairwise (Le L))
  (h1:(pendingOf st)[i]?=some (W.length,X.length,pw)) (h2:(pendingOf st)[i+1]?=some (W.length+X.length,Y.length,pw2))
  (hQ:∀(V:List Keyed) (a:Array Keyed) g,a.toList=W++V++Z->V.Perm (X++Y)->V.Pairwise (Le L)->Q true (SortSt.mk' kd a (((pendingOf st).setIfInBounds i (W.length,X.length+Y.length,pw)).eraseIdxIfInBounds (i+1)) g none)):
  wpS M A E s (mergeAt' i) Q st:=by
 rw[Znp];unfold mAtB
 refine YAQ (YDM ?_)
 rw[h1,h2]
 dsimp only
 refine YAQ (ZkX ?_)
 have hsz:(arrOf st).size=W.length+X.length+Y.length+Z.length:=by rw[<-YAS,ha];simp;omega
 have hXp:0<X.length:=YBY.mpr hX
 have hYp:0<Y.length:=YBY.mpr hY
 have dX:∀u∈X,D u:=fun u hu=>hd u (by rw[ha];simp[hu])
 have dY:∀u∈Y,D u:=fun u hu=>hd u (by rw[ha];simp[hu])
 obtain⟨y0,Y',rfl⟩:∃y l,Y=y::l:=by cases Y with | nil=>exact absurd rfl hY | cons y l=>exact⟨y,l,rfl⟩
 have hy0:(arrOf st)[W.length+X.length]?=some y0:=by
  rw[<-YAs,ha,YAt,YAn (by simp)]
  simp
 have dy0:=dY y0 (by simp)
 refine YAQ (ZaX hy0 ?_)
 have sl1:=slice (a:=arrOf st) (x:=W) (y:=X) (z:=y0::Y'++Z) (b:=W.length) (n:=X.length) (by rw[ha];simp) rfl rfl
 have sl2:=slice (a:=arrOf st) (x:=W++X) (y:=y0::Y') (z:=Z) (b:=W.length+X.length) (n:=(y0::Y').length) (by rw[ha]) (by simp) rfl
 refine YAQ (Zd6 hC hP (by exact hk) (by omega) hXp dy0 hd (by rw[sl1];exact sX) ?_)
 rw[sl1]
 intro k hkn ha1 hb1
 replace ha1:∀u∈X.take k,Le L u y0:=ha1
 replace hb1:∀u∈X.drop k,L y0 u=true:=hb1
 dsimp only
 have y0le:∀v∈y0::Y',Le L y0 v:=by
  intro v hv
  rcases YAU.mp hv with rfl | hv
  .exact le_refl' hC dy0
  .exact(YBU.mp sY).1 v hv
 have X1Y:∀u∈X.take k,∀v∈y0::Y',Le L u v:=fun u hu v hv=>hC.tr u y0 v (dX u (YAf hu)) dy0 (dY v hv) (ha1 u hu) (y0le v hv)
 by_cases c1:X.length-k=0
 .rw[YAP (by simpa using c1)]
  refine YAa ?_
  have e:X.take k=X:=YAm (by omega)
  rw[e]at X1Y
  have:=hQ (X++(y0::Y')) (arrOf st) (gallopOf st) (by rw[ha];simp) (List.Perm.refl _) (YBS.mpr ⟨sX,sY,X1Y⟩)
  rw[<-hk,<-hf]at this
  exact this
 rw[YAL (by simpa using c1)]
 obtain⟨xl,hxl⟩:∃xl,X[X.length-1]?=some xl:=⟨X[X.length-1],YAG (by omega)⟩
 have hxm:xl∈X:=YAT hxl
 have hxl2:xl∈X.drop k:=by
  refine YAT (i:=X.length-1-k) ?_
  rw[YCW,<-hxl];congr 1;omega
 have hxa:(arrOf st)[W.length+k+(X.length-k)-1]?=some xl:=by
  rw[<-YAs,ha,YAt,YAt,YAn (by omega),YAl (by omega),<-hxl]
  congr 1;omega
 refine YAQ (ZaX hxa ?_)
 refine YAQ (Zd6 hC hP (by exact hk) (by simp at hsz ⊢;omega) (by simp) (dX xl hxm) hd (by rw[sl2];exact sY) ?_)
 rw[sl2]
 intro n hnn ha2 hb2
 replace ha2:∀u∈(y0::Y').take n,L u xl=true:=ha2
 replace hb2:∀u∈(y0::Y').drop n,Le L xl u:=hb2
 dsimp only
 have hn0:n≠0:=by
  rintro rfl
  have h5:=hb1 xl hxl2
  rw[show L y0 xl=false from hb2 y0 (by simp)]at h5
  cases h5
 rw[YAL (by simpa using hn0)]
 obtain⟨x,hx⟩:∃x,x=(arrOf st).extract (W.length+k) (W.length+X.length):=⟨_,rfl⟩
 obtain⟨y,hy⟩:∃y,y=(arrOf st).extract (W.length+X.length) (W.length+X.length+n):=⟨_,rfl⟩
 have xL:x.toList=X.drop k:=by
  rw[hx,YBF,List.extract]
  exact slice (x:=W++X.take k) (z:=y0::Y'++Z) (by rw[ha];simp only[YAt];rw[<-YAt (X.take k),YAy]) (by rw[YAE,YAc,YBs hkn]) (by rw[YAj];omega)
 have yL:y.toList=(y0::Y').take n:=by
  rw[hy,YBF,List.extract]
  exact slice (x:=W++X) (z:=(y0::Y').drop n++Z) (by rw[ha];simp only[YAt];rw[<-YAt (List.take n _),YAy]) (by rw[YAE]) (by rw[YAc,YBs hnn];omega)
 have xS:x.size=X.length-k:=by rw[<-YAS,xL,YAj]
 have yS:y.size=n:=by rw[<-YAS,yL,YAc,YBs hnn]
 have y1:y.toList.take 1=[y0]:=by
  rw[yL,YCL,YBs (by omega)];simp
 have xd:∀v∈x.toList.drop (x.size-1),v=xl:=by
  intro v hv
  rw[xL,xS,YBr]at hv
  have:X.drop (k+(X.length-k-1))=[xl]:=by
   obtain⟨h5,h6⟩:=YAK.mp hxl
   rw[show k+(X.length-k-1)=X.length-1 by omega,YDY h5,h6,YBI (by omega)]
  rw[this]at hv
  simpa using hv
 have dx:∀u∈x.toList,D u:=fun u hu=>dX u (YAh (xL▸hu))
 have dy:∀u∈y.toList,D u:=fun u hu=>dY u (YAf (yL▸hu))
 have sx:x.toList.Pairwise (Le L):=by rw[xL];exact sX.sublist (List.drop_sublist _ _)
 have sy:y.toList.Pairwise (Le L):=by rw[yL];exact sY.sublist (YCB _ _)
 have y0x:∀v∈x.toList,L y0 v=true:=fun v hv=>hb1 v (xL▸hv)
 have yxl:∀u∈y.toList,L u xl=true:=fun u hu=>ha2 u (yL▸hu)
 have main:∀(z:Array Keyed) g,Fin1 L (x.toList++y.toList) z->wpS M A E s (do
   modify fun u=>setArr u (putL (arrOf u) (W.length+k) z.toList)
   return (failedOf (<-get)).isNone) Q (ZaB (setPending st (((pendingOf st).setIfInBounds i (W.length,X.length+(y0::Y').length,pw)).eraseIdxIfInBounds (i+1))) g):=by
  rintro z g ⟨hz1,hz2⟩
  refine YAQ (YCO (YAQ (YDM (YAa ?_))))
  show Q (failedOf st).isNone _
  rw[hf]
  have hzl:(X.drop k++(y0::Y').take n).length=z.toList.length:=by rw[hz1.length_eq,xL,yL]
  have hp:(putL (arrOf st) (W.length+k) z.toList).toList=W++(X.take k++z.toList++(y0::Y').drop n)++Z:=by
   rw[Zic (x:=W++X.take k) (y:=X.drop k++(y0::Y').take n) (z:=(y0::Y').drop n++Z) (by
    rw[ha];simp only[YAt]
    rw[<-YAt (List.take n _),YAy,<-YAt (X.take k),YAy]) (by rw[YAE,YAc,YBs hkn]) hzl]
   simp only[YAt]
  have zm:∀v∈z.toList,v∈X.drop k\/v∈(y0::Y').take n:=fun v hv=>by
   have:=hz1.mem_iff.mp hv
   rw[xL,yL]at this
   exact YAZ.mp this
  have dxl:=dX xl hxm
  have:=hQ (X.take k++z.toList++(y0::Y').drop n) _ g hp ?_ ?_
  .rw[<-hk,<-hf]at this
   exact this
  .have e1:(X.take k++z.toList++(y0::Y').drop n).Perm (X.take k++(X.drop k++(y0::Y').take n)++(y0::Y').drop n):=by
    refine List.Perm.append_right _ (List.Perm.append_left _ ?_)
    rw[xL,yL]at hz1;exact hz1
   refine e1.trans (List.Perm.of_eq ?_)
   rw[<-YAt,YAy,YAt,YAy]
  .have zY2:∀u∈z.toList,∀v∈(y0::Y').drop n,Le L u v:=by
    intro u hu v hv
    rcases zm u hu with h | h
    .have hux:Le L u xl:=by
      have e5:X=X.take (X.length-1)++[xl]:=by
       obtain⟨h5,h6⟩:=YAK.mp hxl
       conv=>lhs;rw[<-YAy (X.length-1) X,YDY h5,h6,YBI (by omega)]
      have hu':u∈X:=YAh h
      rw[e5]at sX hu'
      rcases YAZ.mp hu' with hu' | hu'
      .exact(YBS.mp sX).2.2 u hu' xl (by simp)
      .have:u=xl:=by simpa using hu'
       subst this;exact le_refl' hC dxl
     exact hC.tr u xl v (dX u (YAh h)) dxl (dY v (YAh hv)) hux (hb2 v hv)
    .have e5:=sY
     rw[<-YAy n (y0::Y')]at e5
     exact(YBS.mp e5).2.2 u h v hv
   rw[YBS,YBS]
   refine⟨⟨sX.sublist (YCB _ _),hz2,fun u hu v hv=>?_⟩,sY.sublist (List.drop_sublist _ _),fun u hu v hv=>?_⟩
   .rcases zm v hv with h | h
    .have e5:=sX
     rw[<-YAy k X]at e5
     exact(YBS.mp e5).2.2 u hu v h
    .exact X1Y u hu v (YAf h)
   .rcases YAZ.mp hu with hu | hu
    .exact X1Y u hu v (YAh hv)
    .exact zY2 u hu v hv
 have xp:0<x.size:=by omega
 have yp:0<y.size:=by omega
 rw[<-hx,<-hy]
 by_cases c3:X.length-k<=n
 .rw[YAP c3]
  refine YAQ (Znk (st:=setPending st _) ⟨dx,dy,sx,sy,fun u hu v hv=>by rw[xd v hv];exact yxl u hu⟩ hC hP (by exact hk) xp yp (fun u hu v hv=>?_) fun z g hz=>main z g hz)
  have hu:u=y0:=by rw[y1]at hu;simpa using hu
  subst hu
  exact hC.asym u v dy0 (dx v hv) (y0x v hv)
 .rw[YAL c3]
  refine YAQ (Znm (st:=setPending st _) ⟨dx,dy,sx,sy,fun u hu v hv=>by rw[y1]at hu;rw[show u=y0 by simpa using hu];exact y0x v hv⟩ hC hP (by exact hk) xp yp (fun u hu v hv=>?_) fun z g hz=>main z g hz)
  rw[xd u hu]
  exact hC.asym v xl (dy v hv) (dX xl hxm) (yxl v hv)
end
abbrev CmpT (L:Keyed->Keyed->Bool):Prop:=Cmp (fun _=>True) L
theorem CmpT.to {L:Keyed->Keyed->Bool}{D:Keyed->Prop}(h:CmpT L):Cmp D L:=⟨fun x y _ _=>h.asym x y trivial trivial,fun x y z _ _ _=>h.tr x y z trivial trivial trivial⟩
theorem CmpT.rf {L:Keyed->Keyed->Bool}(h:CmpT L)(x:Keyed):Le L x x:=le_refl' h trivial
theorem CmpT.le {L:Keyed->Keyed->Bool}(h:CmpT L){x y:Keyed}(e:L x y=true):Le L x y:=h.asym x y trivial trivial e
theorem CmpT.t {L:Keyed->Keyed->Bool}(h:CmpT L){x y z:Keyed}(e:Le L x y)(f:Le L y z):Le L x z:=h.tr x y z trivial trivial trivial e f
theorem CmpT.lt_le {L:Keyed->Keyed->Bool}(h:CmpT L){x y z:Keyed}(e:L x y=true)(f:Le L y z):L x z=true:=by
 cases hx:L x z with
 | true=>rfl
 | false=>rw[h.tr y z x trivial trivial trivial f hx]at e;cases e
noncomputable def at0 (a:Array Keyed) (i:Nat):Keyed:=(a[i]?).getD (.none,.none)
theorem ZdO {a b:Array Keyed}{i j:Nat}(h:a[i]?=b[j]?):at0 a i=at0 b j:=by unfold at0;rw[h]
noncomputable def SegU (L:Keyed->Keyed->Bool) (a:Array Keyed) (l h:Nat):Prop:=∀i j,l<=i->i<=j->j<h->Le L (at0 a i) (at0 a j)
noncomputable def SegD (L:Keyed->Keyed->Bool) (a:Array Keyed) (l h:Nat):Prop:=∀i j,l<=i->i<=j->j<h->Le L (at0 a j) (at0 a i)
structure Kept (lo:Nat)(a b:Array Keyed):Prop where
 perm:b.Perm a
 pre:∀k,k<lo->b[k]?=a[k]?
theorem Kept.rf (lo:Nat)(a:Array Keyed):Kept lo a a:=⟨Array.Perm.refl _,fun _ _=>rfl⟩
theorem Kept.tr {lo:Nat}{a b c:Array Keyed}(h:Kept lo a b)(k:Kept lo b c):Kept lo a c:=⟨k.perm.trans h.perm,fun i hi=>(k.pre i hi).trans (h.pre i hi)⟩
theorem Kept.sz {lo:Nat}{a b:Array Keyed}(h:Kept lo a b):b.size=a.size:=h.perm.size_eq
theorem Kept.d {lo:Nat}{a b:Array Keyed}{D:Keyed->Prop}(h:Kept lo a b)(hd:∀u∈a.toList,D u):∀u∈b.toList,D u:=fun u hu=>hd u ((YCe.mp h.perm).mem_iff.mp hu)
theorem Zjo {xs:Array Keyed}{src d:Nat}(hs:src<xs.size)(hd:d<=src)(k:Nat):
  at0 (bubble xs src d) k=if k=src-d then at0 xs src else if src-d<k/\k<=src then at0 xs (k-1) else at0 xs k:=by
 have e:=getElem?_bubble hs d hd k
 repeat' split
 all_goals (refine ZdO (e.trans ?_);first | rw[YAP (by assumption)] | (rw[YAL (by assumption)];first | rw[YAP (by assumption)] | rw[YAL (by assumption)]))
theorem Zgk {xs:Array Keyed}{i j:Nat}(hj:j<=xs.size)(k:Nat):
  at0 (mirror xs i j ((j-i)/2)) k=if i<=k/\k<j then at0 xs (i+j-1-k) else at0 xs k:=by
 have e:=getElem?_mirror_all (i:=i) hj k
 split
 .exact ZdO (e.trans (YAP (by assumption)))
 .exact ZdO (e.trans (YAL (by assumption)))
theorem Kept.bub {lo src d:Nat}{a:Array Keyed}(hs:src<a.size)(hd:lo+d<=src):Kept lo a (bubble a src d):=
 ⟨bubble_perm _ _ _,fun k hk=>by rw[getElem?_bubble hs d (by omega),YAL (by omega),YAL (by omega)]⟩
theorem Kept.mir {lo i j:Nat}{a:Array Keyed}(hj:j<=a.size)(hl:lo<=i):Kept lo a (mirror a i j ((j-i)/2)):=
 ⟨mirror_perm _ _ _ _,fun k hk=>by rw[getElem?_mirror_all hj,YAL (by omega)]⟩
section
variable {M:Model}{A:Around}{E:Q33}{s:Shared}{D:Keyed->Prop}{L:Keyed->Keyed->Bool}{kd:SortKind}{st:SortSt}
theorem Zfc {a:Array Keyed}{i j:Nat}{Q:Option Bool->SortSt->Prop}(hP:PureC M A E s D L kd)(hk:kindOf st=kd)(hd:∀u∈a.toList,D u)(hi:i<a.size)(hj:j<a.size)
  (q:Q (some (L (at0 a i) (at0 a j))) (setArr st a)):wpS M A E s (ltAt' i j) Q (setArr st a):=by
 obtain⟨x,hx,hxm⟩:=at? hi
 obtain⟨y,hy,hym⟩:=at? hj
 have ex:at0 a i=x:=by unfold at0;rw[hx];rfl
 have ey:at0 a j=y:=by unfold at0;rw[hy];rfl
 rw[ex,ey]at q
 rw[ltAt'_eq]
 refine YAQ (YDM ?_)
 exact YAQ (ZaX hx (YAQ (ZaX hy (hP _ _ _ _ hk (hd x hxm) (hd y hym) q))))
theorem Zl3 {a:Array Keyed}{lo n ok:Nat}{Q:Bool->SortSt->Prop}(hC:CmpT L)(hP:PureC M A E s D L kd)(hk:kindOf st=kd)(hd:∀u∈a.toList,D u)(hn:lo+n<=a.size)(hok:ok<=n)
  (hs:SegU L a lo (lo+ok)) (h:∀b,Kept lo a b->SegU L b lo (lo+n)->Q true (setArr st b)):wpS M A E s (binarySort' lo n ok) Q (setArr st a):=by
 rw[binarySort'_eq]
 refine YAQ (YCG (YBW (I:=fun k c st'=>c=(none,())/\∃b,st'=setArr st b/\Kept lo a b/\SegU L b lo (lo+min k n))
  (Q:=fun c st'=>c=(none,())/\∃b,st'=setArr st b/\Kept lo a b/\SegU L b lo (lo+n)) ?step ?fin ?init) ?post)
 case post=>
  rintro c st' ⟨rfl,b,rfl,hb,hs'⟩
  exact YAa (h b hb hs')
 case init=>
  refine⟨rfl,a,rfl,Kept.rf _ _,fun i j hl hij hj=>?_⟩
  by_cases h1:ok=0
  .have:i=j:=by omega
   subst this;exact hC.rf _
  .exact hs i j hl hij (by omega)
 case fin=>
  rintro c st' ⟨hc,b,hst,hb,hs'⟩
  refine⟨hc,b,hst,hb,?_⟩
  rwa [show min (max (max ok 1) n) n=n by omega]at hs'
 case step=>
  rintro k c st' hak hkn ⟨rfl,b,rfl,hb,hs'⟩
  rw[show min k n=k by omega]at hs'
  have hsz:=hb.sz
  have hdb:=hb.d hd
  refine YAQ (YCG (YBW (I:=fun x c st''=>st''=setArr st b/\∃l r,c=(none,l,r)/\l<=r/\r<=k/\r-l<=k-x /\
    (∀i,lo<=i->i<lo+l->Le L (at0 b i) (at0 b (lo+k)))/\(∀i,lo+r<=i->i<lo+k->L (at0 b (lo+k)) (at0 b i)=true))
   (Q:=fun c st''=>st''=setArr st b/\∃l r,c=(none,l,r)/\l<=k /\
    (∀i,lo<=i->i<lo+l->Le L (at0 b i) (at0 b (lo+k)))/\(∀i,lo+l<=i->i<lo+k->L (at0 b (lo+k)) (at0 b i)=true)) ?istep ?ifin ?iinit) ?ipost)
  case iinit=>exact⟨rfl,0,k,rfl,by omega,by omega,by omega,fun i h1 hi=>by omega,fun i h1 h2=>by omega⟩
  case ifin=>
   rintro c st'' ⟨rfl,l,r,rfl,hlr,hrk,hm,hlo,hhi⟩
   have:l=r:=by omega
   subst this
   exact⟨rfl,l,l,rfl,hrk,hlo,hhi⟩
  case istep=>
   rintro x c st'' _ hxk ⟨rfl,l,r,rfl,hlr,hrk,hm,hlo,hhi⟩
   dsimp only
   by_cases hge:l>=r
   .rw[YAP hge]
    have:l=r:=by omega
    subst this
    exact YAa ⟨rfl,l,l,rfl,hrk,hlo,hhi⟩
   .rw[YAL hge]
    refine YAQ (Zfc hP hk hdb (by omega) (by omega) ?_)
    cases hless:L (at0 b (lo+k)) (at0 b (lo+(l+r)/2)) with
    | true=>exact YAa ⟨rfl,l,(l+r)/2,rfl,by omega,by omega,by omega,hlo,fun i h1 h2=>hC.lt_le hless (hs' _ _ (by omega) h1 h2)⟩
    | false=>exact YAa ⟨rfl,(l+r)/2+1,r,rfl,by omega,by omega,by omega,fun i h0 h1=>hC.t (hs' i (lo+(l+r)/2) h0 (by omega) (by omega)) hless,hhi⟩
  case ipost=>
   rintro c st'' ⟨rfl,l,r,rfl,hlk,hlo,hhi⟩
   show wpS _ _ _ _ (do moveDown' (lo+k) (lo+l);pure (ForInStep.yield (none,()))) _ _
   rw[moveDown'_eq]
   have hks:lo+k<b.size:=by omega
   refine YAQ (YCO (YAa ⟨rfl,bubble b (lo+k) (lo+k-(lo+l)),rfl,hb.tr (Kept.bub hks (by omega)),?_⟩))
   rw[show min (k+1) n=k+1 by omega]
   intro i j hl hij hj
   rw[Zjo hks (by omega),Zjo hks (by omega),show lo+k-(lo+k-(lo+l))=lo+l by omega]
   repeat' split
   all_goals first
    | (exfalso;omega)
    | exact hC.rf _
    | exact hlo _ (by omega) (by omega)
    | exact hC.le (hhi _ (by omega) (by omega))
    | exact hs' _ _ (by omega) (by omega) (by omega)
end
noncomputable def ascO (lo a nr:Nat):StateT SortSt Sem AscSt:=
 forIn [a:nr] ((none,a):AscSt) fun _ c=>do
  let x <-ltAt' (lo+c.snd) (lo+c.snd-1)
  match x with
  | some sm=>if sm=true then pure (ForInStep.done (none,c.snd)) else pure (ForInStep.yield (none,c.snd+1))
  | _=>pure (ForInStep.done (some none,c.snd))
noncomputable def tailO (lo n nr:Nat):StateT SortSt Sem (Option Nat):=do
 reverseSlice' lo (lo+n)
 let c <-ascO lo n nr
 match c.fst with
 | some r=>pure r
 | none=>pure (some c.snd)
noncomputable def descO (lo n nr:Nat):StateT SortSt Sem DescSt:=
 forIn [n:nr] ((none,n,0):DescSt) fun _ c=>do
  let x <-ltAt' (lo+c.snd.fst) (lo+c.snd.fst-1)
  match x with
  | some sm=>
   if sm=true then
    if c.snd.snd>0 then do
     reverseSlice' (lo+c.snd.fst-(c.snd.snd+1)) (lo+c.snd.fst)
     pure (ForInStep.yield (none,c.snd.fst+1,0))
    else pure (ForInStep.yield (none,c.snd.fst+1,0))
   else do
    let y <-ltAt' (lo+c.snd.fst-1) (lo+c.snd.fst)
    match y with
    | some lg=>
     if lg=true then pure (ForInStep.done (none,c.snd.fst,c.snd.snd))
     else pure (ForInStep.yield (none,c.snd.fst+1,c.snd.snd+1))
    | _=>pure (ForInStep.done (some none,c.snd.fst,c.snd.snd))
  | _=>pure (ForInStep.done (some none,c.snd.fst,c.snd.snd))
section
variable {M:Model}{A:Around}{E:Q33}{s:Shared}{D:Keyed->Prop}{L:Keyed->Keyed->Bool}{kd:SortKind}{st:SortSt}
noncomputable def Eqv (L:Keyed->Keyed->Bool) (x y:Keyed):Prop:=Le L x y/\Le L y x
theorem Zdq {a:Array Keyed}{i j:Nat}{Q:Unit->SortSt->Prop}(q:Q () (setArr st (mirror a i j ((j-i)/2)))):wpS M A E s (reverseSlice' i j) Q (setArr st a):=by
 rw[reverseSlice'_eq];exact YCO q
theorem Zjp {a:Array Keyed}{lo n0 nr:Nat}{Q:AscSt->SortSt->Prop}(hC:CmpT L)(hP:PureC M A E s D L kd)(hk:kindOf st=kd)(hd:∀u∈a.toList,D u)(hn:lo+nr<=a.size)(h1:1<=n0)(hnn:n0<=nr)
  (hs:SegU L a lo (lo+n0)) (h:∀n,n0<=n->n<=nr->SegU L a lo (lo+n)->(n=nr\/L (at0 a (lo+n)) (at0 a (lo+n-1))=true)->Q (none,n) (setArr st a)):wpS M A E s (ascO lo n0 nr) Q (setArr st a):=by
 unfold ascO
 refine YBW (I:=fun x c st'=>st'=setArr st a/\c=(none,x)/\SegU L a lo (lo+x)) ?step ?fin ⟨rfl,rfl,hs⟩
 case fin=>
  rintro c st' ⟨rfl,rfl,hs'⟩
  rw[show max n0 nr=nr by omega]at hs' ⊢
  exact h nr hnn (YAH _) hs' (.inl rfl)
 case step=>
  rintro x c st' hax hxn ⟨rfl,rfl,hs'⟩
  dsimp only
  refine YAQ (Zfc hP hk hd (by omega) (by omega) ?_)
  cases hl:L (at0 a (lo+x)) (at0 a (lo+x-1)) with
  | true=>exact YAa (h x hax (by omega) hs' (.inr hl))
  | false=>
   refine YAa ⟨rfl,rfl,fun i j hli hij hj=>?_⟩
   by_cases hjx:j<lo+x
   .exact hs' i j hli hij hjx
   .have hj':j=lo+x:=by omega
    subst hj'
    by_cases hi':i=lo+x
    .subst hi';exact hC.rf _
    .exact hC.t (hs' i (lo+x-1) hli (by omega) (by omega)) hl
theorem Zda {a:Array Keyed}{lo n nr:Nat}{Q:Option Nat->SortSt->Prop}(hC:CmpT L)(hP:PureC M A E s D L kd)(hk:kindOf st=kd)(hd:∀u∈a.toList,D u)(hn:lo+nr<=a.size)(h1:1<=n)(hnn:n<=nr)
  (hs:SegD L a lo (lo+n)) (h:∀b m,Kept lo a b->1<=m->m<=nr->SegU L b lo (lo+m)->Q (some m) (setArr st b)):wpS M A E s (tailO lo n nr) Q (setArr st a):=by
 unfold tailO
 refine YAQ (Zdq ?_)
 have hK:Kept lo a (mirror a lo (lo+n) ((lo+n-lo)/2)):=Kept.mir (by omega) (YAH _)
 refine YAQ (Zjp hC hP hk (hK.d hd) (by rw[hK.sz];exact hn) h1 hnn ?_ fun m hm1 hm2 hsm _=>YAa (h _ m hK (by omega) hm2 hsm))
 intro i j hli hij hj
 rw[Zgk (by omega),Zgk (by omega),YAP (by omega),YAP (by omega)]
 exact hs _ _ (by omega) (by omega) (by omega)
theorem Zep {a:Array Keyed}{i j:Nat}(hC:CmpT L)(hj:j<=a.size)(he:∀k,i<=k->k<j->Eqv L (at0 a k) (at0 a (j-1)))(k:Nat):Eqv L (at0 (mirror a i j ((j-i)/2)) k) (at0 a k):=by
 rw[Zgk hj]
 split
 .have e1:=he (i+j-1-k) (by omega) (by omega)
  have e2:=he k (by omega) (by omega)
  exact⟨hC.t e1.1 e2.2,hC.t e2.1 e1.2⟩
 .exact⟨hC.rf _,hC.rf _⟩
theorem SegD.eqv {a b:Array Keyed}{l h:Nat}(hC:CmpT L)(hs:SegD L a l h)(he:∀k,Eqv L (at0 b k) (at0 a k)):SegD L b l h:=
 fun i j h1 h2 h3=>hC.t (he j).1 (hC.t (hs i j h1 h2 h3) (he i).2)
theorem SegD.more {a:Array Keyed}{l x:Nat}(hC:CmpT L)(hs:SegD L a l x)(hle:l<x->Le L (at0 a x) (at0 a (x-1))):SegD L a l (x+1):=by
 intro i j hli hij hj
 by_cases hjx:j<x
 .exact hs i j hli hij hjx
 .have hj':j=x:=by omega
  subst hj'
  by_cases hi':i=j
  .subst hi';exact hC.rf _
  .exact hC.t (hle (by omega)) (hs i (j-1) hli (by omega) (by omega))
theorem Zg3 {a:Array Keyed}{lo n nr:Nat}{Q:DescSt->SortSt->Prop}(hC:CmpT L)(hP:PureC M A E s D L kd)(hk:kindOf st=kd)(hd:∀u∈a.toList,D u)(hn:lo+nr<=a.size)(h1:1<=n)(hnn:n<=nr)
  (hs:SegD L a lo (lo+n))
  (h:∀b m nq,Kept lo a b->n<=m->m<=nr->SegD L b lo (lo+m)->nq+1<=m->(∀i,lo+m-(nq+1)<=i->i<lo+m->Eqv L (at0 b i) (at0 b (lo+m-1)))->Q (none,m,nq) (setArr st b)):
  wpS M A E s (descO lo n nr) Q (setArr st a):=by
 unfold descO
 refine YBW (I:=fun x c st'=>∃b nq,st'=setArr st b/\c=(none,x,nq)/\Kept lo a b/\SegD L b lo (lo+x)/\nq+1<=x /\
   (∀i,lo+x-(nq+1)<=i->i<lo+x->Eqv L (at0 b i) (at0 b (lo+x-1)))) ?step ?fin ⟨a,0,rfl,rfl,Kept.rf _ _,hs,by omega,fun i h1 h2=>by rw[show i=lo+n-1 by omega];exact⟨hC.rf _,hC.rf _⟩⟩
 case fin=>
  rintro c st' ⟨b,nq,rfl,rfl,hK,hs',hq,he⟩
  rw[show max n nr=nr by omega]at hs' hq he ⊢
  exact h b nr nq hK hnn (YAH _) hs' hq he
 case step=>
  rintro x c st' hax hxn ⟨b,nq,rfl,rfl,hK,hs',hq,he⟩
  have hbs:=hK.sz
  have hdb:=hK.d hd
  dsimp only
  refine YAQ (Zfc hP hk hdb (by omega) (by omega) ?_)
  cases hl:L (at0 b (lo+x)) (at0 b (lo+x-1)) with
  | true=>
   have hmore:SegD L b lo (lo+x+1):=hs'.more hC fun _=>hC.le hl
   dsimp only
   by_cases hq0:nq>0
   .rw[YAP rfl,YAP hq0]
    refine YAQ (Zdq (YAa ⟨_,0,rfl,rfl,hK.tr (Kept.mir (by omega) (by omega)),hmore.eqv hC (Zep hC (by omega) he),by omega,fun i h1 h2=>?_⟩))
    rw[show i=lo+(x+1)-1 by omega];exact⟨hC.rf _,hC.rf _⟩
   .rw[YAP rfl,YAL hq0]
    refine YAa ⟨b,0,rfl,rfl,hK,hmore,by omega,fun i h1 h2=>?_⟩
    rw[show i=lo+(x+1)-1 by omega];exact⟨hC.rf _,hC.rf _⟩
  | false=>
   dsimp only
   rw[YAL YAD]
   refine YAQ (Zfc hP hk hdb (by omega) (by omega) ?_)
   cases hg:L (at0 b (lo+x-1)) (at0 b (lo+x)) with
   | true=>exact YAa (h b x nq hK hax (by omega) hs' hq he)
   | false=>
    refine YAa ⟨b,nq+1,rfl,rfl,hK,hs'.more hC fun _=>hg,by omega,fun i h1 h2=>?_⟩
    rw[show lo+(x+1)-1=lo+x by omega]
    by_cases hix:i=lo+x
    .subst hix;exact⟨hC.rf _,hC.rf _⟩
    .have e:=he i (by omega) (by omega)
     exact⟨hC.t e.1 hl,hC.t hg e.2⟩
theorem Zl0 {a:Array Keyed}{lo nr:Nat}{Q:Option Nat->SortSt->Prop}(hC:CmpT L)(hP:PureC M A E s D L kd)(hk:kindOf st=kd)(hd:∀u∈a.toList,D u)(hn:lo+nr<=a.size)(h1:1<=nr)
  (h:∀b m,Kept lo a b->1<=m->m<=nr->SegU L b lo (lo+m)->Q (some m) (setArr st b)):wpS M A E s (countRun' lo nr) Q (setArr st a):=by
 rw[countRun'_eq]
 refine YAQ (YCG (Zjp (Q:=fun c st'=>∃n,c=(none,n)/\st'=setArr st a/\1<=n/\n<=nr/\SegU L a lo (lo+n)/\(n=nr\/L (at0 a (lo+n)) (at0 a (lo+n-1))=true)) hC hP hk hd hn (YAH 1) h1 (fun i j hl hij hj=>by have:i=j:=(by omega);subst this;exact hC.rf _) fun n a1 a2 a3 a4=>⟨n,rfl,rfl,a1,a2,a3,a4⟩) ?_)
 rintro c st' ⟨n,rfl,rfl,hn1,hn2,hsn,hor⟩
 dsimp only
 by_cases hnn:n=nr
 .rw[YAP (by simpa using hnn)]
  exact YAa (h a n (Kept.rf _ _) hn1 hn2 hsn)
 .rw[YAL (by simpa using hnn)]
  have hlt:=hor.resolve_left hnn
  by_cases hgt:n>1
  .rw[YAP hgt]
   refine YAQ (Zfc hP hk hd (by omega) (by omega) ?_)
   cases hrose:L (at0 a lo) (at0 a (lo+n-1)) with
   | true=>
    dsimp only
    rw[YAP rfl]
    exact YAa (h a n (Kept.rf _ _) hn1 hn2 hsn)
   | false=>
    dsimp only
    rw[YAL YAD]
    have hall:∀k,lo<=k->k<lo+n->Eqv L (at0 a k) (at0 a (lo+n-1)):=by
     intro k hk1 hk2
     have a1:=hsn lo k (by omega) hk1 hk2
     have a2:=hsn k (lo+n-1) hk1 (by omega) (by omega)
     exact⟨a2,hC.t hrose a1⟩
    have hsd:SegD L a lo (lo+(n+1)):=by
     refine SegD.more hC (fun i j h1 h2 h3=>?_) fun _=>hC.le hlt
     replace h3:j<lo+n:=h3
     exact hC.t (hall j (by omega) h3).1 (hall i h1 (by omega)).2
    have hK:Kept lo a (mirror a lo (lo+n) ((lo+n-lo)/2)):=Kept.mir (by omega) (YAH _)
    refine YAQ (Zdq ?_)
    obtain⟨b,hb,hKb,hsb⟩:∃b,b=mirror a lo (lo+n) ((lo+n-lo)/2)/\Kept lo a b/\SegD L b lo (lo+(n+1)):=⟨_,rfl,hK,hsd.eqv hC (Zep hC (by omega) hall)⟩
    rw[<-hb]
    have hbs:=Kept.sz hKb
    refine YAQ (YDd (YCI ⟨rfl,?_⟩))
    refine YAQ (Zg3 hC hP hk (Kept.d hKb hd) (by omega) (by omega) (by omega) hsb fun c m nq hK hm1 hm2 hs' hq he=>?_)
    have hcs:=hK.sz
    have hdc:=hK.d (Kept.d hKb hd)
    dsimp only
    by_cases hq0:nq>0
    .rw[YAP hq0]
     have hK2:Kept lo c (mirror c (lo+m-(nq+1)) (lo+m) ((lo+m-(lo+m-(nq+1)))/2)):=Kept.mir (by omega) (by omega)
     refine YAQ (Zdq ?_)
     refine Eq.mp ?_ (Zda (Q:=Q) hC hP hk (hK2.d hdc) (by rw[hK2.sz];omega) (by omega) hm2 (hs'.eqv hC (Zep hC (by omega) he)) fun d k hc=>h d k (Kept.tr hKb (hK.tr (hK2.tr hc))))
     refine congrArg (fun m=>wpS _ _ _ _ m _ _) ?_
     unfold tailO ascO
     refine congrArg _ (funext fun _=>congrArg _ (funext fun c=>?_))
     obtain⟨r3,n3⟩:=c
     cases r3<;>rfl
    .rw[YAL hq0]
     refine Eq.mp ?_ (Zda (Q:=Q) hC hP hk hdc (by omega) (by omega) hm2 hs' fun d k hc=>h d k (Kept.tr hKb (hK.tr hc)))
     refine congrArg (fun m=>wpS _ _ _ _ m _ _) ?_
     unfold tailO ascO
     refine congrArg _ (funext fun _=>congrArg _ (funext fun c=>?_))
     obtain⟨r3,n3⟩:=c
     cases r3<;>rfl
  .rw[YAL hgt]
   obtain⟨b,hb,hKb,hsb⟩:∃b,b=a/\Kept lo a b/\SegD L b lo (lo+(n+1)):=⟨_,rfl,Kept.rf _ _,SegD.more hC (fun i j h1 h2 h3=>by
    replace h3:j<lo+n:=h3
    rw[show i=j by omega];exact hC.rf _) fun _=>hC.le hlt⟩
   rw[<-hb]
   have hbs:=Kept.sz hKb
   refine YAQ (YDd (YCI ⟨rfl,?_⟩))
   refine YAQ (Zg3 hC hP hk (Kept.d hKb hd) (by omega) (by omega) (by omega) hsb fun c m nq hK hm1 hm2 hs' hq he=>?_)
   have hcs:=hK.sz
   have hdc:=hK.d (Kept.d hKb hd)
   dsimp only
   by_cases hq0:nq>0
   .rw[YAP hq0]
    have hK2:Kept lo c (mirror c (lo+m-(nq+1)) (lo+m) ((lo+m-(lo+m-(nq+1)))/2)):=Kept.mir (by omega) (by omega)
    refine YAQ (Zdq ?_)
    refine Eq.mp ?_ (Zda (Q:=Q) hC hP hk (hK2.d hdc) (by rw[hK2.sz];omega) (by omega) hm2 (hs'.eqv hC (Zep hC (by omega) he)) fun d k hc=>h d k (Kept.tr hKb (hK.tr (hK2.tr hc))))
    refine congrArg (fun m=>wpS _ _ _ _ m _ _) ?_
    unfold tailO ascO
    refine congrArg _ (funext fun _=>congrArg _ (funext fun c=>?_))
    obtain⟨r3,n3⟩:=c
    cases r3<;>rfl
   .rw[YAL hq0]
    refine Eq.mp ?_ (Zda (Q:=Q) hC hP hk hdc (by omega) (by omega) hm2 hs' fun d k hc=>h d k (Kept.tr hKb (hK.tr hc)))
    refine congrArg (fun m=>wpS _ _ _ _ m _ _) ?_
    unfold tailO ascO
    refine congrArg _ (funext fun _=>congrArg _ (funext fun c=>?_))
    obtain⟨r3,n3⟩:=c
    cases r3<;>rfl
end
noncomputable def Pd (L:Keyed->Keyed->Bool):Nat->List (Nat×Nat×Nat)->List (List Keyed)->Prop
 | _,[],[]=>True
 | o,t::ps,r::rs=>t.1=o/\t.2.1=r.length/\r≠[]/\r.Pairwise (Le L)/\Pd L (o+r.length) ps rs
 | _,_,_=>False
section
variable {M:Model}{A:Around}{E:Q33}{s:Shared}{D:Keyed->Prop}{L:Keyed->Keyed->Bool}{kd:SortKind}{st:SortSt}
theorem Pd.len:∀ {ps:List (Nat×Nat×Nat)} {rs:List (List Keyed)} {o:Nat},Pd L o ps rs->ps.length=rs.length
 | [],[],_,_=>rfl
 | t::ps,r::rs,o,h=>by have:=Pd.len h.2.2.2.2;simp[this]
 | [],_::_,_,h=>h.elim
 | _::_,[],_,h=>h.elim
theorem Pd.le:∀ {ps:List (Nat×Nat×Nat)} {rs:List (List Keyed)} {o:Nat},Pd L o ps rs->ps.length<=rs.flatten.length
 | [],[],_,_=>by simp
 | t::ps,r::rs,o,h=>by
  have h1:=Pd.le h.2.2.2.2
  have h2:=YBY.mpr h.2.2.1
  rw[YCv,YAE,YAk];omega
 | [],_::_,_,h=>h.elim
 | _::_,[],_,h=>h.elim
theorem Pd.app:∀ {ps:List (Nat×Nat×Nat)} {rs:List (List Keyed)} {o:Nat} {t:Nat×Nat×Nat} {r:List Keyed},Pd L o ps rs->t.1=o+rs.flatten.length->t.2.1=r.length->r≠[]->r.Pairwise (Le L)->Pd L o (ps++[t]) (rs++[r])
 | [],[],o,t,r,_,h1,h2,h3,h4=>⟨by simpa using h1,h2,h3,h4,trivial⟩
 | t::ps,r::rs,o,t',r',h,h1,h2,h3,h4=>⟨h.1,h.2.1,h.2.2.1,h.2.2.2.1,Pd.app h.2.2.2.2 (by rw[h1,YCv,YAE];omega) h2 h3 h4⟩
 | [],_::_,_,_,_,h,_,_,_,_=>h.elim
 | _::_,[],_,_,_,h,_,_,_,_=>h.elim
theorem Pd.pow:∀ {ps qs:List (Nat×Nat×Nat)} {rs:List (List Keyed)} {o:Nat},Pd L o ps rs->ps.map (fun t=>(t.1,t.2.1))=qs.map (fun t=>(t.1,t.2.1))->Pd L o qs rs
 | [],qs,[],_,_,e=>by
  have:qs=[]:=by simpa using e.symm
  subst this;trivial
 | t::ps,qs,r::rs,o,h,e=>by
  cases qs with
  | nil=>simp at e
  | cons u qs=>
   simp only[YAr,List.cons.injEq,Prod.mk.injEq]at e
   exact⟨e.1.1▸h.1,e.1.2▸h.2.1,h.2.2.1,h.2.2.2.1,Pd.pow h.2.2.2.2 e.2⟩
 | [],_,_::_,_,h,_=>h.elim
 | _::_,_,[],_,h,_=>h.elim
theorem Pd.pick:∀ {ps:List (Nat×Nat×Nat)} {rs:List (List Keyed)} {o i:Nat},Pd L o ps rs->i+1<ps.length ->
  ∃ra X Y rb pw pw2,rs=ra++X::Y::rb/\ps[i]?=some (o+ra.flatten.length,X.length,pw)/\ps[i+1]?=some (o+ra.flatten.length+X.length,Y.length,pw2)/\X≠[]/\Y≠[]/\X.Pairwise (Le L)/\Y.Pairwise (Le L) /\
   ∀V:List Keyed,V.length=X.length+Y.length->V.Pairwise (Le L)->Pd L o ((ps.set i (o+ra.flatten.length,X.length+Y.length,pw)).eraseIdx (i+1)) (ra++V::rb)
 | t::u::ps,r::r2::rs,o,0,h,_=>by
  obtain⟨a1,a2,a3,a4,b1,b2,b3,b4,b5⟩:=h
  obtain⟨t1,t2,t3⟩:=t
  obtain⟨u1,u2,u3⟩:=u
  dsimp only at a1 a2 b1 b2
  subst a1 a2 b1 b2
  refine⟨[],r,r2,rs,t3,u3,rfl,by simp,by simp,a3,b3,a4,b4,fun V hV hs=>?_⟩
  refine⟨by simp,by simpa using hV.symm,?_,hs,?_⟩
  .intro e;rw[e]at hV;have:=YBY.mpr a3;simp at hV;omega
  .rw[hV,<-Nat.add_assoc];exact b5
 | t::ps,r::rs,o,i+1,h,hi=>by
  obtain⟨a1,a2,a3,a4,a5⟩:=h
  obtain⟨ra,X,Y,rb,pw,pw2,h1,h2,h3,h4,h5,h6,h7,h8⟩:=Pd.pick a5 (i:=i) (by simpa using hi)
  refine⟨r::ra,X,Y,rb,pw,pw2,by rw[h1];rfl,?_,?_,h4,h5,h6,h7,fun V hV hs=>?_⟩
  .rw[List.getElem?_cons_succ,h2,YCv,YAE,Nat.add_assoc]
  .rw[List.getElem?_cons_succ,h3,YCv,YAE,Nat.add_assoc o]
  .have:=h8 V hV hs
   rw[List.set_cons_succ,List.eraseIdx_cons_succ,YCv,YAE,<-Nat.add_assoc]
   exact⟨a1,a2,a3,a4,this⟩
 | [_],[_],_,0,_,h=>by simp at h
 | [],_,_,_,_,h=>by simp at h
 | _::_,[],_,_,h,_=>h.elim
 | _::_::_,[_],_,0,h,_=>h.2.2.2.2.elim
 | [_],_::_::_,_,0,h,_=>h.2.2.2.2.elim
structure SI (L:Keyed->Keyed->Bool)(kd:SortKind)(a0:List Keyed)(n:Nat)(Z:List Keyed)(st:SortSt):Prop where
 kind:kindOf st=kd
 fail:failedOf st=none
 perm:(arrOf st).toList.Perm a0
 runs:∃rs:List (List Keyed),(arrOf st).toList=rs.flatten++Z/\rs.flatten.length=n/\Pd L 0 (pendingOf st).toList rs
theorem SI.merge {a0 Z:List Keyed}{n i:Nat}{Q:Bool->SortSt->Prop}(hC:CmpT L)(hP:PureC M A E s D L kd)(hd:∀u∈a0,D u)(h:SI L kd a0 n Z st)(hi:i+1<(pendingOf st).size)
  (q:∀st',SI L kd a0 n Z st'->(pendingOf st').size+1=(pendingOf st).size->Q true st'):wpS M A E s (mergeAt' i) Q st:=by
 obtain⟨h1,h2,h3,rs,h4,h5,h6⟩:=h
 obtain⟨ra,X,Y,rb,pw,pw2,rfl,p1,p2,p3,p4,p5,p6,p7⟩:=h6.pick (i:=i) (by simpa using hi)
 rw[Nat.zero_add]at p1 p2
 have ha:(arrOf st).toList=ra.flatten++X++Y++(rb.flatten++Z):=by rw[h4];simp
 refine Zno hC.to hP h1 h2 ha (fun u hu=>hd u (h3.mem_iff.mp hu)) p3 p4 p5 p6 (by rw[<-YAs];exact p1) (by rw[<-YAs];exact p2) fun V a g hV hp hs=>?_
 have hl:=hp.length_eq
 rw[YAE]at hl
 refine q _ ⟨rfl,rfl,?_,ra++V::rb,?_,?_,?_⟩ ?_
 .show a.toList.Perm a0
  refine List.Perm.trans ?_ h3
  rw[hV,ha]
  have:=(List.Perm.append_left ra.flatten hp).append_right (rb.flatten++Z)
  simpa using this
 .show a.toList=_
  rw[hV];simp
 .rw[<-h5];simp[hl];omega
 .show Pd L 0 (Array.eraseIdxIfInBounds _ _).toList _
  have:=p7 V hl hs
  rw[Nat.zero_add]at this
  rw[Array.toList_eraseIdxIfInBounds,YDW]
  exact this
 .show (Array.eraseIdxIfInBounds _ _).size+1=_
  rw[<-YAS,Array.toList_eraseIdxIfInBounds,YDW,YDV (by simpa using hi),List.length_set,YAS]
  omega
end
theorem Kept.pref {lo:Nat}{a b:Array Keyed}{F Z:List Keyed}(h:Kept lo a b)(ha:a.toList=F++Z)(hF:F.length=lo):b.toList=F++b.toList.drop lo:=by
 have e:b.toList.take lo=F:=by
  refine YCC fun i=>?_
  rw[YCV]
  by_cases hi:i<lo
  .rw[YAP hi,YAs,h.pre i hi,<-YAs,ha,YAl (by omega)]
  .rw[YAL hi,YBG (by omega)]
 conv=>lhs;rw[<-YAy lo b.toList,e]
theorem SegU.pw {L:Keyed->Keyed->Bool}{b:Array Keyed}{lo m:Nat}(h:SegU L b lo (lo+m)):((b.toList.drop lo).take m).Pairwise (Le L):=by
 rw[YCM]
 intro i j hi hj hij
 rw[YAc,YAj,YAS]at hi hj
 have e:∀k (hk:k<((b.toList.drop lo).take m).length),at0 b (lo+k)=((b.toList.drop lo).take m)[k]:=by
  intro k hk
  rw[YAc,YAj,YAS]at hk
  unfold at0
  rw[getElem?_pos b (lo+k) (by omega)]
  simp
 rw[<-e i (by simp;omega),<-e j (by simp;omega)]
 exact h _ _ (by omega) (by omega) (by omega)
section
variable {M:Model}{A:Around}{E:Q33}{s:Shared}{D:Keyed->Prop}{L:Keyed->Keyed->Bool}{kd:SortKind}{st:SortSt}
theorem SI.push {a0 R Z:List Keyed}{lo n p:Nat}(h:SI L kd a0 lo (R++Z) st)(h1:R.length=n)(h2:R≠[])(h3:R.Pairwise (Le L)):SI L kd a0 (lo+n) Z (setPending st ((pendingOf st).push (lo,n,p))):=by
 obtain⟨a1,a2,a3,rs,a4,a5,a6⟩:=h
 refine⟨a1,a2,a3,rs++[R],?_,?_,?_⟩
 .show (arrOf st).toList=_
  rw[a4];simp
 .simp[a5,h1]
 .show Pd L 0 ((pendingOf st).push (lo,n,p)).toList _
  rw[YBd]
  exact a6.app (by simp[a5]) h1.symm h2 h3
theorem Zhr {α β:Type}(g:α->β)(f:α->α)(h:∀x,g (f x)=g x)(l:List α)(k:Nat):(l.modify k f).map g=l.map g:=by
 refine YCC fun i=>?_
 rw[YAW,YAW,List.getElem?_modify]
 cases l[i]? with
 | none=>rfl
 | some x=>by_cases e:k=i<;>simp[e,h]
theorem SI.pow {a0 Z:List Keyed}{lo k w:Nat}(h:SI L kd a0 lo Z st):SI L kd a0 lo Z (setPending st ((pendingOf st).modify k fun x=>(x.1,x.2.1,w))):=by
 obtain⟨a1,a2,a3,rs,a4,a5,a6⟩:=h
 refine⟨a1,a2,a3,rs,a4,a5,?_⟩
 show Pd L 0 ((pendingOf st).modify k _).toList _
 rw[Array.toList_modify]
 exact a6.pow (Zhr (fun t=>(t.1,t.2.1)) (fun x=>(x.1,x.2.1,w)) (fun _=>rfl) _ _).symm
theorem Zib {a0:List Keyed}{Q:Unit->SortSt->Prop}(hC:CmpT L)(hP:PureC M A E s D L kd)(hd:∀u∈a0,D u)(hk:kindOf st=kd)(hf:failedOf st=none)(hpe:pendingOf st=#[])(ha:(arrOf st).toList=a0)
  (q:∀st',(arrOf st').toList.Perm a0->(arrOf st').toList.Pairwise (Le L)->failedOf st'=none->Q () st'):wpS M A E s sortRuns' Q st:=by
 rw[sortRuns'_eq]
 refine YAQ (YDM ?_)
 dsimp only
 obtain⟨N,hN⟩:∃N,N=(arrOf st).size:=⟨_,rfl⟩
 have hN':a0.length=N:=by rw[hN,<-ha,YAS]
 rw[<-hN]
 have hSI:SI L kd a0 0 a0 st:=⟨hk,hf,by rw[ha],[],by simpa using ha,rfl,by rw[hpe];trivial⟩
 refine YAQ (YCG (YBW (a:=0) (b:=N) (I:=fun x c st'=>∃lo Z,c=(none,lo)/\SI L kd a0 lo Z st'/\x<=lo/\lo<=N)
  (Q:=fun c st'=>∃Z,c=(none,N)/\SI L kd a0 N Z st') ?step ?fin ⟨0,a0,rfl,hSI,by omega,by omega⟩) ?post)
 case fin=>
  rintro c st' ⟨lo,Z,rfl,hS,hx,hl⟩
  have:lo=N:=by omega
  subst this
  exact⟨Z,rfl,hS⟩
 case post=>
  rintro c st' ⟨Z,rfl,hS⟩
  have hZ:∀st',SI L kd a0 N Z st'->Z=[]:=by
   intro st' hS
   obtain⟨h1,h2,h3,rs,h4,h5,h6⟩:=hS
   have:=h3.length_eq
   rw[h4,YAE,h5,hN']at this
   exact YBo.mp (by omega)
  dsimp only
  refine YAQ (YCG (YBW (a:=0) (b:=N) (I:=fun x c st'=>c=(none,())/\SI L kd a0 N Z st'/\(pendingOf st').size+x<=N)
   (Q:=fun c st'=>c=(none,())/\SI L kd a0 N Z st'/\(pendingOf st').size<=1) ?s2 ?f2 ⟨rfl,hS,?_⟩) ?p2)
  case f2=>
   rintro c st' ⟨rfl,hS,hx⟩
   exact⟨rfl,hS,by omega⟩
  case p2=>
   rintro c st' ⟨rfl,hS,hx⟩
   obtain⟨h1,h2,h3,rs,h4,h5,h6⟩:=hS
   have:=hZ st' ⟨h1,h2,h3,rs,h4,h5,h6⟩
   subst this
   refine YAa (q st' h3 ?_ h2)
   have hl:=h6.len
   rw[YAS]at hl
   rw[h4,YCF]
   cases rs with
   | nil=>exact List.Pairwise.nil
   | cons r rs=>
    cases rs with
    | nil=>
     cases hps:(pendingOf st').toList with
     | nil=>rw[hps]at h6;exact h6.elim
     | cons t ps=>rw[hps]at h6;simpa using h6.2.2.2.1
    | cons r2 rs=>simp at hl;omega
  case s2=>
   rintro x c st' _ hx ⟨rfl,hS,hpx⟩
   refine YAQ (YDM ?_)
   by_cases hp1:(pendingOf st').size<=1
   .rw[YAP hp1]
    exact YAa ⟨rfl,hS,hp1⟩
   .rw[YAL hp1]
    refine YAQ (hS.merge hC hP hd ?_ fun st2 hS2 hp2=>?_)
    .have hle:∀(c:Prop) [Decidable c] (k:Nat),(if c then k-1 else k)<=k:=fun c _ k=>by split<;>omega
     exact YCn (Nat.succ_le_succ (hle _ _)) (by omega)
    .exact YAa ⟨rfl,hS2,by omega⟩
  .obtain⟨h1,h2,h3,rs,h4,h5,h6⟩:=hS
   have:=h6.le
   rw[YAS]at this
   omega
 case step=>
  rintro x c st' _ hx ⟨lo,Z,rfl,hS,hxl,hl⟩
  dsimp only
  by_cases hlo:lo>=N
  .rw[YAP hlo]
   have:lo=N:=by omega
   subst this
   exact YAa ⟨Z,rfl,hS⟩
  rw[YAL hlo]
  obtain⟨h1,h2,h3,rs,h4,h5,h6⟩:=hS
  have hsz:(arrOf st').size=N:=by rw[<-YAS,h3.length_eq,hN']
  have hda:∀u∈(arrOf st').toList,D u:=fun u hu=>hd u (h3.mem_iff.mp hu)
  refine YAQ (Eq.mp (congrArg (fun v=>wpS M A E s (countRun' lo (N-lo)) _ v) (show setArr st' (arrOf st')=st' from rfl)) (Zl0 hC hP h1 hda (by omega) (by omega) fun b m hK hm1 hm2 hsm=>?_))
  dsimp only
  have hbz:=hK.sz
  by_cases hmr:m<minRun' N N 0
  .rw[YAP hmr]
   obtain⟨n,hn⟩:∃n,n=min (N-lo) (minRun' N N 0):=⟨_,rfl⟩
   rw[<-hn]
   refine YAQ (YDd (YCI ⟨rfl,?_⟩))
   refine YAQ (Zl3 hC hP h1 (hK.d hda) (by omega) (by omega) hsm fun b2 hK2 hs2=>?_)
   rw[YAL (by simp)]
   have hKb:=hK.tr hK2
   have hn1:1<=n:=by omega
   have hn2:n<=N-lo:=by omega
   have hbz2:=Kept.sz hKb
   have hb1:=Kept.pref hKb h4 h5
   obtain⟨R,hR⟩:∃R,R=(List.drop lo (Array.toList b2)).take n:=⟨_,rfl⟩
   obtain⟨Z2,hZ2⟩:∃Z2,Z2=(List.drop lo (Array.toList b2)).drop n:=⟨_,rfl⟩
   have hRZ:(List.drop lo (Array.toList b2))=R++Z2:=by rw[hR,hZ2,YAy]
   have hRl:R.length=n:=by rw[hR,YAc,YAj,YAS];omega
   have hRn:R≠[]:=by intro e;rw[e]at hRl;simp at hRl;omega
   have hRs:R.Pairwise (Le L):=by rw[hR];exact SegU.pw hs2
   have hS:SI L kd a0 lo (R++Z2) (setArr st' b2):=⟨h1,h2,(YCe.mp (Kept.perm hKb)).trans h3,rs,by rw[<-hRZ];exact hb1,h5,h6⟩
   refine YAQ (YDM ?_)
   cases hb:(pendingOf (setArr st' b2)).back? with
   | none=>
    dsimp only
    exact YAQ (YCO (YAa ⟨lo+n,Z2,rfl,hS.push hRl hRn hRs,by omega,by omega⟩))
   | some t=>
    obtain⟨s1,n1,p1⟩:=t
    dsimp only
    refine YAQ (YCG (YBW (a:=0) (b:=N) (I:=fun y c st2=>c=(none,())/\SI L kd a0 lo (R++Z2) st2) (Q:=fun c st2=>c=(none,())/\SI L kd a0 lo (R++Z2) st2) ?_ (fun _ _ h=>h) ⟨rfl,hS⟩) ?_)
    .rintro y c st2 _ _ ⟨hc,hS2⟩
     subst hc
     refine YAQ (YDM ?_)
     by_cases hp:(pendingOf st2).size>1
     .rw[YAP hp]
      obtain⟨t,ht⟩:∃t,(pendingOf st2)[(pendingOf st2).size-2]?=some t:=⟨_,getElem?_pos _ _ (by omega)⟩
      obtain⟨t1,t2,t3⟩:=t
      rw[ht]
      dsimp only
      split
      .exact YAa ⟨rfl,hS2⟩
      .exact YAQ (hS2.merge hC hP hd (by omega) fun st3 hS3 _=>YAa ⟨rfl,hS3⟩)
     .rw[YAL hp]
      exact YAa ⟨rfl,hS2⟩
    .rintro c st2 ⟨hc,hS2⟩
     subst hc
     exact YAQ (YCO (YAQ (YCO (YAa ⟨lo+n,Z2,rfl,hS2.pow.push hRl hRn hRs,by omega,by omega⟩))))
  .rw[YAL hmr]
   have hKb:=hK
   have hbz2:=Kept.sz hKb
   have hb1:=Kept.pref hKb h4 h5
   obtain⟨R,hR⟩:∃R,R=(List.drop lo (Array.toList b)).take m:=⟨_,rfl⟩
   obtain⟨Z2,hZ2⟩:∃Z2,Z2=(List.drop lo (Array.toList b)).drop m:=⟨_,rfl⟩
   have hRZ:(List.drop lo (Array.toList b))=R++Z2:=by rw[hR,hZ2,YAy]
   have hRl:R.length=m:=by rw[hR,YAc,YAj,YAS];omega
   have hRn:R≠[]:=by intro e;rw[e]at hRl;simp at hRl;omega
   have hRs:R.Pairwise (Le L):=by rw[hR];exact SegU.pw hsm
   have hS:SI L kd a0 lo (R++Z2) (setArr st' b):=⟨h1,h2,(YCe.mp (Kept.perm hKb)).trans h3,rs,by rw[<-hRZ];exact hb1,h5,h6⟩
   refine YAQ (YDM ?_)
   cases hb:(pendingOf (setArr st' b)).back? with
   | none=>
    dsimp only
    exact YAQ (YCO (YAa ⟨lo+m,Z2,rfl,hS.push hRl hRn hRs,by omega,by omega⟩))
   | some t=>
    obtain⟨s1,n1,p1⟩:=t
    dsimp only
    refine YAQ (YCG (YBW (a:=0) (b:=N) (I:=fun y c st2=>c=(none,())/\SI L kd a0 lo (R++Z2) st2) (Q:=fun c st2=>c=(none,())/\SI L kd a0 lo (R++Z2) st2) ?_ (fun _ _ h=>h) ⟨rfl,hS⟩) ?_)
    .rintro y c st2 _ _ ⟨hc,hS2⟩
     subst hc
     refine YAQ (YDM ?_)
     by_cases hp:(pendingOf st2).size>1
     .rw[YAP hp]
      obtain⟨t,ht⟩:∃t,(pendingOf st2)[(pendingOf st2).size-2]?=some t:=⟨_,getElem?_pos _ _ (by omega)⟩
      obtain⟨t1,t2,t3⟩:=t
      rw[ht]
      dsimp only
      split
      .exact YAa ⟨rfl,hS2⟩
      .exact YAQ (hS2.merge hC hP hd (by omega) fun st3 hS3 _=>YAa ⟨rfl,hS3⟩)
     .rw[YAL hp]
      exact YAa ⟨rfl,hS2⟩
    .rintro c st2 ⟨hc,hS2⟩
     subst hc
     exact YAQ (YCO (YAQ (YCO (YAa ⟨lo+m,Z2,rfl,hS2.pow.push hRl hRn hRs,by omega,by omega⟩))))
end
noncomputable def keyD (κ:KeyKind) (p:Keyed):κ.α:=(κ.keyOf p.1).getD κ.dflt
noncomputable def ltD (κ:KeyKind) (x y:Keyed):Bool:=κ.blt (keyD κ x) (keyD κ y)
theorem ZlF (κ:KeyKind):CmpT (ltD κ):=
 ⟨fun x y _ _ h=>KeyOrd.klt_asymm (O:=κ.toKeyOrd) h,fun x y z _ _ _ h1 h2=>KeyOrd.kle_trans (O:=κ.toKeyOrd) h1 h2⟩
section
variable {prog:Program}{w:World}{A:Around}{E:Q33}{s:Shared}{κ:KeyKind}
theorem ZjS (hO:κ.OneLt):PureC (model prog w) A E s (fun p=>∃a,κ.keyOf p.1=some a) (ltD κ) oneType':=by
 rintro st ⟨x,p⟩ ⟨y,r⟩ Q hk ⟨a,ha⟩ ⟨b,hb⟩ q
 have e:ltD κ (x,p) (y,r)=κ.blt a b:=by unfold ltD keyD;rw[ha,hb];rfl
 rw[e]at q
 rw[lt'_eq]
 refine YAQ (YDM ?_)
 rw[hk,keyLt'_oneType]
 exact YAQ (YDd (YCl (hO prog w A _ s x y a b ha hb ⟨rfl,YAa q⟩)))
theorem Zju {a0:Array Keyed}{st:SortSt}{Q:Unit->SortSt->Prop}(hO:κ.OneLt)(h0:KeysOf κ a0)(hk:kindOf st=oneType')(hf:failedOf st=none)(hp:pendingOf st=#[])(ha:arrOf st=a0)
  (q:∀st',(arrOf st').Perm a0->failedOf st'=none->SortedToK κ (arrOf st') a0.size->Q () st'):wpS (model prog w) A E s sortRuns' Q st:=by
 refine Zib (a0:=a0.toList) (ZlF κ) (ZjS hO) h0 hk hf hp (by rw[ha]) fun st' p1 p2 p3=>q st' (YCe.mpr p1) p3 ?_
 have hsz:(arrOf st').size=a0.size:=by rw[<-YAS,p1.length_eq,YAS]
 intro i j hij hj
 have hK:∀k (hk:k<(arrOf st').size),KK κ (arrOf st') k=keyD κ ((arrOf st').toList[k]'(by simpa using hk)):=by
  intro k hk
  unfold KK keyD
  rw[getElem?_pos _ k hk];rfl
 rw[hK i (by omega),hK j (by omega)]
 by_cases e:i=j
 .subst e;exact KeyOrd.kle_refl _
 .exact YCM.mp p2 i j (by simp;omega) (by simp;omega) (by omega)
end
section
variable {prog:Program}{w:World}{A:Around}{E:Q33}{s:Shared}{κ:KeyKind}
theorem Zjt (hO:κ.OneLt) {a:Addr} {vs:List Value} {n:Nat} {P:Fin->Shared->Prop} (ho:s.heap.get? a=some (seqObj "list" vs.toArray n))
  (h0:KeysOf κ (pairsOf vs)) (hkk:∀x y r,vs=x::y::r->keyKind' (x::y::r).toArray=pure oneType') (hN:vs.length<=sizeLine)
  (h:∀v:SortSt,(arrOf v).Perm (pairsOf vs)->SortedToK κ (arrOf v) (pairsOf vs).size->P (.done (.ret .none)) { s with heap:=sortedHeap s.heap a vs ((arrOf v).map (·.2)) }):
  wpAny (model prog w) A (Builtin.«list.sort» ⟨[.ref a],[]⟩) P E s:=by
 by_cases h64:vs.length<64
 .exact list_sort_treeK hO ho h0 hkk h64 h
 obtain⟨x,y,r,hv⟩:∃x y r,vs=x::y::r:=by
  match vs,h64 with
  | x::y::r,_=>exact⟨x,y,r,rfl⟩
  | [x],h=>simp at h
  | [],h=>simp at h
 have h2:¬vs.toArray.size<2:=by rw[YAM];omega
 have hlt:a<s.heap.objs.size:=YAN ho
 have up:=get?_update_seq ho (fun _=>#[])
 generalize hep:(if (#[]:Array Value).size == vs.toArray.size then n else n+1)=ep at up
 have up3:(((s.heap.update a (Obj.mapSeq fun _=>#[])).push (seqObj "tuple" vs.toArray 0)).push (seqObj "list" #[] 0)).get? a=some (seqObj "list" #[] ep):=by
  rw[Heap.get?_push_ne,Heap.get?_push_ne]
  .exact up
  .rw[Heap.size_update];exact YAd hlt
  .rw[size_push',Heap.size_update];exact YAd (YCc hlt)
 rw[list_sort_plain]
 refine YAA (listItems_at ho rfl (YAA (listUpdate_at ho rfl (YAA (seqEpoch_at up rfl (YAA (wpAny_newTuple (YAA (YDL (YBM ?_)))))) ) (hsz:=by rw[YAM];exact hN))))
 dsimp only
 rw[YAL h2,YAL h2]
 have hk1:keyKind' vs.toArray=pure oneType':=by rw[hv];exact hkk x y r hv
 rw[hk1]
 refine YAA (YAF (YAA (YBp (Zju hO h0 (st:=SortSt.mk' oneType' (pairsOf vs) #[] 7 none) (Q:=fun _ v=>(arrOf v).Perm (pairsOf vs)/\failedOf v=none/\SortedToK κ (arrOf v) (pairsOf vs).size) rfl rfl rfl rfl fun v p1 p2 p3=>⟨p1,p2,p3⟩) ?_ fun _ _ e=>e)))
 rintro⟨⟨⟩,v⟩ s2 ⟨rfl,p1,p2,p3⟩
 dsimp only
 refine YAA (seqEpoch_at up3 rfl (YAA (listUpdate_at up3 rfl ?_ (hsz2:=?_))))
 .rw[p2,bne_self_eq_false]
  exact YAF (h v p1 p3)
 .rw[Array.size_map,p1.size_eq,pairsOf_size];omega
end
section
variable {prog:Program}{w:World}{A:Around}{E:Q33}{s:Shared}
theorem Zhd {vs:List Value}{ms:Q22}{Q:Q33}(hv:Vals (ms.map tx) vs)(h64:ms.length<=sizeLine)
  (h:∀(h':Heap) (us:List Value) (e:Nat),(∀b o,s.heap.get? b=some o->h'.get? b=some o)->h'.get? s.heap.objs.size=some { cls:=.type "list",data:=.seq us.toArray e }->Vals ((ZbJ ms).map tx) us->Q (.ref s.heap.objs.size) { s with heap:=h' }):
  wpAny (model prog w) A (do let l <-newList vs;let _ <-holding [l] (call (.builtin "list.sort") [l] []);ret l) (fun fin s'=>∃v,fin=Fin.done (Flow.ret v)/\Q v s') E s:=by
 have hS:=ZeS hv
 have hlen:vs.length<=sizeLine:=by rw[<-hv.length,YAB];exact h64
 refine YAA (YDL ?_ ?_)
 .have hoL:(s.heap.push (seqObj "list" vs.toArray 0)).get? s.heap.objs.size=some (seqObj "list" vs.toArray 0):=YAO _ rfl
  refine YAA (YBM (YCf slot_list_sort ⟨_,hoL,rfl⟩ entry_list_sort (Zjt strKind_oneLt hoL hS.keysOf (fun v9 v_2 rest e=>keyKind_strs (by rw[<-e];exact hS)) hlen fun st' a1 a2=>⟨_,rfl,?_⟩) (args_list_sort _)))
  obtain⟨ss',b1,b2,b3⟩:=sorted_out_str hS a1 a2
  obtain⟨e,he⟩:=sortedHeap_at (out:=(arrOf st').map (·.2)) hoL
  refine YAF ⟨_,rfl,h _ ((arrOf st').map (·.2)).toList e (fun b o q=>?_) ?_ ?_⟩
  .have hlt:=YAN q
   have hlt':b<(s.heap.push (seqObj "list" vs.toArray 0)).objs.size:=by rw[YBb];exact YCc hlt
   exact(sortedHeap_old (YAd hlt) hlt').trans (YAC _ q)
  .have q:((arrOf st').map (·.2)).toList.toArray=(arrOf st').map (·.2):=YCN
   rw[q];exact he
  .have p1:(ss'.map fun x=>x.cps.toList).Perm ms:=by
    have:=b2.map (fun x:Str=>x.cps.toList)
    rwa [Zg6]at this
   have e1:=Zb7 p1 (Zcr b3)
   rw[<-e1]
   exact ZfP b1
 .exact hlen
theorem ZfR {S:Addr}{ls:Q22}{Q:Q33}(hh:A.handled=none)(hS:TxSet prog w s.heap S ls (!Zbb w))(h64:ls.length<=sizeLine)
  (h:∀(s':Shared) (a:Addr) (us:List Value) (e:Nat),s.heap.get? a=none->(∀b o,s.heap.get? b=some o->s'.heap.get? b=some o)->s'.gens=s.gens->s'.os=s.os->s'.heap.get? a=some { cls:=.type "list",data:=.seq us.toArray e }->Vals ((ZbJ ls).map tx) us->Q (.ref a) s'):
  wpAny (model prog w) A (call (.builtin "sorted") [.ref S]) Q E s:=by
 refine Calls.call_function_entry kind_sorted plain_sorted entry_sorted (args_sorted1 _) ?_
 unfold Builtin.«sorted»
 refine YAA (m:=checkCount "sorted" 1 1 _) (YAF ?_)
 refine YAA (ZdK (by first | exact hh | simpa using hh) hS h64 fun s' vs ms k1 hg ho hp hv=>?_)
 have hl:ms.length<=sizeLine:=by rw[hp.length_eq];exact h64
 refine Zhd hv hl fun h' us e k2 he r=>?_
 rw[Zdl hp]at r
 exact h _ _ us e (by
  cases q:s.heap.get? s'.heap.objs.size with
  | none=>rfl
  | some o=>exact absurd (YAN (k1 _ _ q)) (YAz _)) (fun b o q=>k2 b o (k1 b o q)) hg ho he r
end
section
variable {X:Cx}{e:Expr}{ta:TA}{p p2 pos kpos:Pos}
end
theorem Zfi (b:Bool)(x y:Value):keyLt' (tuples' b) x y=(do
  let xs <-Builtin.List.listItems x
  let ys <-Builtin.List.listItems y
  for ((p,r),i) in (xs.toList.zip ys.toList).zipIdx do
   if !(<-eqBool p r) then return <-oneLt' (b&&i == 0) p r
  return xs.size<ys.size):=rfl
noncomputable def keyT (h:Heap):Value->Int×Q11
 | .ref a=>match h.get? a with
  | some o=>match o.data with
   | .seq xs _=>match xs.toList with
    | [.int n _,.str w _]=>(n,w.cps.toList)
    | _=>(0,[])
   | _=>(0,[])
  | none=>(0,[])
 | _=>(0,[])
noncomputable def ltP (a b:Int×Q11):Bool:=decide (a.1<b.1) || (a.1 == b.1&&decide (a.2<b.2))
noncomputable def ltT (h:Heap) (x y:Keyed):Bool:=ltP (keyT h x.1) (keyT h y.1)
theorem Zf4 {a b:Int×Q11}:ltP a b=true↔a.1<b.1\/(a.1=b.1/\a.2<b.2):=by
 unfold ltP;simp
theorem ZiB {a b:Int×Q11}:ltP b a=false↔a.1<b.1\/(a.1=b.1/\¬b.2<a.2):=by
 rw[<-Bool.not_eq_true,Zf4]
 constructor
 .intro h
  by_cases e:a.1=b.1
  .exact .inr ⟨e,fun k=>h (.inr ⟨e.symm,k⟩)⟩
  .exact .inl (by
    have:¬b.1<a.1:=fun k=>h (.inl k)
    omega)
 .rintro (h | ⟨h,k⟩) (l | ⟨l,m⟩)
  .omega
  .omega
  .omega
  .exact k m
theorem ZlE (h:Heap):CmpT (ltT h):=by
 refine⟨fun x y _ _ e=>?_,fun x y z _ _ _ e f=>?_⟩
 .unfold ltT at e ⊢
  rw[Zf4]at e
  rw[ZiB]
  rcases e with e | ⟨e,f⟩
  .exact .inl e
  .exact .inr ⟨e,List.lt_asymm f⟩
 .unfold ltT at e f ⊢
  rw[ZiB]at e f ⊢
  rcases e with e | ⟨e,e2⟩<;>rcases f with f | ⟨f,f2⟩
  .exact .inl (by omega)
  .exact .inl (by omega)
  .exact .inl (by omega)
  .exact .inr ⟨by omega,List.not_lt.mpr (List.le_trans (List.not_lt.mp e2) (List.not_lt.mp f2))⟩
noncomputable def IsT (h:Heap) (v:Value) (n:Int) (c:Q11):Prop:=∃a t w u e,v=.ref a/\h.get? a=some (seqObj "tuple" #[.int n t,.str w u] e)/\w.cps.toList=c
theorem IsT.key {h:Heap}{v:Value}{n:Int}{c:Q11}(k:IsT h v n c):keyT h v=(n,c):=by
 obtain⟨a,t,w,u,e,rfl,ho,rfl⟩:=k
 unfold keyT;dsimp only;rw[ho]
section
variable {prog:Program}{w:World}{A:Around}{E:Q33}{s:Shared}
theorem Zho {a b:Str}{t u:Tok}{Q:Bool->Shared->Prop}(h:Q (decide (a.cps.toList<b.cps.toList)) s):wpAny (model prog w) A (oneLt' false (.str a t) (.str b u)) Q E s:=by
 rw[oneLt'_eq]
 simp only[YCX,if_false]
 refine YAA (wpAny_richCompare_same (typeIs_str s a t) (typeIs_str s b u) slot_str_lt (call_str_lt ⟨(fun z=>nomatch z),?_⟩))
 exact YBc h
theorem ZjR:PureC (model prog w) A E s (fun p=>∃n c,IsT s.heap p.1 n c) (ltT s.heap) (tuples' true):=by
 rintro st ⟨x,p⟩ ⟨y,r⟩ Q hk ⟨n,c,hx⟩ ⟨m,d,hy⟩ q
 have e:ltT s.heap (x,p) (y,r)=ltP (n,c) (m,d):=by unfold ltT;rw[hx.key,hy.key]
 rw[e]at q
 obtain⟨a,t,v,u,ep,rfl,ho,rfl⟩:=hx
 obtain⟨b,t2,v2,u2,ep2,rfl,ho2,rfl⟩:=hy
 rw[lt'_eq]
 refine YAQ (YDM ?_)
 rw[hk,Zfi]
 refine YAQ (YDd (YCl (YAA (listItems_at ho rfl (YAA (listItems_at ho2 rfl ?_))))))
 show wpAny _ _ (forIn [((Value.int n t,Value.int m t2),0),((Value.str v u,Value.str v2 u2),1)] _ _ >>= _) _ _ _
 rw[YDR]
 refine YAA (YAA (YAA (wpAny_eqBool_int ?_)))
 by_cases hnm:n=m
 .subst hnm
  rw[YAL (by simp)]
  refine YAF ?_
  dsimp only
  rw[YDR]
  refine YAA (YAA (eqBool_str ?_))
  by_cases hv:v=v2
  .subst hv
   rw[YAL (by simp)]
   refine YAF ?_
   dsimp only
   rw[List.forIn_nil]
   refine YAF ?_
   dsimp only
   refine YAF ⟨rfl,YAa ?_⟩
   have:ltP (n,v.cps.toList) (n,v.cps.toList)=false:=by unfold ltP;simp[List.lt_irrefl]
   rw[this]at q
   simpa using q
  .rw[YAP (by simpa using hv)]
   refine YAA (Zho (YAF (YAF ?_)))
   dsimp only
   refine YAF ⟨rfl,YAa ?_⟩
   have:ltP (n,v.cps.toList) (n,v2.cps.toList)=decide (v.cps.toList<v2.cps.toList):=by unfold ltP;simp
   rw[this]at q
   exact q
 .rw[YAP (by simpa using hnm)]
  refine YAA (oneLt_int (YAF (YAF ?_)))
  dsimp only
  refine YAF ⟨rfl,YAa ?_⟩
  have:ltP (n,v.cps.toList) (m,v2.cps.toList)=decide (n<m):=by unfold ltP;simp[hnm]
  rw[this]at q
  exact q
end
structure Lin {α:Type}(lt:α->α->Bool):Prop where
 asym:∀a b,lt a b=true->lt b a=false
 trans:∀a b c,lt a b=true->lt b c=true->lt a c=true
 tri:∀a b,lt a b=false->lt b a=false->a=b
section
variable {prog:Program}{w:World}{A:Around}{E:Q33}{s:Shared}
end
section
variable {prog:Program}{w:World}{A:Around}{E:Q33}{s:Shared}
theorem Zck:∀ {vs:List Value} {Q:List (Option Value)->Shared->Prop},(∀v∈vs,∃n c,IsT s.heap v n c) ->
  (∀us:List Value,us.length=vs.length->(∀u∈us,∃n t,u=.int n t)->Q (us.map some) s)->wpAny (model prog w) A (vs.mapM firstOfTuple') Q E s
 | [],Q,_,q=>by rw[List.mapM_nil];exact YAF (q [] rfl (by simp))
 | v::vs,Q,h,q=>by
  obtain⟨n,c,a,t,x,u,e,rfl,ho,rfl⟩:=h v (by simp)
  rw[List.mapM_cons]
  refine YAA ?_
  show wpAny _ _ (do
   if (<-typeOf (.ref a)) != .type "tuple" then return none
   return (<-Builtin.List.listItems (.ref a))[0]?) _ _ _
  refine YAA (wpAny_typeOf_ref ho ?_)
  rw[YAL (show ¬((Value.type "tuple" != Value.type "tuple")=true) by decide)]
  refine YAA (listItems_at ho rfl (YAF ?_))
  refine YAA (Zck (fun v hv=>h v (by simp[hv])) fun us hl hu=>YAF ?_)
  refine q (.int n t::us) (by simp[hl]) fun u hu'=>?_
  rcases YAU.mp hu' with rfl | hu'
  .exact⟨n,t,rfl⟩
  .exact hu u hu'
theorem Zf7 {vs:List Value}{Q:SortKind->Shared->Prop}(hv:∀v∈vs,∃n c,IsT s.heap v n c)(hne:vs≠[])(q:Q (tuples' true) s):wpAny (model prog w) A (keyKind' vs.toArray) Q E s:=by
 rw[keyKind'_eq,List.mapM_toArray,map_eq_pure_bind,bind_assoc]
 refine YAA (Zck hv fun us hl hu=>?_)
 rw[pure_bind,YAP (by simp)]
 refine YAA (YCI ?_)
 have hI:IntsAre us (us.map numOf):=intsAre_map us hu
 have e1:((us.map some).toArray.filterMap id)=us.toArray:=by simp
 rw[e1,oneTypeOnly'_eq,List.mapM_toArray,mapM_typeOf_ints hI]
 cases us with
 | nil=>
  cases vs with
  | nil=>exact absurd rfl hne
  | cons v vs=>simp at hl
 | cons u us=>
  simp only[map_pure,pure_bind]
  have h0:(List.map (fun _=>Value.type "int") (u::us)).toArray[0]?=some (Value.type "int"):=by simp
  have hall:((List.map (fun _=>Value.type "int") (u::us)).toArray.all fun z=>z == Value.type "int")=true:=by
   rw[List.all_toArray,List.all_map,YBQ]
   exact fun _ _=>rfl
  rw[h0]
  simp only[hall,if_true,pure_bind]
  exact YAF q
end
section
variable {prog:Program}{w:World}{A:Around}{E:Q33}{s:Shared}
end
section
variable {X:Cx}
end
noncomputable def fpl (l w:Q11):Nat:=((List.range (l.length+1)).find? fun i=>decide (i+w.length<=l.length)&&decide ((l.drop i).take w.length=w)).getD 0
theorem Zi0 {l w:Q11}{i:Nat}(h:AtW l w i)(hm:∀j,j<i->¬AtW l w j):fpl l w=i:=by
 unfold fpl
 have:((List.range (l.length+1)).find? fun i=>decide (i+w.length<=l.length)&&decide ((l.drop i).take w.length=w))=some i:=by
  rw[List.find?_range_eq_some]
  refine⟨by rw[decide_eq_true h.1,decide_eq_true h.2];rfl,YAu.mpr (by have:=h.1;omega),fun j hj=>?_⟩
  rw[Bool.not_eq_true',Bool.and_eq_false_iff,decide_eq_false_iff_not,decide_eq_false_iff_not]
  by_cases c:j+w.length<=l.length
  .exact .inr fun z=>hm j hj ⟨c,z⟩
  .exact .inl c
 rw[this];rfl
theorem ZfF {a b:Q11}(h1:BefW a b)(h2:BefW b a):False:=by
 rcases h1 with h1 | ⟨h1,k1⟩<;>rcases h2 with h2 | ⟨h2,k2⟩
 .omega
 .omega
 .omega
 .exact List.lt_asymm k1 k2
theorem Zbw:∀ {a b:Q22},a.Pairwise BefW->b.Pairwise BefW->(∀x,x∈a↔x∈b)->a=b
 | [],[],_,_,_=>rfl
 | [],y::b,_,_,h=>by have:=(h y).mpr YAi;cases this
 | x::a,[],_,_,h=>by have:=(h x).mp YAi;cases this
 | x::a,y::b,ha,hb,h=>by
  have pa:=YBU.mp ha
  have pb:=YBU.mp hb
  have e:x=y:=by
   rcases YAU.mp ((h x).mp YAi) with z | z
   .exact z
   .rcases YAU.mp ((h y).mpr YAi) with z2 | z2
    .exact z2.symm
    .exact(ZfF (pb.1 x z) (pa.1 y z2)).elim
  subst e
  congr 1
  refine Zbw pa.2 pb.2 fun z=>?_
  constructor
  .intro hz
   rcases YAU.mp ((h z).mp (YAY _ hz)) with e | e
   .rw[e]at hz;exact(ZcJ (pa.1 x hz)).elim
   .exact e
  .intro hz
   rcases YAU.mp ((h z).mpr (YAY _ hz)) with e | e
   .rw[e]at hz;exact(ZcJ (pb.1 x hz)).elim
   .exact e
theorem ZaR {x y:Q11}(e:kTx x=kTx y):x=y:=by unfold kTx at e;injection e with e;injection e with e;injection e
def Ext (s L:Q11):Prop:=(∃c,L=s++[c])\/∃c,L=c::s
theorem Ext.len {s L:Q11}(h:Ext s L):L.length=s.length+1:=by
 rcases h with⟨c,rfl⟩|⟨c,rfl⟩<;>simp
theorem Ext.inf {s L:Q11}(h:Ext s L):Inf s L:=by
 rcases h with⟨c,rfl⟩|⟨c,rfl⟩
 .have:=Zey (s++[c]);rwa [YBy]at this
 .exact Zex (c::s)
def Frs (s L w:Q11):Prop:=Inf w L/\¬Inf w s
theorem Frs.ne {s L w:Q11}(h:Frs s L w):w≠[]:=fun e=>h.2 (e▸Inf.nil s)
theorem Zdf (l:Q11)(k:Nat):Inf (l.take k) l:=⟨0,by rw[YAc];omega,by rw[YBg,List.take_eq_take_iff,YAc];omega⟩
theorem Zez (l:Q11)(k:Nat):Inf (l.drop k) l:=by
 by_cases h:k<=l.length
 .exact⟨k,by rw[YAj];omega,by rw[YBJ]⟩
 .rw[YBI (by omega)];exact Inf.nil l
theorem Zdg {s L w:Q11}(h:Ext s L)(f:Frs s L w):((∃c,L=s++[c])/\w=L.drop (L.length-w.length))\/((∃c,L=c::s)/\w=L.take w.length):=by
 obtain⟨⟨i,h1,h2⟩,hn⟩:=f
 rcases h with⟨c,rfl⟩|⟨c,rfl⟩
 .refine .inl ⟨⟨c,rfl⟩,?_⟩
  rw[YAE,YAg]at h1 ⊢
  have hi:i+w.length=s.length+1:=by
   by_cases z:i+w.length<=s.length
   .refine absurd ⟨i,z,?_⟩ hn
    rw[YBC (by omega),YBO (by rw[YAj];omega)]at h2
    exact h2
   .omega
  have e:s.length+1-w.length=i:=by omega
  rw[e]
  rw[YAm (by rw[YAj,YAE,YAg];omega)]at h2
  exact h2.symm
 .refine .inr ⟨⟨c,rfl⟩,?_⟩
  cases i with
  | zero=>rw[YBg]at h2;exact h2.symm
  | succ i=>
   refine absurd ⟨i,?_,?_⟩ hn
   .rw[YAk]at h1;omega
   .rw[List.drop_succ_cons]at h2;exact h2
theorem ZiZ {s L w:Q11}(h:Ext s L):Frs s L w↔(∃k,1<=k/\k<=L.length/\(w=L.take k\/w=L.drop (L.length-k)))/\¬Inf w s:=by
 constructor
 .intro f
  have h1:1<=w.length:=YBY.mpr f.ne
  refine⟨⟨w.length,h1,f.1.len,?_⟩,f.2⟩
  rcases Zdg h f with⟨_,e⟩|⟨_,e⟩
  .exact .inr e
  .exact .inl e
 .rintro⟨⟨k,_,_,rfl | rfl⟩,hn⟩
  .exact⟨Zdf _ _,hn⟩
  .exact⟨Zez _ _,hn⟩
theorem Zfn {s L u v:Q11}(h:Ext s L)(fu:Frs s L u)(fv:Frs s L v)(hl:u.length<=v.length):Inf u v:=by
 have l1:=fu.1.len
 have l2:=fv.1.len
 rcases Zdg h fu with⟨⟨c,e⟩,eu⟩|⟨⟨c,e⟩,eu⟩
 .rcases Zdg h fv with⟨_,ev⟩|⟨⟨d,e2⟩,ev⟩
  .have:u=v.drop (v.length-u.length):=by
    have:v.drop (v.length-u.length)=L.drop (L.length-u.length):=by
     conv=>lhs;rw[ev]
     rw[YBr,YAj]
     congr 1
     omega
    rw[this];exact eu
   rw[this];exact Zez _ _
  .
   have hv:v.length=L.length:=by
    by_cases z:v.length=L.length
    .exact z
    .exfalso
     refine fv.2 ?_
     have:v=s.take v.length:=by
      conv=>lhs;rw[ev,e]
      rw[YBO]
      have:=h.len;omega
     rw[this];exact Zdf _ _
   have:v=L:=by rw[ev,hv,YBJ]
   rw[this];exact fu.1
 .rcases Zdg h fv with⟨⟨d,e2⟩,ev⟩|⟨_,ev⟩
  .have hv:v.length=L.length:=by
    by_cases z:v.length=L.length
    .exact z
    .exfalso
     refine fv.2 ?_
     have:v=s.drop (s.length-v.length):=by
      have h3:=h.len
      conv=>lhs;rw[ev,e]
      have e4:(c::s).length-v.length=(s.length-v.length)+1:=by rw[YAk];omega
      rw[e4,List.drop_succ_cons]
     rw[this];exact Zez _ _
   have:v=L:=by rw[ev,hv,YCZ,YBg]
   rw[this];exact fu.1
  .have:u=v.take u.length:=by
    have:v.take u.length=L.take u.length:=by
     conv=>lhs;rw[ev]
     rw[YCL]
     congr 1
     omega
    rw[this];exact eu
   rw[this];exact Zdf _ _
theorem ZiY {s L u v:Q11}(h:Ext s L)(fu:Frs s L u)(fv:Frs s L v)(hl:u.length=v.length):u=v:=ZgR (Zfn h fu fv (by omega)) (by omega)
theorem Zf9 {s L w0:Q11}(h:Ext s L)(f0:Frs s L w0)(hm:∀w,Frs s L w->¬BefW w w0)(w:Q11):Miss s w/\Inf w L↔w=w0:=by
 have sh:∀w,Frs s L w->w0.length<=w.length:=fun w f=>by
  by_cases z:w.length<w0.length
  .exact absurd (.inl z) (hm w f)
  .omega
 have ne:=f0.ne
 have l1:1<=w0.length:=YBY.mpr ne
 constructor
 .rintro⟨ms,hi⟩
  have fw:Frs s L w:=⟨hi,ms.no⟩
  have hc:=Zfn h f0 fw (sh w fw)
  by_cases z:w0.length<w.length
  .rcases ZiU hc z with k | k
   .exact absurd (k.trans ms.init) f0.2
   .exact absurd (k.trans ms.tail) f0.2
  .exact(ZgR hc (by omega)).symm
 .rintro rfl
  have small:∀u,Inf u L->u.length<w.length->Inf u s:=fun u hu hl=>by
   by_cases z:Inf u s
   .exact z
   .have:=sh u ⟨hu,z⟩;omega
  exact⟨⟨ne,small _ ((Zey w).trans f0.1) (by rw[YAx];omega),small _ ((Zex w).trans f0.1) (by rw[YCh];omega),f0.2⟩,f0.1⟩
noncomputable def shOf (s w:Q11)[Decidable (Inf w.dropLast s)]:Q11:=if Inf w.dropLast s then w.tail else w.dropLast
noncomputable instance (w l:Q11):Decidable (Inf w l):=decidable_of_iff (∃i,i<l.length+1/\i+w.length<=l.length/\(l.drop i).take w.length=w) ⟨fun ⟨i,_,h⟩=>⟨i,h⟩,fun ⟨i,h⟩=>⟨i,by have:=h.1;omega,h⟩⟩
def Opn (s L m w:Q11):Prop:=∃sh c,Frs s L sh/\c∈m/\(w=sh++[c]\/w=c::sh)/\Miss L w
theorem Zik {s L m w:Q11}(h:Ext s L)(hm:∀x∈L,x∈m):Opn s L m w↔w∈Zar L m/\w∉Zar s m:=by
 constructor
 .rintro⟨sh,c,f,hc,e,ms⟩
  refine⟨Zao.mpr ⟨ms,?_⟩,fun hw=>?_⟩
  .rcases e with rfl | rfl
   .exact⟨c,hc,by simp⟩
   .refine⟨sh.getLast f.ne,hm _ (f.1.mem (List.getLast_mem _)),?_⟩
    rw[YBi (by simp),List.getLast_cons f.ne]
  .have k:=(Zao.mp hw).1
   rcases e with rfl | rfl
   .exact f.2 (by have:=k.init;rwa [YBy]at this)
   .exact f.2 k.tail
 .rintro⟨hw,hn⟩
  obtain⟨ms,c,hc,hl⟩:=Zao.mp hw
  have ns:¬Inf w s:=fun z=>ms.no (z.trans h.inf)
  have hn':¬(Inf w.dropLast s/\Inf w.tail s):=fun ⟨a,b⟩=>hn (Zao.mpr ⟨⟨ms.ne,a,b,ns⟩,c,hc,hl⟩)
  by_cases z:Inf w.dropLast s
  .have z2:¬Inf w.tail s:=fun k=>hn' ⟨z,k⟩
   have f:Frs s L w.tail:=⟨ms.tail,z2⟩
   match w,ms,f with
   | d::r,ms,f=>
    have f:Frs s L r:=f
    refine⟨r,d,f,?_,.inr rfl,ms⟩
    match r,f.ne with
    | e::r,_=>exact hm _ (ms.init.mem (by simp))
  .refine⟨w.dropLast,c,⟨ms.init,z⟩,hc,.inl ?_,ms⟩
   rw[YBi ms.ne]at hl
   have h2:=YBz ms.ne
   rw[Option.some.inj hl]at h2
   exact h2.symm
theorem ZkB {s L w sh:Q11}{c:Nat}(h:Ext s L)(f:Frs s L sh)(e:w=sh++[c]\/w=c::sh)(ms:Miss L w):shOf s w=sh:=by
 unfold shOf
 rcases e with rfl | rfl
 .rw[YBy,YAL f.2]
 .by_cases z:Inf (c::sh).dropLast s
  .rw[YAP z];rfl
  .rw[YAL z]
   exact ZiY h ⟨ms.init,z⟩ f (by rw[YAx];simp)
theorem Zff {s L m w w0:Q11}(h:Ext s L)(f0:Frs s L w0)(hmn:∀w,Frs s L w->¬BefW w w0)(hw:w∈Zar s m):w∈Zar L m↔w≠w0:=by
 obtain⟨ms,hc⟩:=Zao.mp hw
 constructor
 .rintro k rfl
  exact(Zao.mp k).1.no ((Zf9 h f0 hmn w).mpr rfl).2
 .intro k
  have ni:¬Inf w L:=fun z=>k ((Zf9 h f0 hmn w).mp ⟨ms,z⟩)
  exact Zao.mpr ⟨⟨ms.ne,ms.init.trans h.inf,ms.tail.trans h.inf,ni⟩,hc⟩
theorem ZlU {s L m w0:Q11}(h:Ext s L)(hm:∀x∈L,x∈m)(f0:Frs s L w0)(hmn:∀w,Frs s L w->¬BefW w w0):w0∈Zar s m:=by
 have k:=(Zf9 h f0 hmn w0).mpr rfl
 exact Zao.mpr ⟨k.1,w0.getLast k.1.ne,hm _ (k.2.mem (List.getLast_mem _)),YBi _⟩
noncomputable def opnL (s L m:Q11):Q22:=(Zar L m).filter fun w=>decide (w∉Zar s m)
noncomputable def filL (s L m:Q11):Q22:=(Zar s m).filter fun w=>decide (w∉Zar L m)
theorem Zca {s L m w:Q11}:w∈opnL s L m↔w∈Zar L m/\w∉Zar s m:=by unfold opnL;simp
theorem Zcb {s L m w:Q11}:w∈filL s L m↔w∈Zar s m/\w∉Zar L m:=by unfold filL;simp
theorem ZgY {s L m w0:Q11}(h:Ext s L)(hm:∀x∈L,x∈m)(hr:m.Pairwise (· < ·))(f0:Frs s L w0)(hmn:∀w,Frs s L w->¬BefW w w0):filL s L m=[w0]:=by
 refine Zbw ((ZaE hr).filter _) (by simp) fun w=>?_
 rw[Zcb,YAR]
 constructor
 .rintro⟨a,b⟩
  by_cases z:w=w0
  .exact z
  .exact absurd ((Zff h f0 hmn a).mpr z) b
 .rintro rfl
  have k:=ZlU h hm f0 hmn
  exact⟨k,fun z=>(Zff h f0 hmn k).mp z rfl⟩
theorem ZbT {ws ws':Q22}(pm:ws'.Perm ws)(pw:ws'.Pairwise fun a b=>¬BefW b a)(nd:ws.Nodup):ws'.Pairwise BefW:=by
 refine(pw.and (pm.nodup_iff.mpr nd)).imp ?_
 rintro a b ⟨h1,h2⟩
 rcases Nat.lt_trichotomy a.length b.length with z | z | z
 .exact .inl z
 .rcases Ziz a b with k | k | k
  .exact .inr ⟨z,k⟩
  .exact absurd k h2
  .exact absurd (.inr ⟨z.symm,k⟩) h1
 .exact absurd (.inl z) h1
theorem ZbM {ws:Q22}(h:ws.Pairwise BefW):ws.Nodup:=h.imp fun hab e=>by rw[e]at hab;exact ZcJ hab
theorem ZlI {old new came gone ws':Q22}(ho:old.Pairwise BefW)(hn:new.Pairwise BefW)(hc:∀w,w∈came↔w∈new/\w∉old)(nc:came.Nodup)(hg:∀w,w∈gone↔w∈old/\w∉new)(pm:ws'.Perm (old.filter (fun w=>decide (w∉gone))++came))(pw:ws'.Pairwise fun a b=>¬BefW b a):ws'=new:=by
 have nd:(old.filter (fun w=>decide (w∉gone))++came).Nodup:=by
  rw[YCQ]
  refine⟨(ZbM ho).filter _,nc,fun a ha b hb e=>?_⟩
  subst e
  exact((hc a).mp hb).2 (YBP.mp ha).1
 refine Zbw (ZbT pm pw nd) hn fun w=>?_
 rw[pm.mem_iff,YAZ,YBP,hc,decide_eq_true_iff,hg]
 constructor
 .rintro (⟨a,b⟩|⟨a,b⟩)
  .by_cases z:w∈new
   .exact z
   .exact absurd ⟨a,z⟩ b
  .exact a
 .intro a
  by_cases z:w∈old
  .exact .inl ⟨z,fun k=>k.2 a⟩
  .exact .inr ⟨a,z⟩
theorem ZjZ {m:Q11}(hm:m.Pairwise (· < ·)):Zar [] m=signs m:=by
 unfold signs
 refine Zbw (ZaE hm) ?_ fun w=>?_
 .rw[YBm]
  exact hm.imp fun h=>.inr ⟨rfl,List.Lex.rel h⟩
 .rw[Zao,YAo]
  constructor
  .rintro⟨ms,c,hc,hl⟩
   have h:=ms.init.len
   rw[YAx,YDQ]at h
   have h1:1<=w.length:=YBY.mpr ms.ne
   match w,h,h1,hl with
   | [d],_,_,hl=>exact⟨c,hc,by simpa using hl.symm⟩
  .rintro⟨c,hc,rfl⟩
   exact⟨⟨by simp,Inf.nil _,Inf.nil _,fun z=>by have:=z.len;simp at this⟩,c,hc,rfl⟩
def Av (W:Q22)(w:Q11):Prop:=∀v∈W,¬Inf v w
def Stem (W:Q22)(u:Q11):Prop:=u=[]\/∃v∈W,∃k,k<v.length/\u=v.take k
def ZeM (W:Q22)(u e:Q11):Prop:=∃d,d<=u.length/\e=u.drop d/\Stem W e/\∀j,j<d->¬Stem W (u.drop j)
theorem Av.inf {W:Q22}{u w:Q11}(h:Av W w)(hu:Inf u w):Av W u:=fun v hv hi=>h v hv (hi.trans hu)
theorem Zj4 (a b:Q11):Inf a (a++b):=⟨0,by rw[YAE];omega,by rw[YBg,List.take_left]⟩
theorem ZkU {W:Q22}{u e:Q11}(hu:Av W u)(he:ZeM W u e)(x:Q11):Av W (u++x)↔Av W (e++x):=by
 obtain⟨d,hd,rfl,hs,hm⟩:=he
 have ed:(u++x).drop d=u.drop d++x:=YBC hd
 constructor
 .intro h
  refine h.inf ?_
  rw[<-ed]
  by_cases z:d<=(u++x).length
  .exact⟨d,by rw[YAj];omega,by rw[YBJ]⟩
  .rw[YBI (by omega)];exact Inf.nil _
 .rintro h v hv ⟨i,h1,h2⟩
  rw[YAE]at h1
  by_cases c1:i+v.length<=u.length
  .refine hu v hv ⟨i,c1,?_⟩
   rw[YBC (by omega),YBO (by rw[YAj];omega)]at h2
   exact h2
  .by_cases c2:d<=i
   .refine h v hv ⟨i-d,?_,?_⟩
    .rw[YAE,YAj];omega
    .rw[<-ed,YBr]
     have:d+(i-d)=i:=by omega
     rw[this];exact h2
   .refine hm i (by omega) (.inr ⟨v,hv,u.length-i,by omega,?_⟩)
    rw[<-h2,YCL]
    have e1:min (u.length-i) v.length=u.length-i:=by omega
    rw[e1,YBC (by omega),YBO (by rw[YAj];exact YAH _),YAm (by rw[YAj];exact YAH _)]
def Anti (W:Q22):Prop:=∀v∈W,∀w∈W,Inf v w->v=w
theorem Zk8 {W:Q22}(ha:Anti W)(hn:∀v∈W,v≠[]){u:Q11}(h:Stem W u):Av W u:=by
 rintro v hv hi
 rcases h with rfl | ⟨w,hw,k,hk,rfl⟩
 .have:=hi.len
  exact hn v hv (YBo.mp (by simpa using this))
 .have hl:=hi.len
  rw[YAc]at hl
  have e:=ha v hv w hw (hi.trans (Zdf w k))
  rw[e]at hl
  omega
theorem ZgQ (W:Q22)(u:Q11):∃e,ZeM W u e:=by
 classical
 have:∃d,Stem W (u.drop d):=⟨u.length,.inl (YBI (YAH _))⟩
 obtain⟨d,hd,hm⟩:∃d,Stem W (u.drop d)/\∀j,j<d->¬Stem W (u.drop j):=by
  obtain⟨d,hd⟩:=this
  induction d using Nat.strongRecOn with
  | _ d ih=>
   by_cases c:∃j,j<d/\Stem W (u.drop j)
   .obtain⟨j,hj,hs⟩:=c
    exact ih j hj hs
   .exact⟨d,hd,fun j hj hs=>c ⟨j,hj,hs⟩⟩
 refine⟨u.drop d,d,?_,rfl,hd,hm⟩
 by_cases z:d<=u.length
 .exact z
 .exact absurd (.inl (YBI (YAH _))) (hm u.length (by omega))
theorem ZiR {W:Q22}{u e f:Q11}(h1:ZeM W u e)(h2:ZeM W u f):e=f:=by
 obtain⟨d,_,rfl,hs,hm⟩:=h1
 obtain⟨d2,_,rfl,hs2,hm2⟩:=h2
 have:d=d2:=by
  rcases Nat.lt_trichotomy d d2 with z | z | z
  .exact absurd hs (hm2 d z)
  .exact z
  .exact absurd hs2 (hm d2 z)
 rw[this]
theorem Zkl {W:Q22}{u e x:Q11}{c:Nat}(he:ZeM W (u++[c]) e):Av W (u++c::x)↔Av W (u++[c])/\Av W (e++x):=by
 have e1:u++c::x=(u++[c])++x:=by simp
 constructor
 .intro h
  have h1:Av W (u++[c]):=h.inf (by rw[e1];exact Zj4 _ _)
  exact⟨h1,(ZkU h1 he x).mp (by rw[<-e1];exact h)⟩
 .rintro⟨h1,h2⟩
  rw[e1]
  exact(ZkU h1 he x).mpr h2
abbrev Wd:=Q11
noncomputable def cnt (o:Wd->List Wd)(P:List Wd)(s:Wd):Nat:=((o s).filter fun t=>decide (t∉P)).length
theorem Zg4 {o:Wd->List Wd}{P:List Wd}{s:Wd}:cnt o P s=0↔∀t∈o s,t∈P:=by
 unfold cnt
 rw[YBo,List.filter_eq_nil_iff]
 simp
theorem cnt_nil {o:Wd->List Wd}{s:Wd}:cnt o [] s=(o s).length:=by unfold cnt;simp
theorem ZeJ {o:Wd->List Wd}{P:List Wd}{r s:Wd}(h:r∉P):cnt o (P++[r]) s+(o s).count r=cnt o P s:=by
 unfold cnt
 induction o s with
 | nil=>simp
 | cons t ts ih=>
  rw[List.count_cons,YDH,YDH]
  by_cases e:t=r
  .subst e
   have h1:decide (t∉P++[t])=false:=by simp
   have h2:decide (t∉P)=true:=by simpa using h
   rw[h1,h2]
   simp only[YCX,if_false,if_true,beq_self_eq_true,YAk]
   omega
  .have h3:decide (t∉P++[r])=decide (t∉P):=by simp[e]
   rw[h3,YAL (show ¬(t == r)=true by simpa using e)]
   split<;>(try simp only[YAk])<;>omega
structure KI (N:List Wd)(o:Wd->List Wd)(n:Nat)(es:List Wd)(f:Wd->Nat):Prop where
 le:n<=es.length
 nd:es.Nodup
 sub:∀s∈es,s∈N
 left:∀s∈N,f s=cnt o (es.take n) s
 zero:∀s∈N,s∈es↔f s=0
 ord:∀(k:Nat) (s:Wd),es[k]?=some s->∀t∈o s,t∈es.take k
structure KJ (N:List Wd)(o:Wd->List Wd)(n:Nat)(r:Wd)(S:List Wd)(j:Nat)(es:List Wd)(f:Wd->Nat):Prop where
 at_:es[n]?=some r
 src:∀s∈N,S.count s=(o s).count r
 nd:es.Nodup
 sub:∀s∈es,s∈N
 left:∀s∈N,f s+(S.take j).count s=cnt o (es.take n) s
 zero:∀s∈N,s∈es↔f s=0
 ord:∀(k:Nat) (s:Wd),es[k]?=some s->∀t∈o s,t∈es.take k
theorem KI.start {N:List Wd}{o:Wd->List Wd}{f:Wd->Nat}(nd:N.Nodup)(hf:∀s∈N,f s=(o s).length):KI N o 0 (N.filter fun s=>decide (f s=0)) f where
 le:=YAq _
 nd:=nd.filter _
 sub:=fun s h=>(YBP.mp h).1
 left:=fun s h=>by rw[YCK,cnt_nil];exact hf s h
 zero:=fun s h=>by simp[YBP,h]
 ord:=fun k s h t ht=>by
  have hm:=YBP.mp (YAT h)
  have z:f s=0:=by simpa using hm.2
  rw[hf s hm.1,YBo]at z
  rw[z]at ht
  cases ht
theorem Zbs {es:List Wd}{n:Nat}{r:Wd}(nd:es.Nodup)(h:es[n]?=some r):r∉es.take n:=by
 intro hm
 obtain⟨k,hk,e⟩:=YBZ hm
 rw[YAc]at hk
 rw[List.getElem_take]at e
 obtain⟨hn,e2⟩:=YAK.mp h
 have:=(List.nodup_iff_pairwise_ne.mp nd)
 rw[YCM]at this
 exact this k n (by omega) hn (by omega) (by rw[e,e2])
theorem KI.enter {N:List Wd}{o:Wd->List Wd}{n:Nat}{es S:List Wd}{f:Wd->Nat}{r:Wd}(h:KI N o n es f)(hr:es[n]?=some r)(hS:∀s∈N,S.count s=(o s).count r):KJ N o n r S 0 es f:=
 ⟨hr,hS,h.nd,h.sub,fun s hs=>by rw[YCK,List.count_nil,Nat.add_zero];exact h.left s hs,h.zero,h.ord⟩
theorem ZaY {es:List Wd}{n:Nat}{r:Wd}(h:es[n]?=some r):es.take (n+1)=es.take n++[r]:=by
 rw[YCP,h];rfl
theorem KJ.leave {N:List Wd}{o:Wd->List Wd}{n:Nat}{es S:List Wd}{f:Wd->Nat}{r:Wd}(h:KJ N o n r S S.length es f):KI N o (n+1) es f where
 le:=(YAK.mp h.at_).1
 nd:=h.nd
 sub:=h.sub
 left:=fun s hs=>by
  have h1:=h.left s hs
  have h2:=ZeJ (o:=o) (s:=s) (Zbs h.nd h.at_)
  rw[YBJ,h.src s hs]at h1
  rw[ZaY h.at_]
  omega
 zero:=h.zero
 ord:=h.ord
theorem Zb3 {S:List Wd}{j:Nat}{s t:Wd}(h:S[j]?=some s):(S.take (j+1)).count t=(S.take j).count t+if t=s then 1 else 0:=by
 rw[ZaY h,List.count_append,List.count_singleton]
 by_cases e:t=s
 .subst e;simp
 .have:(s == t)=false:=by simpa using fun z=>e z.symm
  rw[this,YAL e];rfl
theorem KJ.pos {N:List Wd}{o:Wd->List Wd}{n j:Nat}{es S:List Wd}{f:Wd->Nat}{r s:Wd}(h:KJ N o n r S j es f)(hs:S[j]?=some s)(hN:s∈N):1<=f s:=by
 have h1:=h.left s hN
 have h2:=ZeJ (o:=o) (s:=s) (Zbs h.nd h.at_)
 have h3:(S.take (j+1)).count s<=S.count s:=(YCB _ _).count_le _
 rw[Zb3 hs,YAP rfl,h.src s hN]at h3
 omega
theorem KJ.next {N:List Wd}{o:Wd->List Wd}{n j:Nat}{es S:List Wd}{f:Wd->Nat}{r s:Wd}(h:KJ N o n r S j es f)(hs:S[j]?=some s)(hN:s∈N)(g:Wd->Nat)(hg:∀t,g t=if t=s then f s-1 else f t):
  (g s=0->KJ N o n r S (j+1) (es++[s]) g)/\(g s≠0->KJ N o n r S (j+1) es g):=by
 have p:=h.pos hs hN
 have gs:g s=f s-1:=by rw[hg,YAP rfl]
 have left:∀t∈N,g t+(S.take (j+1)).count t=cnt o (es.take n) t:=fun t ht=>by
  have h1:=h.left t ht
  rw[Zb3 hs,hg]
  by_cases e:t=s
  .subst e;rw[YAP rfl,YAP rfl];omega
  .rw[YAL e,YAL e];omega
 have hn:=(YAK.mp h.at_).1
 have ns:s∉es:=fun z=>by have:=(h.zero s hN).mp z;omega
 constructor
 .intro z
  have tk:(es++[s]).take n=es.take n:=YBO (by omega)
  refine⟨by rw[YAl hn];exact h.at_,h.src,?_,?_,?_,?_,?_⟩
  .rw[YCQ]
   refine⟨h.nd,by simp,fun a ha b hb=>?_⟩
   rw[YAR.mp hb]
   exact fun e=>ns (e▸ha)
  .intro t ht
   rcases YAZ.mp ht with ht | ht
   .exact h.sub t ht
   .rw[YAR.mp ht];exact hN
  .intro t ht
   rw[tk]
   exact left t ht
  .intro t ht
   rw[YAZ,YAR]
   by_cases e:t=s
   .subst e;simp[z]
   .rw[hg,YAL e]
    constructor
    .rintro (k | k)
     .exact(h.zero t ht).mp k
     .exact absurd k e
    .intro k;exact .inl ((h.zero t ht).mpr k)
  .intro k t hk u hu
   by_cases c:k<es.length
   .rw[YAl c]at hk
    rw[YBO (by omega)]
    exact h.ord k t hk u hu
   .have kl:=(YAK.mp hk).1
    rw[YAE,YAg]at kl
    have ke:k=es.length:=by omega
    subst ke
    rw[YAn (YAH _),YCZ]at hk
    cases hk
    rw[List.take_left]
    have l:=left s hN
    have c1:=ZeJ (o:=o) (s:=s) (Zbs h.nd h.at_)
    have c2:(S.take (j+1)).count s<=S.count s:=(YCB _ _).count_le _
    rw[h.src s hN]at c2
    have c3:cnt o (es.take n++[r]) s=0:=by omega
    rw[<-ZaY h.at_]at c3
    exact YAf (Zg4.mp c3 u hu)
 .intro z
  refine⟨h.at_,h.src,h.nd,h.sub,left,fun t ht=>?_,h.ord⟩
  by_cases e:t=s
  .subst e
   exact⟨fun k=>absurd k ns,fun k=>absurd k z⟩
  .rw[hg,YAL e];exact h.zero t ht
theorem KI.all {N:List Wd}{o:Wd->List Wd}{es:List Wd}{f:Wd->Nat}{D:Nat->Wd->Prop}(h:KI N o es.length es f)(h0:∀s∈N,¬D 0 s)(hs:∀k s,s∈N->D (k+1) s->∀t∈o s,t∈N/\D k t):∀k s,s∈N->D k s->s∈es
 | 0,s,hN,hd=>absurd hd (h0 s hN)
 | k+1,s,hN,hd=>by
  rw[h.zero s hN,h.left s hN,YBJ,Zg4]
  intro t ht
  obtain⟨a,b⟩:=hs k s hN hd t ht
  exact KI.all h h0 hs k t a b
theorem Zhe (a g:Addr):Builtin.«list.sort» ⟨[.ref a],[(Str.ofString "key",.ref g)]⟩=(do
  let its <-Builtin.List.listItems (.ref a)
  Builtin.List.listUpdate (.ref a) fun _=>#[]
  let be <-seqEpoch a
  let hd <-newTuple its.toList
  let ks <-newList []
  holding [hd,ks] do
   rule "list.sort.key"
   for x in its do
    match <-(call (.ref g) [x]).attempt with
    | .ok k=>Builtin.List.listUpdate ks (·.push k)
    | .error e=>
     rule "list.sort.key-raised"
     let md <-Builtin.List.listItems ks
     Builtin.List.listUpdate ks fun _=>#[]
     letGo md.toList.reverse [e]
     Builtin.List.listUpdate (.ref a) fun _=>its
     throw e
   let kys <-Builtin.List.listItems ks
   let kind <-if its.size<2 then pure general' else keyKind' kys
   let ((),v) <-(if its.size<2 then pure () else sortRuns').run (SortSt.mk' kind (kys.zip its) #[] 7 none)
   Builtin.List.listUpdate ks fun _=>#[]
   letGo ((arrOf v).map (·.1)).toList (failedOf v).toList
   let tch:=(<-seqEpoch a) != be
   Builtin.List.listUpdate (.ref a) fun _=>(arrOf v).map (·.2)
   if let some e:=failedOf v then rule "list.sort.comparison-raised";throw e
   if tch then rule "list.sort.modified";raiseError "ValueError" "list modified during sort"
   ret .none):=rfl
noncomputable def Kp (h g:Heap):Prop:=∀b o,h.get? b=some o->g.get? b=some o
noncomputable def KeyCall (M:Model) (A:Around) (g:Addr) (vs:List Value) (kf:Value->Int×Q11) (s:Shared):Prop:=
 ∀(E:Q33) (s':Shared) (v:Value) (Q:Q33),v∈vs->Kp s.heap s'.heap->s'.gens=s.gens->s'.os=s.os ->
  (∀(s2:Shared) (k:Value),Kp s'.heap s2.heap->s2.gens=s'.gens->s2.os=s'.os->IsT s2.heap k (kf v).1 (kf v).2->Q k s2)->wpAny M A (call (.ref g) [v]) Q E s'
theorem IsT.kp {h g:Heap}{v:Value}{n:Int}{c:Q11}(k:IsT h v n c)(q:Kp h g):IsT g v n c:=by
 obtain⟨a,t,w,u,e,h1,h2,h3⟩:=k
 exact⟨a,t,w,u,e,h1,q _ _ h2,h3⟩
theorem IsT.up {h:Heap} {v:Value} {n:Int} {c:Q11} {K:Addr} {xs:Array Value} {m:Nat} {f:Obj->Obj} (k:IsT h v n c) (hK:h.get? K=some (seqObj "list" xs m)):IsT (h.update K f) v n c:=by
 obtain⟨a,t,w,u,e,h1,h2,h3⟩:=k
 refine⟨a,t,w,u,e,h1,?_,h3⟩
 rw[(YAw h K f).2 a ?_]
 .exact h2
 .rintro rfl
  rw[h2]at hK
  have:=congrArg Obj.cls (Option.some.inj hK)
  exact absurd (show Value.type "tuple"=Value.type "list" from this) (by decide)
noncomputable def KeysAre (h:Heap) (kf:Value->Int×Q11) (ks vs:List Value):Prop:=ks.length=vs.length/\∀(i:Nat) (k v:Value),ks[i]?=some k->vs[i]?=some v->IsT h k (kf v).1 (kf v).2
section
variable {prog:Program}{w:World}{A:Around}{E:Q33}{s:Shared}
theorem ZiK {g K a:Addr}{vs:List Value}{kf:Value->Int×Q11}{oa:Obj}{Q:PUnit->Shared->Prop}{er:Value->Sem (ForInStep PUnit)}(hc:KeyCall (model prog w) A g vs kf s)(hK0:s.heap.get? K=none)(ha0:a≠K)(hN:vs.length<=sizeLine)
  (q:∀(s2:Shared) ks n,Kp s.heap s2.heap->s2.gens=s.gens->s2.os=s.os->s2.heap.get? K=some (seqObj "list" ks.toArray n)->KeysAre s2.heap kf ks vs->s2.heap.get? a=some oa->Q ⟨⟩ s2):
  ∀(l dn ks:List Value) (s':Shared) (n:Nat),vs=dn++l->Kp s.heap s'.heap->s'.gens=s.gens->s'.os=s.os->s'.heap.get? K=some (seqObj "list" ks.toArray n)->KeysAre s'.heap kf ks dn->s'.heap.get? a=some oa ->
   wpAny (model prog w) A (forIn l PUnit.unit fun x _=>do
    match <-(call (.ref g) [x]).attempt with
    | .ok k=>do
     Builtin.List.listUpdate (.ref K) (·.push k)
     pure (ForInStep.yield PUnit.unit)
    | .error e=>er e) Q E s'
 | [],dn,ks,s',n,hv,h1,h2,h3,h4,h5,h6=>by
  rw[YCF]at hv
  subst hv
  rw[List.forIn_nil]
  exact YAF (q s' ks n h1 h2 h3 h4 h5 h6)
 | x::l,dn,ks,s',n,hv,h1,h2,h3,h4,h5,h6=>by
  rw[YDR]
  refine YAA (YAA (YCl (hc _ s' x _ (by rw[hv];simp) h1 h2 h3 fun s2 k k1 k2 k3 k4=>?_)))
  have hlen:ks.length<vs.length:=by rw[h5.1,hv];simp
  have hK2:=k1 _ _ h4
  refine YAA (listUpdate_at hK2 rfl (YAF ?_) (hsz:=by rw[YAM];omega) (hsz2:=by rw[Array.size_push,YAM];omega))
  dsimp only
  have sb:=YAw s2.heap K (Obj.mapSeq fun z=>z.push k)
  refine ZiK hc hK0 ha0 hN q l (dn++[x]) (ks++[k]) _ _ (by rw[hv];simp) ?_ (k2.trans h2) (k3.trans h3) (by
   have:=get?_update_seq hK2 (fun z=>z.push k)
   rw[List.push_toArray]at this
   exact this) ?_ ?_
  .intro b o hb
   refine(sb.2 b ?_).trans (k1 b o (h1 b o hb))
   rintro rfl
   rw[hK0]at hb;cases hb
  .refine⟨by simp[h5.1],fun i k' v' e1 e2=>?_⟩
   by_cases hi:i<ks.length
   .rw[YAl hi]at e1
    rw[YAl (by rw[<-h5.1];exact hi)]at e2
    exact((h5.2 i k' v' e1 e2).kp k1).up hK2
   .have hi2:i=ks.length:=by
     have:=(YAK.mp e1).1
     simp at this;omega
    subst hi2
    rw[YAn (YAH _),YCZ]at e1
    rw[h5.1,YAn (YAH _),YCZ]at e2
    cases e1;cases e2
    exact k4.up hK2
  .exact(sb.2 a ha0).trans (k1 a oa h6)
end
section
variable {prog:Program}{w:World}{A:Around}{E:Q33}{s s0:Shared}
theorem ZfI {h:Heap}{kf:Value->Int×Q11}{ks vs:List Value}(hk:KeysAre h kf ks vs){p:Keyed}(hp:p∈ks.zip vs):keyT h p.1=kf p.2/\∃n c,IsT h p.1 n c:=by
 obtain⟨i,hi,rfl⟩:=YBZ hp
 rw[List.length_zip]at hi
 have h1:i<ks.length:=by omega
 have h2:i<vs.length:=by omega
 have:=hk.2 i ks[i] vs[i] (YAG h1) (YAG h2)
 rw[List.getElem_zip]
 exact⟨this.key,_,_,this⟩
theorem ZdY {a g:Addr}{vs:List Value}{kf:Value->Int×Q11}{n:Nat}{P:Fin->Shared->Prop}(hc:KeyCall (model prog w) A g vs kf s0)(hb:Kp s0.heap s.heap)(hg:s.gens=s0.gens)(hos:s.os=s0.os)(ha0:s0.heap.get? a=none)
  (ho:s.heap.get? a=some (seqObj "list" vs.toArray n)) (hN:vs.length<=sizeLine)
  (h:∀(s':Shared) (us:List Value) (e:Nat),Kp s0.heap s'.heap->s'.gens=s0.gens->s'.os=s0.os->s'.heap.get? a=some (seqObj "list" us.toArray e)->us.Perm vs->us.Pairwise (fun x y=>ltP (kf y) (kf x)=false)->P (.done (.ret .none)) s'):
  wpAny (model prog w) A (Builtin.«list.sort» ⟨[.ref a],[(Str.ofString "key",.ref g)]⟩) P E s:=by
 have hlt:a<s.heap.objs.size:=YAN ho
 have up:=get?_update_seq ho (fun _=>#[])
 generalize hep:(if (#[]:Array Value).size == vs.toArray.size then n else n+1)=ep at up
 obtain⟨h1,hh1⟩:∃h1,h1=s.heap.update a (Obj.mapSeq fun _=>#[]):=⟨_,rfl⟩
 have k1:Kp s0.heap h1:=by
  intro b o q
  rw[hh1,(YAw s.heap a _).2 b ?_]
  .exact hb b o q
  .rintro rfl;rw[ha0]at q;cases q
 rw[<-hh1]at up
 obtain⟨K,hK⟩:∃K,K=(h1.push (seqObj "tuple" vs.toArray 0)).objs.size:=⟨_,rfl⟩
 obtain⟨h3,hh3⟩:∃h3,h3=(h1.push (seqObj "tuple" vs.toArray 0)).push (seqObj "list" #[] 0):=⟨_,rfl⟩
 have k3:Kp h1 h3:=fun b o q=>by rw[hh3];exact YAC _ (YAC _ q)
 have oK:h3.get? K=some (seqObj "list" #[] 0):=by rw[hh3,hK];exact YAO _ rfl
 have nK:s0.heap.get? K=none:=by
  cases z:s0.heap.get? K with
  | none=>rfl
  | some o=>
   have:=YAN (k1 _ _ z)
   rw[hK,size_push']at this
   exact absurd this (YCu.mpr (YCi _))
 have aK:a≠K:=by
  rintro rfl
  have h8:=YAN up
  rw[hK,size_push']at h8
  exact absurd h8 (YCu.mpr (YCi _))
 subst hK
 rw[Zhe]
 refine YAA (listItems_at ho rfl (YAA (listUpdate_at ho rfl ?_ (hsz:=by rw[YAM];exact hN))))
 rw[<-hh1]
 refine YAA (seqEpoch_at up rfl (YAA (wpAny_newTuple (YAA (YDL (YBM ?_))))))
 refine YAA (YCI ?_)
 rw[List.forIn_toArray]
 show wpAny _ _ _ _ _ { s with heap:=(h1.push (seqObj "tuple" vs.toArray 0)).push (seqObj "list" #[] 0) }
 rw[<-hh3]
 refine YAA (ZiK hc nK aK hN ?_ vs [] [] { s with heap:=h3 } 0 rfl (fun b o q=>k3 b o (k1 b o q)) hg hos oK ⟨rfl,fun i k v e _=>by simp at e⟩ (k3 a _ up))
 intro s2 ks m j1 j2 j3 j4 j5 j6
 dsimp only
 refine YAA (listItems_at j4 rfl ?_)
 have fin:∀v:SortSt,failedOf v=none->((arrOf v).map (·.2)).toList.Perm vs->((arrOf v).map (·.2)).toList.Pairwise (fun x y=>ltP (kf y) (kf x)=false) ->
   wpAny (model prog w) A (do
    Builtin.List.listUpdate (.ref (h1.push (seqObj "tuple" vs.toArray 0)).objs.size) fun _=>#[]
    letGo ((arrOf v).map (·.1)).toList (failedOf v).toList
    let tch:=(<-seqEpoch a) != ep
    Builtin.List.listUpdate (.ref a) fun _=>(arrOf v).map (·.2)
    if let some e:=failedOf v then rule "list.sort.comparison-raised";throw e
    if tch then rule "list.sort.modified";raiseError "ValueError" "list modified during sort"
    ret .none) P E s2:=by
  intro v f1 f2 f3
  have hl:=j5.1
  refine YAA (listUpdate_at j4 rfl (YAA (wpAny_letGo ?_)) (hsz:=by rw[YAM];omega))
  have sb:=YAw s2.heap (h1.push (seqObj "tuple" vs.toArray 0)).objs.size (Obj.mapSeq fun _=>#[])
  have a1:(s2.heap.update (h1.push (seqObj "tuple" vs.toArray 0)).objs.size (Obj.mapSeq fun _=>#[])).get? a=some (seqObj "list" #[] ep):=(sb.2 a aK).trans j6
  refine YAA (seqEpoch_at a1 rfl (YAA (listUpdate_at a1 rfl ?_ (hsz2:=by
   have:=f2.length_eq
   rw[YAS]at this
   omega))))
  rw[f1,bne_self_eq_false]
  obtain⟨out,hout⟩:∃out,out=(arrOf v).map (·.2):=⟨_,rfl⟩
  rw[<-hout]at f2 f3 ⊢
  have a2:=get?_update_seq a1 (fun _=>out)
  generalize (if out.size == (#[]:Array Value).size then ep else ep+1)=e5 at a2
  have e3:out.toList.toArray=out:=YCN
  refine YAF (h _ out.toList e5 ?_ j2 j3 (by rw[e3];exact a2) f2 f3)
  intro b o q
  refine((YAw _ a _).2 b ?_).trans ((sb.2 b ?_).trans (j1 b o q))
  .rintro rfl;rw[ha0]at q;cases q
  .rintro rfl;rw[nK]at q;cases q
 have zs:(ks.toArray.zip vs.toArray)=(ks.zip vs).toArray:=by simp
 have zm:((ks.zip vs).map (·.2))=vs:=List.map_snd_zip (by rw[j5.1];exact YAH _)
 by_cases h2:vs.toArray.size<2
 .rw[YAP h2,YAP h2]
  refine YAA (YAF ?_)
  rw[StateT.run_pure]
  refine YAA (YAF ?_)
  refine fin (SortSt.mk' general' (ks.toArray.zip vs.toArray) #[] 7 none) rfl ?_ ?_
  .show ((ks.toArray.zip vs.toArray).map (·.2)).toList.Perm vs
   rw[zs,Array.toList_map,zm]
  .show ((ks.toArray.zip vs.toArray).map (·.2)).toList.Pairwise _
   rw[zs,Array.toList_map,zm]
   match vs,h2 with
   | [],_=>exact List.Pairwise.nil
   | [x],_=>exact List.pairwise_singleton _ _
   | _::_::_,h2=>simp at h2;omega
 .rw[YAL h2,YAL h2]
  have hne:ks≠[]:=by
   intro e
   have:=j5.1
   rw[e]at this
   rw[YAM,<-this]at h2
   simp at h2
  refine YAA (Zf7 (fun v hv=>?_) hne ?_)
  .obtain⟨i,hi,rfl⟩:=YBZ hv
   have h2:i<vs.length:=by rw[<-j5.1];exact hi
   exact⟨_,_,j5.2 i ks[i] vs[i] (YAG hi) (YAG h2)⟩
  .refine YAA (YBp (Zib (a0:=ks.zip vs) (st:=SortSt.mk' (tuples' true) (ks.toArray.zip vs.toArray) #[] 7 none) (Q:=fun _ v=>(arrOf v).toList.Perm (ks.zip vs)/\(arrOf v).toList.Pairwise (Le (ltT s2.heap))/\failedOf v=none)
    (ZlE _) ZjR (fun u hu=>(ZfI j5 hu).2) rfl rfl rfl (by show (ks.toArray.zip vs.toArray).toList=_;rw[zs]) fun v p1 p2 p3=>⟨p1,p2,p3⟩) ?_ fun _ _ e=>e)
   rintro⟨⟨⟩,v⟩ s3 ⟨rfl,p1,p2,p3⟩
   refine fin v p3 ?_ ?_
   .rw[Array.toList_map]
    have:=p1.map (fun p:Keyed=>p.2)
    rw[zm]at this
    exact this
   .rw[Array.toList_map,YBm]
    refine p2.imp_of_mem fun {x y} hx hy e=>?_
    have e1:=(ZfI j5 (p1.mem_iff.mp hx)).1
    have e2:=(ZfI j5 (p1.mem_iff.mp hy)).1
    have e':ltP (keyT s3.heap y.1) (keyT s3.heap x.1)=false:=e
    rw[e1,e2]at e'
    exact e'
end
noncomputable def kfT:Value->Int×Q11
 | .str x _=>((x.length:Nat),x.cps.toList)
 | _=>(0,[])
noncomputable abbrev Zb1 (x:Str)(p1 p2 p3 p4 p5:Pos)(k:Nat):Expr:=.Tuple [.Call (.Name "len" p1) [.Name x p2] [] p3,.Name x p4] k p5
structure LamSc (scope:Scope)(x:Str):Prop where
 kind:scope.kind=.function
 co:scope.isCoroutine=false
 gen:scope.isGenerator=false
 loc:scope.names.lookup x=some .local
 glb:scope.names.lookup ("len":Str)=some .globalImplicit
 nodbg:(x == ("__debug__":Str))=false
section
variable {prog:Program}{w:World}{A:Around}{s:Shared}
theorem Zjm (f:Str->Option NameKind){x:Str}{v:Value}(h:f x=some .local):bindL f [(x,v)] (fun _=>none) x=some v:=by
 unfold bindL bindL
 rw[YAP h,YAP rfl]
theorem ZiF {g:Addr}{o:Obj}{name qual x:Str}{params:Arguments}{scope:Scope}{pm cv ctv:Value}{mg mb:Str->Option Value}{vs:List Value}{p1 p2 p3 p4 p5:Pos}{k:Nat}
  (ho:s.heap.get? g=some o) (hod:o.data=.func (PySem.W.kla_fn name qual params (Zb1 x p1 p2 p3 p4 p5 k) scope [] pm cv ctv)) (hcd:s.heap.CodeRec cv qual) (S:LamSc scope x)
  (hb:∀(s:Shared) (u:Value),BindsTo s (PySem.W.kla_fn name qual params (Zb1 x p1 p2 p3 p4 p5 k) scope [] pm cv ctv) ⟨[u],[]⟩ [(x,u)]) (hroom:A.depth<recursionLimit) (hlim:s.heap.NoLimit)
  (hg:s.heap.Ns mainGlobals mg) (hgl:mg "len"=none) (hbn:s.heap.Ns builtinsNs mb) (hbb:mb "len"=bootBuiltins "len") (hv:∀v∈vs,∃y t,v=.str y t/\y.length<=sizeLine):KeyCall (model prog w) A g vs kfT s:=by
 intro E s' v Q hvm hk hgen hos q
 obtain⟨y,t,rfl,hy⟩:=hv v hvm
 have hs:sizeLine=16777216:=sizeLine_eq
 refine wpAny_call (PySem.W.kla_callFunE hroom (hk _ _ ho) hod S.co S.gen rfl (let ⟨c,oc,ws,tq,e1,e2,r⟩:=hcd;⟨c,oc,ws,tq,e1,hk _ _ e2,r⟩) (hb _ _ _ _ _ _ ?_))
 refine wpAny_newFunctionEnv_cells S.kind (fun z hz=>.inl (by rw[YAR.mp hz];exact S.loc)) fun env he s1 X=>?_
 refine⟨(hlim.keeps hk).keeps X.toInCall.keep,PySem.W.kla_codeExpr ?_⟩
 subst he
 obtain⟨h1,tk1,e1⟩:=X.toInCall.same
 have kp1:Kp s'.heap s1.heap:=X.toInCall.keep
 have lnm:∀(pp:Pos) (B:Around) (E2:Q33) (s2:Shared) (Q2:Q33),Kp s1.heap s2.heap->Q2 (.str y t) s2->wpAny (model prog w) B (eval (.Name x pp) (newEnv scope s'.heap.objs.size mainGlobals (cellsFrom (s'.heap.objs.size+1) scope.names []) (qual++".<locals>.") (some g) cv none builtinsNs)) Q2 E2 s2:=fun pp B E2 s2 Q2 k2 q2=>
  wpAny_Name (wpAny_loadName_local S.kind S.loc (X.toInCall.ns.keeps k2) (by
   exact Zjm _ S.loc) q2) S.nodbg
 refine wpAny_Tuple_spliced ?_
 show wpAny _ _ (spliced ((false,eval (.Call (.Name "len" p1) [.Name x p2] [] p3) _)::backTo p5 (starEach [.Name x p4] _))) _ _ s1
 refine YBe ?_
 refine YBu (Calls.Name_function_global S.kind S.glb (Calls.loadGlobal_builtin (v:=.builtin "len") (show s1.heap.Ns mainGlobals mg from(hg.keeps hk).keeps kp1) hgl (show s1.heap.Ns builtinsNs mb from(hbn.keeps hk).keeps kp1) (hbb.trans rfl) ?_) (by decide))
 refine PyProof.Rows.callWith_builtin1 ?_ rfl rfl
 show wpAny _ _ (spliced ((false,eval (.Name x p2) _)::backTo p3 (starEach [] _))) _ _ s1
 refine YBe (lnm p2 _ _ _ _ (fun _ _ e=>e) (YCR ?_))
 refine len_str (by omega) ?_
 show wpAny _ _ (spliced ((false,eval (.Name x p4) _)::backTo p5 (starEach [] _))) _ _ _
 refine YBe (lnm p4 _ _ _ _ (fun _ _ e=>e) (YCR ?_))
 refine⟨by rw[hs];show 2<=16777216;decide,?_⟩
 rw[e1]
 refine q _ _ (fun b o e=>YAC _ (by have:=kp1 b o e;rw[e1]at this;exact this)) rfl rfl ⟨_,_,_,_,_,rfl,YAO _ rfl,rfl⟩
end
theorem Zb6 (a v:Value):argsOk "sorted" ⟨[a],[(Str.ofString "key",v)]⟩:=by unfold argsOk;kernel_rfl
theorem ZbD (a v:Value):argsOk "list.sort" ⟨[a],[(Str.ofString "key",v)]⟩:=by unfold argsOk;kernel_rfl
section
variable {prog:Program}{w:World}{A:Around}{E:Q33}{s:Shared}
theorem ZfS {a g:Addr} {its:List Value} {n:Nat} {kf:Value->Int×Q11} {Q:Q33} (eo:s.heap.get? a=some (seqObj "list" its.toArray n)) (hc:KeyCall (model prog w) A.in1.in1 g its kf s) (hN:its.length<=sizeLine)
  (h:∀(s':Shared) (r:Addr) (us:List Value) (e:Nat),s.heap.get? r=none->Kp s.heap s'.heap->s'.gens=s.gens->s'.os=s.os->s'.heap.get? r=some (seqObj "list" us.toArray e)->us.Perm its->us.Pairwise (fun x y=>ltP (kf y) (kf x)=false)->Q (.ref r) s'):
  wpAny (model prog w) A (call (.builtin "sorted") [.ref a] [(Str.ofString "key",.ref g)]) Q E s:=by
 refine call_function_entry_kw kind_sorted plain_sorted entry_sorted (Zb6 _ _) ?_
 unfold Builtin.«sorted»
 refine YAA (m:=checkCount "sorted" 1 1 _) (YAF ?_)
 refine YAA (collect_list (PySem.IsL.isList eo) ?_ hN)
 have sb:=YAw (s.heap.push (seqObj "list" #[] 0)) s.heap.objs.size (Obj.mapSeq (·++its.toArray))
 have k1:Kp s.heap ((s.heap.push (seqObj "list" #[] 0)).update s.heap.objs.size (Obj.mapSeq (·++its.toArray))):=fun b o e=>(sb.2 b (YAd (YAN e))).trans (YAC _ e)
 generalize ((s.heap.push (seqObj "list" #[] 0)).update s.heap.objs.size (Obj.mapSeq (·++its.toArray)))=g1 at k1 ⊢
 have nw:s.heap.get? g1.objs.size=none:=by
  cases z:s.heap.get? g1.objs.size with
  | none=>rfl
  | some o=>exact absurd (YAN (k1 _ _ z)) (YAz _)
 refine YAA (YDL ?_ hN)
 have hoL:(g1.push (seqObj "list" its.toArray 0)).get? g1.objs.size=some (seqObj "list" its.toArray 0):=YAO _ rfl
 refine YAA (YBM (wpAny_call_entry_kw slot_list_sort ⟨_,hoL,rfl⟩ entry_list_sort (ZdY (s0:=s) hc (fun b o e=>YAC _ (k1 b o e)) rfl rfl nw hoL hN fun s' us e k2 e1 e2 e3 e4 e5=>⟨_,rfl,?_⟩) (ZbD _ _)))
 exact YAF ⟨_,rfl,h s' _ us e nw k2 e1 e2 e3 e4 e5⟩
end
end L2
namespace L2
open PySem PySem.Spec PyProof.Rows PySem.W
noncomputable def ZdG:HO->Bool
 | .tbl _=>true
 | _=>false
def SameL (H H':Hp):Prop:=∀b o,H b=some o->ZdG o=false->H' b=some o
theorem SameL.refl (H:Hp):SameL H H:=fun _ _ e _=>e
theorem SameL.trans {H H1 H2:Hp}(a:SameL H H1)(b:SameL H1 H2):SameL H H2:=fun c o e n=>b c o (a c o e n) n
theorem Same.l {H H':Hp}(s:Same H H'):SameL H H':=fun b o e _=>s b o e
noncomputable def ZeN (c:Addr)(q:Str):HO:=.ext fun h=>h.CodeRec (.ref c) q
theorem Zkh {P:Program}{w:World}{H:Hp}{h:Heap}{c:Addr}{q:Str}(x:h.CodeRec (.ref c) q):ObjOk P w H h c (ZeN c q):=by
 obtain⟨c',o,vs,t,e,e1,r⟩:=id x
 cases e
 refine⟨x,⟨o,e1⟩,fun h1 h2 x1 k=>?_⟩
 obtain⟨c',o,vs,t,e,e1,r⟩:=x1
 cases e
 exact⟨c,o,vs,t,rfl,k _ e1,r⟩
def TblOk (H:Hp)(P:Addr)(pos:Pos)(q:Str):Prop:=∃ps,H P=some (.tbl ps)/\TriplesOk ps.toList/\(codeAmong pos ps.toList=none\/∃c,codeAmong pos ps.toList=some (.ref c)/\H c=some (ZeN c q))
theorem TblOk.same {H H':Hp}{P:Addr}{pos:Pos}{q:Str}(t:TblOk H P pos q)(s:Same H H'):TblOk H' P pos q:=by
 obtain⟨ps,e,tr,h⟩:=t
 exact⟨ps,s _ _ e,tr,h.imp id fun ⟨c,e1,e2⟩=>⟨c,e1,s _ _ e2⟩⟩
theorem tbl_new {P:Addr}{pos:Pos}{q:Str}{H:Hp}(h:H P=some (.tbl #[])):TblOk H P pos q:=⟨#[],h,trivial,.inl rfl⟩
theorem ZdL {pos pos':Pos}{c:Value}(hne:pos'.line≠pos.line\/pos'.col≠pos.col)(l:List Value)(h:TriplesOk l):codeAmong pos' (l++[rawInt pos.line,rawInt pos.col,c])=codeAmong pos' l:=by
 fun_induction TriplesOk l with
 | case1=>
  simp only[YCo,codeAmong,rawInt]
  rw[YAL]
  intro z
  simp only[YAV,beq_iff_eq]at z
  rcases hne with n | n
  .exact n (by have:=z.1;omega)
  .exact n (by have:=z.2;omega)
 | case2 a t b u x rest ih=>
  simp only[YDJ,codeAmong]
  rw[ih h]
 | case3 l h1 h2=>exact h.elim
def SameT (pos:Pos)(H H':Hp):Prop:=SameL H H'/\∀(P':Addr) (pos':Pos) (q':Str),(pos'.line≠pos.line\/pos'.col≠pos.col)->TblOk H P' pos' q'->TblOk H' P' pos' q'
theorem SameT.then {pos:Pos}{H H1 H2:Hp}(s:SameT pos H H1)(t:Same H1 H2):SameT pos H H2:=⟨s.1.trans t.l,fun P' p' q' n T=>(s.2 P' p' q' n T).same t⟩
structure LamEnv (base:Heap)(mg:Str->Option Value)(c P:Addr):Prop where
 hd:CodeHd base c P
 bm:base.BuiltinsAt mg P
section
variable {X:Cx}{pins:List (Addr×Obj)}{U:St}{H:Hp}{s:Shared}
theorem Inv.table {P c':Addr}{ps more:Array Value}{q:Str}{h':Heap}{t':Nat}(I:Inv X pins U H s)(hP:H P=some (.tbl ps))(hx:Heap.ExtBut P s.heap h')(hc:s.heap.objs.size<=c')(hr:h'.CodeRec (.ref c') q)(ht:h'.get? P=some (tabObj (ps++more))):
  Inv X pins U (upd (upd H P (.tbl (ps++more))) c' (ZeN c' q)) { s with heap:=h',toks:=t' }:=by
 have fc:H c'=none:=I.hok.fresh hc
 have nPc:P≠c':=Zah hP fc
 have nt:∀ {b u},H b=some u->(∀ps,u≠.tbl ps)->b≠P:=fun e n z=>by rw[z,hP]at e;exact n _ (Option.some.inj e).symm
 have nc:∀ {b u},H b=some u->b≠c':=fun e=>Zah e fc
 have hz:∀ {b o},s.heap.get? b=some o->b≠c':=fun e z=>absurd (YAN e) (by rw[z];exact YCu.mpr hc)
 have nn:∀ {b},H b=none->b≠P:=fun e z=>by rw[z,hP]at e;cases e
 refine I.call' (s':={ s with heap:=h',toks:=t' }) (ch:=[]) rfl ⟨fun b o e n _ _=>hx b o (nn n) e,fun b o e n _ _=>⟨o.slots,hx b o (nn n) e⟩,fun b o e n _=>?_,fun b o e _=>?_,fun b xs e=>?_,fun b o u e=>?_,fun b qs e=>?_⟩ (fun b u e=>?_) I.bare (fun b z=>by cases z)
 .rw[Zac (hz e),Zac (nn n)];exact n
 .by_cases z:b=P
  .exact⟨_,by rw[z];exact ht⟩
  .exact⟨o,hx b o z e⟩
 .rw[Zac (nc e),Zac (nt e fun _ z=>by cases z)];exact e
 .rw[Zac (nc e),Zac (nt e fun _ z=>by cases z)];exact e
 .by_cases z:b=P
  .subst z
   rw[hP]at e;cases e
   exact⟨more,by rw[Zac nPc,Zad]⟩
  .exact⟨#[],by rw[Zac (nc e),Zac z,e];simp⟩
 .by_cases z1:b=c'
  .subst z1
   rw[Zad]at e;cases e
   exact Zkh hr
  .rw[Zac z1]at e
   by_cases z2:b=P
   .subst z2
    rw[Zad]at e;cases e
    exact ht
   .rw[Zac z2]at e
    refine(I.hok b u e).stay (fun d v hd k=>?_) (fun d k=>?_) fun d xs k=>?_
    .refine hx d v ?_ k
     rcases hd with rfl | hd
     .exact z2
     .exact nt hd fun _ z=>by cases z
    .rw[Zac (nc k),Zac (nt k fun _ z=>by cases z)];exact k
    .rw[Zac (nc k),Zac (nt k fun _ z=>by cases z)];exact k
theorem ZiE {Q:Q33}{E:Q33}{c P:Addr}{pos:Pos}{params:Arguments}{body:Expr}{scope:Scope}{q:Str}{clos:List (Str×Addr)}(I:Inv X pins U H s)(L:LamEnv X.base X.mg c P)(hcode:X.env.code=.ref c)(hcl:closureFor scope X.env=pure clos)(hdef:defaultsOf params X.env=([],[]))
  (hq:X.env.qual++"<lambda>"=q) (T:TblOk H P pos q)
  (h:∀(H1:Hp) (h':Heap) (tk:Nat) (c':Addr) (ctv:Value),SameT pos H H1->TblOk H1 P pos q->(∀b,H1 b=none->H b=none)->Inv X pins U H1 { s with heap:=h',toks:=tk }->h'.CodeRec (.ref c') q->H1 c'=some (ZeN c' q)->Q (.ref h'.objs.size) { s with heap:=h'.push (kla_obj "<lambda>" q params body scope clos ((X.mg "__name__").getD .none) c' ctv),toks:=tk }):
  wpAny (model X.prog X.w) X.A (eval (.Lambda params body scope pos) X.env) Q E s:=by
 obtain⟨ps,hP,tr,hc⟩:=T
 have gP:s.heap.get? P=some (tabObj ps):=I.hok P _ hP
 have C:CodeHd s.heap c P:=L.hd.keeps I.bk
 have hg:s.heap.Ns mainGlobals X.mg:=I.mod.glob.keeps I.bk
 have hgP:mainGlobals≠P:=fun z=>by
  obtain⟨o,es,ep,e,hd,_⟩:=hg
  rw[z,gP]at e;cases e;cases hd
 have hbm:s.heap.BuiltinsAt X.mg P:=let ⟨bm,o,a1,a2,a3,a4,a5,r⟩:=L.bm;⟨bm,o,a1,a2,a3,a4,I.bk _ _ a5,r⟩
 refine kla_eval hdef ?_
 rw[hq]
 rcases hc with hn | ⟨c',hf,hc'⟩
 .refine kla_makeFunction hcl I.ok.glob hg hcode C gP tr hn hgP hbm fun c' ctv h' tk hx hge hlt hrec htab=>?_
  have fc:H c'=none:=I.hok.fresh hge
  have J:=I.table (t':=tk) hP hx hge hrec htab
  have nPc:P≠c':=Zah hP fc
  have el:(ps++#[rawInt pos.line,rawInt pos.col,Value.ref c']).toList=ps.toList++[rawInt pos.line,rawInt pos.col,.ref c']:=by simp
  refine h _ _ _ c' ctv ⟨fun b o e n=>?_,fun P' pos' q' hne T'=>?_⟩ ⟨_,by rw[Zac nPc,Zad],by rw[el];exact TriplesOk_snoc _ _ _ _ tr,.inr ⟨c',by rw[el];exact codeAmong_snoc _ tr hn,Zad⟩⟩ (fun b e=>?_) J hrec Zad
  .rw[Zac (Zah e fc),Zac (fun z=>by rw[z,hP]at e;cases e;cases n)];exact e
  .obtain⟨ps',e1,t1,h1⟩:=T'
   have keep:∀d,H d=some (ZeN d q')->upd (upd H P (.tbl (ps++#[rawInt pos.line,rawInt pos.col,Value.ref c']))) c' (ZeN c' q) d=some (ZeN d q'):=fun d e=>by
    rw[Zac (Zah e fc),Zac (fun z=>by rw[z,hP]at e;cases e)];exact e
   by_cases z:P'=P
   .subst z
    rw[hP]at e1;cases e1
    refine⟨_,by rw[Zac nPc,Zad],by rw[el];exact TriplesOk_snoc _ _ _ _ tr,?_⟩
    rw[el,ZdL hne _ tr]
    exact h1.imp id fun ⟨d,f1,f2⟩=>⟨d,f1,keep d f2⟩
   .exact⟨ps',by rw[Zac (Zah e1 fc),Zac z];exact e1,t1,h1.imp id fun ⟨d,f1,f2⟩=>⟨d,f1,keep d f2⟩⟩
  .by_cases z1:b=c'
   .rw[z1];exact fc
   .rw[Zac z1]at e
    by_cases z2:b=P
    .rw[z2,Zad]at e;cases e
    .rw[Zac z2]at e;exact e
 .refine kla_makeFunctionHit hcl I.ok.glob hg hcode C gP tr hf hbm fun ctv h' tk hk hsz=>?_
  have hrec:s.heap.CodeRec (.ref c') q:=(I.hok c' _ hc').1
  exact h H _ _ c' ctv ⟨SameL.refl _,fun _ _ _ _ T=>T⟩ ⟨ps,hP,tr,.inr ⟨c',hf,hc'⟩⟩ (fun b e=>e) (I.kept (t':=tk) hk) (hrec.keeps hk) hc'
theorem Zfe {Q:Q33}{E:Q33}{c P:Addr}{pos:Pos}{params:Arguments}{body:Expr}{scope:Scope}{q:Str}(I:Inv X pins U H s)(L:LamEnv X.base X.mg c P)(hcode:X.env.code=.ref c)(hcl:closureFor scope X.env=pure [])(hdef:defaultsOf params X.env=([],[]))
  (hq:X.env.qual++"<lambda>"=q) (T:TblOk H P pos q)
  (h:∀(g:Addr) (H1:Hp) (s1:Shared) (cv ctv pm:Value),SameT pos H H1->TblOk H1 P pos q->(∀b,H1 b=none->H b=none)->Inv X pins U H1 s1->s1.heap.get? g=some { cls:=.type "function",data:=.func (kla_fn "<lambda>" q params body scope [] pm cv ctv) }->s1.heap.CodeRec cv q->Q (.ref g) s1):
  wpAny (model X.prog X.w) X.A (eval (.Lambda params body scope pos) X.env) Q E s:=
 ZiE I L hcode hcl hdef hq T fun H1 h' tk c' ctv st t1 fr J hrec _=>h _ H1 _ (.ref c') ctv _ st t1 fr (J.kept (t':=tk) fun b o e=>YAC _ e) (YAO _ rfl) (hrec.push _)
end
theorem Zef:bootBuiltins "sorted"=some (.builtin "sorted"):=rfl
noncomputable def txV:Value->Q11
 | .str x _=>x.cps.toList
 | _=>[]
theorem Zeg:∀ {ws:Q22} {us:List Value},Vals (ws.map tx) us->ws=us.map txV/\(∀v∈us,∃y t,v=.str y t/\y.length=(txV v).length)
 | [],_,.nil=>⟨rfl,fun v hv=>by cases hv⟩
 | w::ws,_,.cons ⟨t,e⟩ r=>by
  obtain⟨h1,h2⟩:=Zeg (ws:=ws) r
  subst e
  refine⟨by rw[YAr,<-h1];simp[txV],fun v hv=>?_⟩
  rcases YAU.mp hv with rfl | hv
  .exact⟨_,t,rfl,by simp[txV,Str.length]⟩
  .exact h2 v hv
theorem ZcL:∀(us:List Value),(∀v∈us,∃y t,v=.str y t)->Vals ((us.map txV).map tx) us
 | [],_=>.nil
 | v::us,h=>by
  obtain⟨y,t,rfl⟩:=h v YAi
  exact .cons ⟨t,by simp[txV]⟩ (ZcL us fun u hu=>h u (YAY _ hu))
def Zks (P:Addr)(lpos:Pos)(q:Str)(ta:TA):TE:=fun U H Q=>ta U H fun vs H1=>∃(a:Addr) (ws:Q22),vs=[.ref a]/\H1 a=some (.lst (ws.map tx))/\(∀w∈ws,w.length<=sizeLine)/\TblOk H1 P lpos q /\
 ∀(ws':Q22) (r:Addr) (H2:Hp),ws'.Perm ws->ws'.Pairwise (fun a b=>¬BefW b a)->SameT lpos H1 H2->TblOk H2 P lpos q->H1 r=none->H2 r=some (.lst (ws'.map tx))->Q (.ref r) H2
theorem ZiC {a b:Q11}:ltP ((b.length:Nat),b) ((a.length:Nat),a)=false↔¬BefW b a:=by
 rw[YCD,Ne,Zf4]
 unfold BefW
 dsimp only
 have e1:((b.length:Int)<(a.length:Int))↔b.length<a.length:=by omega
 have e2:((b.length:Int)=(a.length:Int))↔b.length=a.length:=by omega
 rw[e1,e2]
section
variable {X:Cx}{e:Expr}{ta:TA}{p pos kpos lpos p1 p2 p3 p4 p5:Pos}{k kk:Nat}{c P:Addr}{params:Arguments}{scope:Scope}{x q:Str}
theorem ZjF (hr:Room k X.A) (L:LamEnv X.base X.mg c P) (hcode:X.env.code=.ref c) (hg:Gl X "sorted") (hm:X.mg "sorted"=none) (hlen:X.mg "len"=none) (ha:PA X [e] ta) (hcl:closureFor scope X.env=pure []) (hdef:defaultsOf params X.env=([],[])) (hq:X.env.qual++"<lambda>"=q)
  (S:LamSc scope x) (hb:∀(s:Shared) (u pm cv ctv:Value),BindsTo s (kla_fn "<lambda>" q params (Zb1 x p1 p2 p3 p4 p5 kk) scope [] pm cv ctv) ⟨[u],[]⟩ [(x,u)])
  (he:backTo pos (starEach [e] X.env)=(false,eval e X.env)::backTo pos (starEach [] X.env):=by rfl) (hpl:(backTo pos (starEach [e] X.env)).any (·.1)=false:=by rfl):
  PE X (.Call (.Name "sorted" p) [e] [⟨some "key",.Lambda params (Zb1 x p1 p2 p3 p4 p5 kk) scope lpos,kpos⟩] pos) (Zks P lpos q ta):=by
 intro pins s U H Q I h
 refine YBu (Zcy I hg hm Zef ?_)
 refine PyProof.Rows.callWith_kw (thn (ha pos pins s U H _ I h) fun us s1 ⟨vs,H1,I1,r1,q1⟩=>?_) he hpl
 obtain⟨a,ws,rfl,hH,hw,T,q⟩:=q1
 show wpAny _ _ (evalAll ((do let v <-eval (.Lambda params (Zb1 x p1 p2 p3 p4 p5 kk) scope lpos) X.env;standAt pos;pure v)::[])) _ _ s1
 refine wpAny_evalAll_cons (YAA (Zfe I1 L hcode hcl hdef hq T fun g H2 s2 cv ctv pm sl T2 fr I2 ho hcd=>YAA (wpAny_standAt (YAF (wpAny_evalAll_nil ?_)))))
 obtain⟨u,rfl,ru⟩:=r1.one
 cases ru
 have hH2:=sl.1 _ _ hH rfl
 obtain⟨hz,its,n,r,hlen',eo⟩:=I2.lstM hH2
 obtain⟨ew,hs⟩:=Zeg r
 have hN:its.length<=sizeLine:=by rw[<-r.length];exact hz
 obtain⟨mb,b1,b2⟩:=I2.mod.blt
 have key:=ZiF (prog:=X.prog) (w:=X.w) (A:=X.A.in1.in1) (vs:=its) ho rfl hcd S (fun s u=>hb s u pm cv ctv) (show X.A.depth<recursionLimit by have:=hr.dp;omega) (I2.mod.nolimit.keeps I2.bk) (I2.mod.glob.keeps I2.bk) hlen (b1.keeps I2.bk) (b2 _ (by decide)) (fun v hv=>by
  obtain⟨y,t,e1,e2⟩:=hs v hv
  exact⟨y,t,e1,by rw[e2];exact hw _ (by rw[ew];exact YBj hv)⟩)
 refine ZfS eo key hN fun s' r' us e nr kp g1 o1 er pm2 pw=>?_
 have hs2:∀v∈us,∃y t,v=.str y t/\y.length=(txV v).length:=fun v hv=>hs v (pm2.mem_iff.mp hv)
 have rv:Vals ((us.map txV).map tx) us:=ZcL us fun v hv=>let ⟨y,t,e,_⟩:=hs2 v hv;⟨y,t,e⟩
 have hl2:us.length=its.length:=pm2.length_eq
 have fr':H1 r'=none:=fr _ (I2.hok.none_of nr)
 have J:=I2.laid2 (s':=s') (a:=r') (o:=.lst ((us.map txV).map tx)) o1 g1 kp nr ⟨by rw[YAB,YAB];omega,us,e,rv,er⟩
 have hr2:=I2.hok.none_of nr
 refine⟨.ref r',_,J,rfl,q (us.map txV) r' _ (by rw[ew];exact pm2.map _) ?_ (sl.then (Zap hr2)) (T2.same (Zap hr2)) fr' Zad⟩
 rw[YBm]
 refine pw.imp_of_mem fun {y z} hy hz e=>?_
 rw[<-ZiC]
 obtain⟨y1,t1,e1,e2⟩:=hs2 y hy
 obtain⟨z1,t2,e3,e4⟩:=hs2 z hz
 subst e1 e3
 have f1:kfT (.str y1 t1)=((((txV (.str y1 t1)).length:Nat):Int),txV (.str y1 t1)):=by rw[<-e2];rfl
 have f2:kfT (.str z1 t2)=((((txV (.str z1 t2)).length:Nat):Int),txV (.str z1 t2)):=by rw[<-e4];rfl
 rw[f1,f2]at e
 exact e
end
noncomputable def ZnB (o:Obj):Bool:=match o.cls,o.data with
 | .none,.fields _=>true
 | _,_=>false
noncomputable def ZjN (K:Frag):Bool:=K.all fun p=>!ZnB p.2
theorem Ze8 {K:Frag}(h:ZjN K=true){b:Addr}{o:Obj}(e:K.lookup b=some o):ZnB o=false:=by
 unfold ZjN at h
 rw[YBQ]at h
 have:∀(l:List (Addr×Obj)),l.lookup b=some o->(b,o)∈l:=fun l=>by
  induction l with
  | nil=>intro e;cases e
  | cons q r ih=>
   intro e
   obtain⟨b',o'⟩:=q
   rw[YBv]at e
   by_cases z:b=b'
   .subst z
    simp at e
    subst e
    exact YAi
   .have z':(b == b')=false:=by simpa using z
    rw[z']at e
    exact YAY _ (ih e)
 have:=h _ (this K e)
 simpa using this
structure TabOf (mg:Str->Option Value)(h:Heap)(n:Str)(c P:Addr):Prop where
 fn:∃a o fd,mg n=some (.ref a)/\h.get? a=some o/\o.data=.func fd/\fd.code=.ref c
 code:h.IsCode c P #[]
 tab:h.TableAt c P #[]
theorem TabOf.codeEq {mg:Str->Option Value}{h:Heap}{n:Str}{c P a:Addr}{o:Obj}{fd:FuncData}(t:TabOf mg h n c P)(e1:mg n=some (.ref a))(e2:h.get? a=some o)(e3:o.data=.func fd):fd.code=.ref c:=by
 obtain⟨a',o',fd',f1,f2,f3,f4⟩:=t.fn
 rw[e1]at f1;cases f1
 rw[e2]at f2;cases f2
 rw[e3]at f3;cases f3
 exact f4
theorem ZiD {P:Program}{w:World}{K:Q44}{mg mb:Str->Option Value}{CX:CXT}{k:Nat}{fa a:Addr}{fd:FuncData}{x:Str}{sp:Sp}{s_1:Shared}{vs:List Value}{ns:List Int}{nms:List Str}{tb:Str->Addr×Addr}
  (KX:K.In s_1.heap) (hns:s_1.heap.Ns mainGlobals mg) (hb:s_1.heap.Ns builtinsNs mb) (hbb:∀x:Str,x≠"__name__"->mb x=bootBuiltins x) (hlim:s_1.heap.NoLimit) (hg:s_1.gens=#[])
  (ha:s_1.heap.get? a=some { cls:=.type "list",data:=.seq vs.toArray }) (hi:IntsAre vs ns) (hl:ns.length<=sizeLine) (hr:Room k callerA)
  (hT:∀n∈nms,TabOf mg s_1.heap n (tb n).1 (tb n).2) (hKt:ZjN K=true) (hbm:∃bm ob,mg "__builtins__"=some (.ref bm)/\bm≠builtinsNs/\s_1.heap.get? bm=some ob/\ob.cls=.type "module"/\ob.dict=some builtinsNs/\ob.data=.plain)
  (F:∀base:Heap,K.In base->base.Ns mainGlobals mg->(∀n∈nms,LamEnv base mg (tb n).1 (tb n).2)->FnOk P w K mg base CX k fa fd [x] sp) (hbind:∀(s:Shared) (u:Value),BindsTo s fd ⟨[u],[]⟩ [(x,u)])
  (hsp:∀H:Hp,(∀n∈nms,H (tb n).2=some (.tbl #[]))->SqL K H a (ns.map V.int)->sp [.ref a] H (fun v _=>v=.bl true) fun _ _ _=>False)
  (hCX:∀H e s',CX [] H s_1 (fun _ _ _=>False) e s'->False):
  codeAny (model P w) callerA (.call (.ref fa) ⟨[.ref a],[]⟩) (fun r s'=>r=.ok (.ret (.bool true))/\OldK s_1.heap s'.heap/\s'.os=s_1.os/\AllBare s'.gens) s_1:=by
 have rv:=Zdj hi
 have lenV:=hi.length
 have hta:∀n∈nms,s_1.heap.get? (tb n).2=some (tabObj #[]):=fun n hn=>(hT n hn).tab.2
 have aP:∀n∈nms,(tb n).2≠a:=fun n hn z=>by
  have e:=hta n hn
  rw[z,ha]at e
  have:=congrArg Obj.cls (Option.some.inj e)
  exact absurd (show Value.type "list"=Value.none from this) (by simp)
 let isP:Addr->Prop:=fun b=>∃n∈nms,(tb n).2=b
 have core:∀H:Hp,SqL K H a (ns.map V.int)->HOk P w H s_1.heap->(∀b,H b≠none->(b=a/\∃o xs,H b=some (.frz o (.lst xs)))\/(isP b/\H b=some (.tbl #[])))->(∀b,isP b->H b=some (.tbl #[]))->(H a≠none->K.lookup a=none) ->
   codeAny (model P w) callerA (.call (.ref fa) ⟨[.ref a],[]⟩) (fun r s'=>r=.ok (.ret (.bool true))/\OldK s_1.heap s'.heap/\s'.os=s_1.os/\AllBare s'.gens) s_1:=by
  intro H hS hok hA hPt hK
  have base_of:∀ {b:Addr} {o:Obj},s_1.heap.get? b=some o->H b=none->(hidT s_1.heap H).get? b=some o:=fun e n=>ZgT e n
  have noT:∀ {b:Addr} {o:Obj},s_1.heap.get? b=some o->o≠tabObj #[]->o.cls≠.type "list"->H b=none:=fun {b o} e n1 n2=>by
   cases q:H b with
   | none=>rfl
   | some u=>
    rcases hA b (by rw[q];simp) with⟨e',_⟩|⟨⟨n,hn,e'⟩,_⟩
    .subst e'
     rw[ha]at e;cases e
     exact absurd rfl n2
    .subst e'
     rw[hta n hn]at e;cases e
     exact absurd rfl n1
  have noA:∀ {b:Addr} {o:Obj} {es:Array DictEntry} {ep:Nat},s_1.heap.get? b=some o->o.data=.dict es ep->H b=none:=fun {b o es ep} e d=>by
   cases q:H b with
   | none=>rfl
   | some u=>
    rcases hA b (by rw[q];simp) with⟨e',_⟩|⟨⟨n,hn,e'⟩,_⟩
    .subst e'
     rw[ha]at e;cases e
     have d':Data.seq vs.toArray _=Data.dict es ep:=d
     cases d'
    .subst e'
     rw[hta n hn]at e;cases e
     cases d
  have nsK:∀ {b:Addr} {m:Str->Option Value},s_1.heap.Ns b m->(hidT s_1.heap H).Ns b m:=fun {b m} ⟨o,es,ep,e,d,r⟩=>⟨o,es,ep,base_of e (noA e d),d,r⟩
  have hKb:K.In (hidT s_1.heap H):=fun b o e=>base_of (KX b o e) (by
   cases q:H b with
   | none=>rfl
   | some u=>
    rcases hA b (by rw[q];simp) with⟨e',_⟩|⟨⟨n,hn,e'⟩,_⟩
    .subst e'
     rw[hK (by rw[q];simp)]at e;cases e
    .subst e'
     have e1:=KX _ _ e
     rw[hta n hn]at e1
     have e2:=Ze8 hKt e
     rw[<-Option.some.inj e1]at e2
     cases e2)
  have hM:Mod K mg (hidT s_1.heap H):=⟨hKb,nsK hns,⟨mb,nsK hb,hbb⟩,let ⟨mc,h1,h2⟩:=hlim;⟨mc,nsK h1,h2⟩⟩
  have e0:Env0 P w K mg (hidT s_1.heap H) callerA [] s_1 H:=⟨rfl,hM,fun b o e=>Ziq e,YCS (Zfm _ _),trivial,fun b hb=>absurd (show b∈([]:List Addr) from hb) (by simp),hok,.of_eq hg⟩
  have hL:∀n∈nms,LamEnv (hidT s_1.heap H) mg (tb n).1 (tb n).2:=fun n hn=>by
   obtain⟨bm,ob,b1,b2,b3,b4,b5,b6⟩:=hbm
   obtain⟨oc,vc,file,tf,flags,tg,inF,text,tt,c1,c2,c3,r⟩:=CodeHd.of (hT n hn).code (hT n hn).tab
   refine⟨⟨oc,vc,file,tf,flags,tg,inF,text,tt,base_of c1 (noT c1 (fun z=>by rw[z]at c2;cases c2) (fun z=>by rw[c2]at z;exact absurd z (by decide))),c2,c3,r⟩,bm,ob,b1,b2,fun z=>?_,fun z=>?_,base_of b3 (noT b3 (fun z=>by rw[z]at b4;cases b4) (fun z=>by rw[b4]at z;exact absurd z (by decide))),b4,b5,b6⟩
   .obtain⟨o,es,ep,e,d,_⟩:=hns
    rw[<-z,b3]at e;cases e
    rw[b6]at d;cases d
   .rw[z,hta n hn]at b3;cases b3
    cases b4
  refine codeAny_mono ((F _ hKb (nsK hns) hL).run callerA [] s_1 H ⟨[.ref a],[]⟩ [.ref a] [.ref a] _ _ hr e0 (hbind s_1 (.ref a)) (.cons rfl .nil) (hsp H (fun n hn=>hPt _ ⟨n,hn,rfl⟩) hS)) fun r s' h=>?_
  cases r with
  | error e=>exact(hCX H e s' h).elim
  | ok fl=>
   cases fl with
   | next=>exact False.elim h
   | brk=>exact False.elim h
   | cont=>exact False.elim h
   | ret u=>
    obtain⟨v,H',os,bare,un,hok',r',q⟩:=h
    have q':v=.bl true:=q
    subst q'
    obtain rfl:u=Value.bool true:=r'
    refine⟨rfl,⟨fun b o e=>?_,fun b o e=>un.there b o e (by simp)⟩,os,bare⟩
    cases q:H b with
    | none=>exact .inl (un.keep b o e q (by intro z;exact absurd (show b∈([]:List Addr) from z) (by simp)) (by simp))
    | some u=>
     rcases hA b (by rw[q];simp) with⟨_,ob,xs,z⟩|⟨⟨n,hn,e'⟩,z⟩
     .have z2:=un.frzs b ob _ z
      obtain⟨e1,_⟩:=hok b _ z
      obtain⟨e2,_⟩:=hok' b _ z2
      rw[e]at e1;cases e1
      exact .inl e2
     .obtain⟨more,z2⟩:=un.tbls b _ z
      have e1:s_1.heap.get? b=some (tabObj #[]):=hok b _ z
      have e2:s'.heap.get? b=some (tabObj (#[]++more)):=hok' b _ z2
      rw[e]at e1;cases e1
      exact .inr (.inl ⟨by rw[<-e'];exact(hT n hn).tab.isCodeTable,rfl,#[],more,rfl,e2⟩)
 cases hk:K.lookup a with
 | some o=>
  have e:=KX a o hk
  rw[ha]at e
  cases e
  haveI:DecidablePred isP:=fun _=>Classical.propDecidable _
  refine core (fun b=>if isP b then some (.tbl #[]) else none) (.inr ⟨_,vs.toArray,_,hk,rfl,rfl,rfl,by rw[YAM,lenV];exact hl,by simpa using rv⟩) (fun b u z=>?_) (fun b z=>?_) (fun b hb=>YAP hb) fun z=>?_
  .by_cases hb:isP b
   .have z':=(YAP hb).symm.trans z
    cases z'
    obtain⟨n,hn,rfl⟩:=hb
    exact hta n hn
   .have z':=(YAL hb).symm.trans z
    cases z'
  .by_cases hb:isP b
   .exact .inr ⟨hb,YAP hb⟩
   .exact absurd (YAL hb) z
  .have:¬isP a:=fun ⟨n,hn,e⟩=>aP n hn e
   exact absurd (YAL this) z
 | none=>
  haveI:DecidablePred isP:=fun _=>Classical.propDecidable _
  refine core (fun b=>if b=a then some (.frz { cls:=.type "list",data:=.seq vs.toArray } (.lst (ns.map V.int))) else if isP b then some (.tbl #[]) else none) (.inl (.inr ⟨{ cls:=.type "list",data:=.seq vs.toArray },YAP rfl⟩)) (fun b u z=>?_) (fun b z=>?_) (fun b hb=>?_) fun _=>hk
  .by_cases hb:b=a
   .have z':=(YAP hb).symm.trans z
    cases z'
    subst hb
    exact⟨ha,by rw[YAB];exact hl,vs,_,rv,ha⟩
   .have z':=(YAL hb).symm.trans z
    by_cases hp:isP b
    .have z2:=(YAP hp).symm.trans z'
     cases z2
     obtain⟨n,hn,rfl⟩:=hp
     exact hta n hn
    .have z2:=(YAL hp).symm.trans z'
     cases z2
  .by_cases hb:b=a
   .exact .inl ⟨hb,_,_,YAP hb⟩
   .by_cases hp:isP b
    .exact .inr ⟨hp,by rw[YAL hb,YAP hp]⟩
    .exact absurd (by rw[YAL hb,YAL hp]) z
  .have nb:b≠a:=by obtain⟨n,hn,rfl⟩:=hb;exact aP n hn
   rw[YAL nb,YAP hb]
theorem walk_ofT {l:PySem.W.OpenLaw}{n k:Nat}{q:Program}{loose:List Str}{XP:(Str->Option Value)->Heap->Prop}{YP:World->Heap->Prop}{d:DefRec}{K:Params->Q44}{CX:CXT}{sp:Q44->(Str->Addr×Addr)->Sp}{x:Str}(nms:List Str)
  (hn:l.most=some n) (hn2:n<=sizeLine) (hdf:d.params.defaults=[]) (hr:Room k callerA)
  (hY:∀(w:World) (h:Heap),YP w h->(K w.params).In h) (hKt:∀P:Params,ZjN (K P)=true) (hnm:(nms.all fun n=>(recsOf q).any fun e=>e.name == n)=true)
  (F:∀(w:World) (mg:Str->Option Value) (fa:Addr) (h:Heap) (tb:Str->Addr×Addr),(K w.params).In h->h.Ns mainGlobals mg->mg d.name=some (.ref fa)->(∀n∈nms,TabOf mg h n (tb n).1 (tb n).2) ->
   ∃fd:FuncData,(∀(s:Shared) (u:Value),BindsTo s fd ⟨[u],[]⟩ [(x,u)]) /\
    ∀base:Heap,(K w.params).In base->base.Ns mainGlobals mg->(∀n∈nms,LamEnv base mg (tb n).1 (tb n).2)->FnOk l.prog w (K w.params) mg base CX k fa fd [x] (sp (K w.params) tb))
  (hsp:∀(K:Q44) (tb:Str->Addr×Addr) (H:Hp) (a:Addr) (ns:List Int),ns.length<=n->(∀n∈nms,H (tb n).2=some (.tbl #[]))->SqL K H a (ns.map V.int)->sp K tb [.ref a] H (fun v _=>v=.bl true) fun _ _ _=>False)
  (hCX:∀(H:Hp) (s:Shared) (e:Value) (s':Shared),CX [] H s (fun _ _ _=>False) e s'->False):
  PySem.W.WalkO q loose XP YP l.row.toRowW d [] (fun f vs=>PySem.call f vs):=by
 refine Att.attach_call hn hdf fun w s_0 s_1 mg mb fa o pm cd doc a vs ns G Y ho hd hcd hmg hobj hints hlen hg=>?_
 have KX:=hY w _ Y
 have ex:∀n:Str,∃cp:Addr×Addr,n∈nms->TabOf mg s_1.heap n cp.1 cp.2:=fun n=>by
  by_cases h:n∈nms
  .rw[YBQ]at hnm
   have:=hnm n h
   rw[YBa]at this
   obtain⟨e,he,en⟩:=this
   have en:e.name=n:=by simpa using en
   obtain⟨a',o',fd',c,P,h1,h2,h3,h4,h5,h6⟩:=G.T.tab e he
   exact⟨(c,P),fun _=>⟨⟨a',o',fd',by rw[<-en];exact h1,h2,h3,h4⟩,h5,h6⟩⟩
  .exact⟨(0,0),fun z=>absurd z h⟩
 obtain⟨tb,htb⟩:=Classical.skolem.mp ex
 obtain⟨fd,hb,hF⟩:=F w mg fa _ tb KX G.T.g hmg htb
 exact ZiD KX G.T.g G.T.b G.T.builtins G.T.nolimit hg hobj hints (YAJ hlen hn2) hr htb (hKt _) G.T.bmain hF hb (fun H hP hS=>hsp (K w.params) tb H a ns hlen hP hS) fun H e s'=>hCX H s_1 e s'
section
variable {P:Program}{w:World}{K:Q44}{mg:Str->Option Value}{base:Heap}
theorem Fun.okC {x qual:Str}{st:Stmt}{f:Addr}{fd:FuncData}{N ps:List Str}{k:Nat}{sp:Sp}{c:Value}(F:Fun K x qual st f fd)(hc:fd.code=c)(S:FnScope N ps (Zaj st))(len:∀vs H Q E,sp vs H Q E->vs.length=ps.length)
  (body:∀(A:Around) (outer:List Env) (s:Shared) (H:Hp) (vs:List V) (Q:VK) (E:XK),Room k (A.deeper (envOfC qual (Zaj st) s.heap.objs.size f c))->sp vs H Q E ->
   ∃t,PSs (cxOf CX0 P w K mg base N qual (Zaj st) f c A outer s H E).nox (ZbI st) t/\t { nx:=fun _ H'=>Q .non H',rt:=Q } (start N vs) H):FnOk P w K mg base CX0 (k+1) f fd ps sp:=by
 obtain⟨⟨oc,od,kV,doc,pm,an,cdv,ct,osl,rfl,l,cc⟩,_⟩:=F
 obtain rfl:cdv=c:=hc
 refine ZnN l cc S len fun A outer s H vs Q E hr hsp=>?_
 obtain⟨t,h,q⟩:=body A outer s H vs Q E hr hsp
 exact⟨t,h.nox,q⟩
theorem Fun.at {x qual:Str}{st:Stmt}{f:Addr}{fd:FuncData}{h:Heap}(F:Fun K x qual st f fd)(KX:K.In h):∃o,h.get? f=some o/\o.data=.func fd:=by
 obtain⟨⟨oc,od,kV,doc,pm,an,cdv,ct,osl,rfl,l,cc⟩,_⟩:=F
 exact⟨_,KX _ _ l,rfl⟩
end
end L2
namespace L2
open PySem PySem.Spec PyProof.Rows PySem.Builtin.Str
section
variable {X:Cx}
end
end L2
namespace L2
open PySem PySem.Spec PyProof.Rows
section
variable {X:Cx}{tg:Expr}
end
section
variable {X:Cx}{pins:List (Addr×Obj)}{U:St}{H:Hp}{s:Shared}{a:Addr}{kvs:List (Key×V)}{k:Key}{v:V}{u w:Value}{A:Around}{E:Q33}
theorem Zfv {Q:Q33}(I:Inv X pins U H s)(e:H a=some (.dK kvs))(ry:RelV (kV k) u)(rv:RelV v w)(hz:kvs.length<sizeLine)
  (h1:∀x w' s',valV kvs k=some x->RelV x w'->Inv X pins U H s'->Q w' s') (h2:valV kvs k=none->∀s',Inv X pins U (upd H a (.dK (putK kvs k v))) s'->Q w s'):
  wpAny (model X.prog X.w) A (call (.builtin "dict.setdefault") [.ref a,u,w]) Q E s:=by
 obtain⟨z,hd,vs,rel,dd⟩:=ZhE I.hok e
 refine call_meetsIn PySem.F.slot_dict_setdefault dd.typeIs PySem.F.entry_dict_setdefault (PySem.F.args_dict_setdefault_3 _ _ _) (kt_meets_setdefault (Zaq X.prog X.w) a (ZdE ry) hd w) ⟨vs,dd,by rw[<-rel.length];exact z,fun x hx=>?_,fun hn h' dd' hs=>?_⟩
 .have r:=rel.val k
  rw[hx]at r
  cases hv:valV kvs k with
  | none=>rw[hv]at r;exact(by cases r)
  | some y=>rw[hv]at r;exact h1 y x _ hv (by first | exact r | cases r;assumption) (I.tok _)
 .have r:=rel.val k
  rw[hn]at r
  have hv:valV kvs k=none:=by
   cases hv:valV kvs k with
   | none=>rfl
   | some y=>rw[hv]at r;exact(by cases r)
  have he:∃q,h'.get? a=some q:=let ⟨q,_,_,hq,_⟩:=dd';⟨q,hq⟩
  have hl:(putK kvs k v).length<=sizeLine:=by have:=ZaK kvs k v;omega
  exact h2 hv _ (ZcU I (by rw[e];exact True.intro) hs he (Zeb hl hd (rel.put k rv) dd'))
def Zmo (td ty tx:TE):TE:=fun U H Q=>td U H fun x H1=>∃a,x=.ref a/\IsD H1 a/\ty U H1 fun y H2=>tx U H2 fun z H3=>∃kvs k,H3 a=some (.dK kvs)/\y=kV k/\kvs.length<sizeLine /\
 (∀v,valV kvs k=some v->Q v H3)/\(valV kvs k=none->Q z (upd H3 a (.dK (putK kvs k z))))
theorem ZdR {o e f:Expr} {td ty tx:TE} {apos cpos:Pos} (ho:PE X o td) (he:PE X e ty) (hf:PE X f tx) (m:M2 X o "setdefault" apos e f cpos):PE X (.Call (.Attribute o "setdefault" apos) [e,f] [] cpos) (Zmo td ty tx):=by
 intro pins s U H Q I h
 refine YDZ m.base m.few m.line YCm PySem.F.slot_dict_setdefault PySem.F.type_dict_setdefault (thn (ho pins s U H _ I h) fun u s1 ⟨x,H1,I1,rx,a,ex,d,q1⟩=>?_)
 subst ex
 obtain rfl:u=Value.ref a:=rx
 obtain⟨t1,t2,_⟩:=ZiS I1 d
 refine⟨t1,t2,?_⟩
 rw[m.trees]
 refine YCU rfl (YDK (YBe (thn (he pins s1 U H1 _ I1 q1) fun iv s2 ⟨y,H2,I2,ry,q2⟩=>
  YBe (thn (hf pins s2 U H2 _ I2 q2) fun fv s3 ⟨z,H3,I3,rz,kvs,k,ea,ey,hz,q3,q4⟩=>YCR ?_))))
 subst ey
 exact Zfv I3 ea ry rz hz (fun x w' s' hv r I4=>⟨x,H3,I4,r,q3 x hv⟩) fun hn s' I4=>⟨z,_,I4,rz,q4 hn⟩
end
end L2
namespace PySem
section
variable {prog:Program}{w:World}{K:Type}[DecidableEq K]{knd:HeapKind prog w K}{A:Around}{E:Q33}{s:Shared}
end
end PySem
namespace L2
open PySem PySem.Spec PyProof.Rows
section
variable {X:Cx}{pins:List (Addr×Obj)}{U:St}{H:Hp}{s:Shared}{a b:Addr}{kvs:List (List Key×V)}{k:List Key}{v:V}{w:Value}{A:Around}{E:Q33}
end
end L2
namespace L2
open PySem PySem.Spec PyProof.Rows PySem.W
section
variable {prog:Program}{w:World}{A:Around}{E:Q33}{s:Shared}
theorem ZfT {a g:Addr}{ls:List (Key×Value)}{ep:Nat}{kf:Value->Int×Q11}{Q:Q33}(hh:A.in1.handled=none)(hd:(a == sysModules)=false)(eo:s.heap.DictAt (Zaq prog w) a ls ep)
  (hc:∀its,Vals (ls.map fun p=>kV p.1) its->KeyCall (model prog w) A.in1.in1 g its kf s) (hN:ls.length<=sizeLine)
  (h:∀(s':Shared) (r:Addr) (its us:List Value) (e:Nat),Vals (ls.map fun p=>kV p.1) its->s.heap.get? r=none->Kp s.heap s'.heap->s'.gens=s.gens->s'.os=s.os->s'.heap.get? r=some (seqObj "list" us.toArray e)->us.Perm its->us.Pairwise (fun x y=>ltP (kf y) (kf x)=false)->Q (.ref r) s'):
  wpAny (model prog w) A (call (.builtin "sorted") [.ref a] [(Str.ofString "key",.ref g)]) Q E s:=by
 refine call_function_entry_kw kind_sorted plain_sorted entry_sorted (Zb6 _ _) ?_
 unfold Builtin.«sorted»
 refine YAA (m:=checkCount "sorted" 1 1 _) (YAF ?_)
 refine YAA (Zfz hh hd eo hN fun s1 its k1 g1 o1 hv=>?_)
 have hl:its.length<=sizeLine:=by have:=hv.length;rw[YAB]at this;omega
 have nw:s.heap.get? s1.heap.objs.size=none:=by
  cases z:s.heap.get? s1.heap.objs.size with
  | none=>rfl
  | some o=>exact absurd (YAN (k1 _ _ z)) (YAz _)
 refine YAA (YDL ?_ hl)
 have hoL:(s1.heap.push (seqObj "list" its.toArray 0)).get? s1.heap.objs.size=some (seqObj "list" its.toArray 0):=YAO _ rfl
 refine YAA (YBM (wpAny_call_entry_kw slot_list_sort ⟨_,hoL,rfl⟩ entry_list_sort (ZdY (s0:=s) (hc its hv) (fun b o e=>YAC _ (k1 b o e)) g1 o1 nw hoL hl fun s' us e k2 e1 e2 e3 e4 e5=>⟨_,rfl,?_⟩) (ZbD _ _)))
 exact YAF ⟨_,rfl,h s' _ its us e hv nw k2 e1 e2 e3 e4 e5⟩
end
def ZhW (P:Addr)(lpos:Pos)(q:Str)(ta:TA):TE:=fun U H Q=>ta U H fun vs H1=>∃(a:Addr) (kvs:List (Key×V)) (ws:Q22),vs=[.ref a]/\H1 a=some (.dK kvs)/\kvs.map (·.1)=ws.map kTx/\(∀w∈ws,w.length<=sizeLine)/\TblOk H1 P lpos q /\
 ∀(ws':Q22) (r:Addr) (H2:Hp),ws'.Perm ws->ws'.Pairwise (fun a b=>¬BefW b a)->SameT lpos H1 H2->TblOk H2 P lpos q->H1 r=none->H2 r=some (.lst (ws'.map tx))->Q (.ref r) H2
section
variable {X:Cx}{e:Expr}{ta:TA}{p pos kpos lpos p1 p2 p3 p4 p5:Pos}{k kk:Nat}{c P:Addr}{params:Arguments}{scope:Scope}{x q:Str}
theorem Zih (hr:Room k X.A) (hcm:X.calm=true) (L:LamEnv X.base X.mg c P) (hcode:X.env.code=.ref c) (hg:Gl X "sorted") (hm:X.mg "sorted"=none) (hlen:X.mg "len"=none) (ha:PA X [e] ta) (hcl:closureFor scope X.env=pure []) (hdef:defaultsOf params X.env=([],[])) (hq:X.env.qual++"<lambda>"=q)
  (S:LamSc scope x) (hb:∀(s:Shared) (u pm cv ctv:Value),BindsTo s (kla_fn "<lambda>" q params (Zb1 x p1 p2 p3 p4 p5 kk) scope [] pm cv ctv) ⟨[u],[]⟩ [(x,u)])
  (he:backTo pos (starEach [e] X.env)=(false,eval e X.env)::backTo pos (starEach [] X.env):=by rfl) (hpl:(backTo pos (starEach [e] X.env)).any (·.1)=false:=by rfl):
  PE X (.Call (.Name "sorted" p) [e] [⟨some "key",.Lambda params (Zb1 x p1 p2 p3 p4 p5 kk) scope lpos,kpos⟩] pos) (ZhW P lpos q ta):=by
 intro pins s U H Q I h
 refine YBu (Zcy I hg hm Zef ?_)
 refine PyProof.Rows.callWith_kw (thn (ha pos pins s U H _ I h) fun us s1 ⟨vs,H1,I1,r1,q1⟩=>?_) he hpl
 obtain⟨a,kvs,ws,rfl,hH,hkw,hw,T,q⟩:=q1
 show wpAny _ _ (evalAll ((do let v <-eval (.Lambda params (Zb1 x p1 p2 p3 p4 p5 kk) scope lpos) X.env;standAt pos;pure v)::[])) _ _ s1
 refine wpAny_evalAll_cons (YAA (Zfe I1 L hcode hcl hdef hq T fun g H2 s2 cv ctv pm sl T2 fr I2 ho hcd=>YAA (wpAny_standAt (YAF (wpAny_evalAll_nil ?_)))))
 obtain⟨u,rfl,ru⟩:=r1.one
 cases ru
 have hH2:=sl.1 _ _ hH rfl
 obtain⟨z,y,vs,rr,o,es,ep,eo⟩:=(Rd.of hH2).ok I2.hok
 have hm2:s2.heap.DictAt (Zaq X.prog X.w) a vs ep:=⟨o,es,eo⟩
 have ev:(vs.map fun p=>kV p.1)=ws.map tx:=by
  have e1:(vs.map fun p=>kV p.1)=(vs.map (·.1)).map kV:=by rw[YBB];rfl
  rw[e1,<-rr.keys,hkw,YBB]
  rfl
 have hN:vs.length<=sizeLine:=by rw[<-rr.length];exact z
 obtain⟨mb,b1,b2⟩:=I2.mod.blt
 have key:=fun (its:List Value) (hv:Vals (vs.map fun p=>kV p.1) its)=>ZiF (prog:=X.prog) (w:=X.w) (A:=X.A.in1.in1) (vs:=its) ho rfl hcd S (fun s u=>hb s u pm cv ctv) (show X.A.depth<recursionLimit by have:=hr.dp;omega) (I2.mod.nolimit.keeps I2.bk) (I2.mod.glob.keeps I2.bk) hlen (b1.keeps I2.bk) (b2 _ (by decide)) (fun v hvm=>by
  rw[ev]at hv
  obtain⟨ew,hs⟩:=Zeg hv
  obtain⟨y,t,e1,e2⟩:=hs v hvm
  exact⟨y,t,e1,by rw[e2];exact hw _ (by rw[ew];exact YBj hvm)⟩)
 refine ZfT (by first | exact I2.ok.hd hcm | simpa using I2.ok.hd hcm) y hm2 key hN fun s' r' its us e hv nr kp g1 o1 er pm2 pw=>?_
 rw[ev]at hv
 obtain⟨ew,hs⟩:=Zeg hv
 have hs2:∀v∈us,∃y t,v=.str y t/\y.length=(txV v).length:=fun v hv=>hs v (pm2.mem_iff.mp hv)
 have rv:Vals ((us.map txV).map tx) us:=ZcL us fun v hv=>let ⟨y,t,e,_⟩:=hs2 v hv;⟨y,t,e⟩
 have hl2:us.length=its.length:=pm2.length_eq
 have hl3:its.length=vs.length:=by have h1:=hv.length;rw[<-ev,YAB]at h1;omega
 have fr':H1 r'=none:=fr _ (I2.hok.none_of nr)
 have J:=I2.laid2 (s':=s') (a:=r') (o:=.lst ((us.map txV).map tx)) o1 g1 kp nr ⟨by rw[YAB,YAB];omega,us,e,rv,er⟩
 have hr2:=I2.hok.none_of nr
 refine⟨.ref r',_,J,rfl,q (us.map txV) r' _ (by rw[ew];exact pm2.map _) ?_ (sl.then (Zap hr2)) (T2.same (Zap hr2)) fr' Zad⟩
 rw[YBm]
 refine pw.imp_of_mem fun {y z} hy hz e=>?_
 rw[<-ZiC]
 obtain⟨y1,t1,e1,e2⟩:=hs2 y hy
 obtain⟨z1,t2,e3,e4⟩:=hs2 z hz
 subst e1 e3
 have f1:kfT (.str y1 t1)=((((txV (.str y1 t1)).length:Nat):Int),txV (.str y1 t1)):=by rw[<-e2];rfl
 have f2:kfT (.str z1 t2)=((((txV (.str z1 t2)).length:Nat):Int),txV (.str z1 t2)):=by rw[<-e4];rfl
 rw[f1,f2]at e
 exact e
end
section
variable {X:Cx}{o:Expr}{td:TE}{p pos ap cp:Pos}
end
end L2
namespace L2
open PySem PySem.Spec PyProof.Rows
section
variable {X:Cx}{es:List Expr}{x1:Nat}{tp:Pos}
end
end L2
namespace L2
open PySem PySem.Spec PyProof.Rows PySem.W
theorem KV.getV {kvs:List (Key×V)}{vs:List (Key×Value)}(r:KV kvs vs):∀ {i:Nat} {p:Key×V},kvs[i]?=some p->∃v,vs[i]?=some (p.1,v)/\RelV p.2 v:=by
 induction r with
 | nil=>intro i p h;simp at h
 | cons hd _ ih=>
  intro i p h
  cases i with
  | zero=>
   rename_i p0 q0 _ _ _
   have h:p0=p:=by simpa using h
   subst h
   exact⟨q0.2,by show some q0=some (p0.1,q0.2);rw[hd.1],hd.2⟩
  | succ i=>
   obtain⟨v,h1,h2⟩:=ih (by simpa using h)
   exact⟨v,by simpa using h1,h2⟩
noncomputable def Itv (o:Obj)(kvs:List (Key×V))(a:Addr):It:=
 ⟨fun i H=>H a=some (.frz o (.dK kvs))/\i<kvs.length,fun i H x H'=>H'=H/\∃p,kvs[i]?=some p/\x=p.2,fun i H=>H a=some (.frz o (.dK kvs))/\kvs.length<=i⟩
theorem ZfO {P:Program}{w:World}{K:Q44}{tg:Expr}{o:Obj}{es:Array DictEntry}{ep:Nat}{kvs:List (Key×V)}(a it:Addr)(hd:o.data=.dict es ep):Turn P w K tg (Itv o kvs a) [it] it (fun i h=>h.IsValIter it a i kvs.length ep) where
 mem:=by simp
 obj:=fun i h st b hb=>by
  have e:b=it:=by simpa using hb
  subst e
  obtain⟨o,e,c,d⟩:=st
  exact⟨o,e,fun v z=>by rw[d]at z;cases z⟩
 keep:=fun i h h' st k=>let ⟨o,ho,r⟩:=st;⟨o,k it (by simp) o ho,r⟩
 item:=by
  intro X hP hw hK hc i pins s U H E I hf st hg
  subst hP hw hK
  obtain⟨ha,hi⟩:=hg
  obtain⟨e,z,y,vs,r,o',es',ep',e',c1,c2,c3⟩:=I.hok a _ ha
  rw[e]at e'
  cases e'
  rw[hd]at c2
  cases c2
  obtain⟨v,hv,rv⟩:=KV.getV r (YAG hi)
  obtain⟨f0,f1,f2,f3,f4,f5⟩:=hf it (by simp)
  rw[r.length]at st
  refine wpAny_pyNext_values_item st ⟨o,es,e,c1,hd,c3⟩ hv fun h' st' sb=>?_
  have I1:Inv X pins U H { s with heap:=h' }:=I.turned (t':=s.toks) (fun b o hb e=>(sb.2 b hb).trans e) f0 f1 f3 f4 f5
  obtain⟨oi,ei,ci,di⟩:=id st'
  rw[<-r.length]at st'
  exact⟨v,rfl,ZiX (s:={ s with heap:=h' }) ei ci di (by decide) ⟨kvs[i].2,H,I1,rv,⟨rfl,_,YAG hi,rfl⟩,st',fun b hb=>(hf b hb).1⟩⟩
 done:=by
  intro X hP hw hK hc i pins s U H E I hf st hg
  subst hP hw hK
  obtain⟨ha,hi⟩:=hg
  obtain⟨e,z,y,vs,r,o',es',ep',e',c1,c2,c3⟩:=I.hok a _ ha
  rw[e]at e'
  cases e'
  rw[hd]at c2
  cases c2
  obtain⟨f0,f1,f2,f3,f4,f5⟩:=hf it (by simp)
  rw[r.length]at st hi
  exact wpAny_pyNext_values_end (I.ok.hd hc) st ⟨o,es,e,c1,hd,c3⟩ (YBG hi) fun h' eb=>⟨rfl,I.turned (t':=s.toks) (fun b o hb e=>eb b o hb e) f0 f1 f3 f4 f5⟩
 self:=fun _ _ _ _ _ st h=>wpAny_pyIter_valiter st h
section
variable {X:Cx}{tg:Expr}{o:Expr}{td:TE}{ap cp:Pos}
def ZnD (td:TE):TI:=fun U H R=>td U H fun x H1=>∃a kvs,x=.ref a/\H1 a=some (.dK kvs)/\∀o,R (Itv o kvs a) (upd H1 a (.frz o (.dK kvs)))
theorem Zif (ho:PE X o td) (hbase:attributeBase o "values" X.env (eval o X.env)=eval o X.env:=by rfl) (hline:(ap.endLine == cp.line)=true:=by rfl):PI X tg (.Call (.Attribute o "values" ap) [] [] cp) (ZnD td):=by
 intro pins s U H R I h
 refine YDZ (T:="dict") (id:="dict.values") hbase rfl hline YCm PySem.F.slot_dict_values PySem.F.type_dict_values (thn (ho pins s U H _ I h) fun u s1 ⟨x,H1,I1,rx,a,kvs,ex,ha,q⟩=>?_)
 subst ex
 obtain rfl:u=Value.ref a:=rx
 obtain⟨hz,hd,vs,r,dd⟩:=ZhE I1.hok ha
 obtain⟨ob,es,ep,e1,e2,e3,e4⟩:=id dd
 refine⟨dd.typeIs,fun b z=>?_,?_⟩
 .cases z
  exact⟨ob,e1,e2.2.1⟩
 refine method_meetsIn PySem.F.slot_dict_values PySem.F.entry_dict_values rfl (PySem.evalArgs_none ⟨rfl,dd.typeIs,PySem.F.args_dict_values_1 _,_,meets_dict_values _ a hd,⟨vs,dd⟩,?_⟩)
 obtain⟨o2,es2,ep2,hd2,ho2,I2⟩:=I1.freezeD ha
 rw[e1]at ho2
 cases ho2
 rw[e3]at hd2
 cases hd2
 generalize hg2:s1.heap.push { cls:=.type "dict_values",data:=.fields #[.ref a] }=g2
 have k2:∀b o,s1.heap.get? b=some o->g2.get? b=some o:=fun b o e=>by rw[<-hg2];exact YAC _ e
 have vw:g2.IsValuesView s1.heap.objs.size a:=⟨_,by rw[<-hg2];exact YAO _ rfl,rfl,rfl⟩
 have I3:Inv X pins U (upd H1 a (.frz ob (.dK kvs))) { s1 with heap:=g2 }:=I2.kept (t':=s1.toks) k2
 refine wpAny_pyIter_values (s:={ s1 with heap:=g2 }) vw (show g2.DictAt (Zaq X.prog X.w) a vs ep from⟨ob,es,k2 _ _ e1,e2,e3,e4⟩) ?_
 refine⟨g2.objs.size,[g2.objs.size],_,_,_,rfl,I3.kept (t':=s1.toks) fun b o e=>YAC _ e,ZfO (kvs:=kvs) a _ e3,⟨_,YAO _ rfl,rfl,by rw[r.length];rfl⟩,fun b hb=>?_,q ob⟩
 have e:b=g2.objs.size:=by simpa using hb
 subst e
 exact I3.fpOk (YAH _) (I3.hok.fresh (YAH _))
variable {els:List Expr}{x1:Nat}{tp:Pos}
end
section
variable {g:TG}{tb:TS}{D:Ends}{U:St}{H:Hp}{o:Obj}{kvs:List (Key×V)}{a:Addr}
end
section
variable {Q:VK}{τ0:St}{H:Hp}{o:Obj}{kvs:List (Key×V)}{a:Addr}{te:TE}
end
end L2
namespace PySem
noncomputable def RawD (h:Heap) (d:Addr) (es:Array DictEntry) (ep:Nat):Prop:=∃o,h.get? d=some o/\o.ExactDict/\o.data=.dict es ep
section
variable {prog:Program}{w:World}{A:Around}{E:Q33}{s:Shared}{d v it i ep:Nat}{es:Array DictEntry}
theorem RawD.at {h h':Heap}(x:RawD h d es ep)(e:∀o,h.get? d=some o->h'.get? d=some o):RawD h' d es ep:=let ⟨o,ho,r⟩:=x;⟨o,e _ ho,r⟩
end
end PySem
namespace L2
open PySem PySem.Spec PyProof.Rows PySem.W
theorem KT.at {H:Hp}{kvs:List (List Key×V)}{xs:List (List Key×Addr×Value)}(r:KT H kvs xs):∀(i:Nat) (x:List Key×V) (u:List Key×Addr×Value),kvs[i]?=some x->xs[i]?=some u->RelV x.2 u.2.2:=by
 induction r with
 | nil=>intro i x u h;simp at h
 | cons hd _ ih=>
  intro i x u h1 h2
  cases i with
  | zero=>
   have e1:=Option.some.inj h1
   have e2:=Option.some.inj h2
   rw[<-e1,<-e2]
   exact hd.2.2
  | succ i=>exact ih i x u (by simpa using h1) (by simpa using h2)
section
variable {X:Cx}{o:Expr}{td:TE}{p pos ap cp:Pos}
end
end L2
namespace L2
open PySem PySem.Spec PyProof.Rows
section
variable {tt:TT}{te:TE}{Q:VK}{τ0:St}{H:Hp}{o:Obj}{kvs:List (Key×V)}{a:Addr}
theorem CompRun.keys (b:Nat->Bool)(f:Nat->V)(hz:kvs.length<=100000)(hx:H a=some (.frz o (.dK kvs)))
  (ht:∀i p H' Q',kvs[i]?=some p->Same H H'->(∀H'',Same H' H''->Q' (b i) H'')->tt (τ0.set 0 (some (kV p.1))) H' Q')
  (he:∀i p H' Q',kvs[i]?=some p->b i=true->Same H H'->(∀H'',Same H' H''->Q' (f i) H'')->te (τ0.set 0 (some (kV p.1))) H' Q')
  (hQ:∀p H',Same H H'->H p=none->H' p=some (.lst (((List.range kvs.length).filter b).map f))->Q (.ref p) H'):CompRun (Itd o kvs a) τ0 (ZbX 0) tt te H Q:=by
 intro acc ha
 refine⟨fun i m τ H2=>i<=kvs.length/\m=kvs.length-i/\(∀w:Option V,τ.set 0 w=τ0.set 0 w)/\Same H H2/\H2 acc=some (.lst (((List.range i).filter b).map f)),⟨kvs.length,YAq _,rfl,fun _=>rfl,Zap ha,Zad⟩,?_⟩
 rintro i m τ H2 ⟨hi,rfl,hτ,hs,hacc⟩
 by_cases hlt:i<kvs.length
 .refine .inr ⟨⟨hs _ _ hx,hlt⟩,fun τ' H'=>(∀w:Option V,τ'.set 0 w=τ0.set 0 w)/\Same H H'/\H' acc=some (.lst (((List.range (i+1)).filter b).map f)),fun τ' H' q=>⟨kvs.length-(i+1),by omega,hlt,rfl,q⟩,fun x H3 y=>?_⟩
  obtain⟨rfl,p,hp,rfl⟩:=y
  show tt (τ.set 0 (some (kV p.1))) _ _
  rw[hτ]
  have hτ':∀w:Option V,(τ0.set 0 (some (kV p.1))).set 0 w=τ0.set 0 w:=fun w=>by rw[YCz]
  refine ht i p _ _ hp hs fun H4 s4=>?_
  cases hb:b i with
  | false=>
   rw[YAL YAD]
   refine⟨hτ',hs.trans s4,?_⟩
   rw[s4 _ _ hacc,YBX,YBV]
   simp[hb]
  | true=>
   rw[YAP rfl]
   refine he i p _ _ hp hb (hs.trans s4) fun H5 s5=>⟨_,s5 _ _ (s4 _ _ hacc),?_,hτ',same_upd3' ha ((hs.trans s4).trans s5),?_⟩
   .rw[YAB]
    have:=YAe b (List.range i)
    rw[YBD]at this
    rw[sizeLine_eq];omega
   .rw[Zad,YBX,YBV]
    simp[hb]
 .have e:i=kvs.length:=by omega
  subst e
  exact .inl ⟨⟨hs _ _ hx,YAH _⟩,hQ acc H2 hs ha hacc⟩
end
section
variable {te:TE}{Q:VK}{τ0:St}{H:Hp}
end
end L2
namespace L2
open PySem PySem.W
def DG (K:Frag)(x:Str)(s:Stmt)(f:Addr)(e:FuncData):Prop:=nsIn K mainGlobals x=some (some (.ref f))/\Fun K x x s f e
def MG (K:Frag)(x q:Str)(s:Stmt)(f:Addr)(e:FuncData):Prop:=Fun K x q s f e/\PySem.W.isFn K (.ref f)=true
structure XG (K:Frag)(x:Str)(C:Addr)(L:List Value):Prop where
 a:nsIn K mainGlobals x=some (some (.ref C))
 m:Xm K C
 i:Xi K C
 k:ClsOk K C L
theorem dg_mk {K:Frag}{x:Str}{st:Stmt}{f:Addr}{oc:Value}{od an:Option Addr}{osl:Array (Option Value)}{kV doc pm cdv ct:Value}(a:nsIn K mainGlobals x=some (some (.ref f)))(l:K.lookup f=some ⟨oc,od,.func (PySem.W.fnOf x x (Zb2 st) (ZbI st) (Zaj st) .none kV doc pm an cdv ct),osl⟩)
  (c:PySem.W.codeIn K cdv x=true) (k:PySem.W.keepIn K (.ref f)=true):DG K x st f (PySem.W.fnOf x x (Zb2 st) (ZbI st) (Zaj st) .none kV doc pm an cdv ct):=⟨a,ZkJ l c k⟩
theorem mg_mk {K:Frag}{x q:Str}{st:Stmt}{f:Addr}{oc:Value}{od an:Option Addr}{osl:Array (Option Value)}{kV doc pm cdv ct:Value}(l:K.lookup f=some ⟨oc,od,.func (PySem.W.fnOf x q (Zb2 st) (ZbI st) (Zaj st) .none kV doc pm an cdv ct),osl⟩)
  (c:PySem.W.codeIn K cdv q=true) (k:PySem.W.keepIn K (.ref f)=true) (n:PySem.W.isFn K (.ref f)=true):MG K x q st f (PySem.W.fnOf x q (Zb2 st) (ZbI st) (Zaj st) .none kV doc pm an cdv ct):=⟨ZkJ l c k,n⟩
end L2
namespace L2
open PySem PySem.Spec PyProof.Rows
structure PAz (X:Cx)(es:List Expr)(t:TA):Prop where
 h:PA X es t
noncomputable instance (l w:Q11) (i:Nat):Decidable (AtW l w i):=by unfold AtW;infer_instance
noncomputable def ZkL (l:Q11):Q11:=(List.range (l.length+1)).filter fun i=>decide (∀j,j<i->¬AtW l (l.drop i) j)
noncomputable def Zlb (l w:Q11):Q11:=((ZkL l).filter fun i=>decide (AtW l w i)).map (· + w.length)
theorem Zdd {α:Type}[DecidableEq α]:∀(l m:List α),l.Nodup->(∀x∈l,x∈m)->l.length<=m.length
 | [],m,_,_=>YAq _
 | x::l,m,nd,h=>by
  have hx:=h x YAi
  have nd':=YBf.mp nd
  have:=Zdd l (m.erase x) nd'.2 fun y hy=>(List.mem_erase_of_ne (fun e=>by rw[e]at hy;exact nd'.1 hy)).mpr (h y (YAY _ hy))
  rw[List.length_erase_of_mem hx]at this
  have pos:0<m.length:=List.length_pos_of_mem hx
  rw[YAk]
  omega
theorem Rd.same {H H':Hp}{a:Addr}{u:HO}(h:Rd H a u)(s:Same H H'):Rd H' a u:=h.elim (fun h=>.inl (s _ _ h)) fun ⟨o,h⟩=>.inr ⟨o,s _ _ h⟩
section
variable {prog:Program}{w:World}{A:Around}{E:Q33}{s:Shared}
end
section
variable {prog:Program}{w:World}{A:Around}{E:Q33}{s:Shared}
end
section
variable {X:Cx}
end
end L2
namespace L2
open PySem PySem.Spec PyProof.Rows PySem.W
theorem Zig {X:Cx}{K:Frag}{es:List Expr}{k:Nat}{t:TGs}{pos:Pos}(n:Nat)(hK:X.K=K)(hc:X.calm=true)(h:PGs X es t)(hn:(assignEach es X.env).length=n:=by rfl)(hst:(assignEach es X.env).findIdx? (·.1)=none:=by rfl):PG X (.Tuple es k pos) (gTup K n t):=by
 subst hK
 exact Ze3 hc h hn hst
section
variable {te:TE}{Q:VK}{τ0:St}{H:Hp}{K:Frag}{a:Addr}{xs:List V}
theorem CompRun.pairs (u v f:Nat->V)(hz:xs.length<=100000)(hx:SqL K H a xs)(hp:∀i,i<xs.length->∃t,xs[i]?=some (.ref t)/\H t=some (.tup [u i,v i]))
  (he:∀i H' Q' (h:i<xs.length),Same H H'->(∀H'',Same H' H''->Q' (f i) H'')->te ((τ0.set 0 (some (u i))).set 1 (some (v i))) H' Q')
  (hQ:∀p H',Same H H'->H p=none->H' p=some (.lst ((List.range xs.length).map f))->Q (.ref p) H'):CompRun (Itl K a) τ0 (gTup K 2 (Zj7 (ZbX 0) (Zj7 (ZbX 1) gNil))) tAll te H Q:=by
 intro acc ha
 refine⟨fun i m τ H2=>i<=xs.length/\m=xs.length-i/\(∀w z:Option V,(τ.set 0 w).set 1 z=(τ0.set 0 w).set 1 z)/\Same H H2/\H2 acc=some (.lst ((List.range i).map f)),⟨xs.length,YAq _,rfl,fun _ _=>rfl,Zap ha,Zad⟩,?_⟩
 rintro i m τ H2 ⟨hi,rfl,hτ,hs,hacc⟩
 by_cases hlt:i<xs.length
 .refine .inr ⟨⟨xs,xs[i],hs.seq hx,by simp[hlt]⟩,fun τ' H'=>(∀w z:Option V,(τ'.set 0 w).set 1 z=(τ0.set 0 w).set 1 z)/\Same H H'/\H' acc=some (.lst ((List.range (i+1)).map f)),fun τ' H' q=>⟨xs.length-(i+1),by omega,hlt,rfl,q⟩,fun x H3 y=>?_⟩
  obtain⟨rfl,y⟩:=y
  obtain⟨t,ht,hT⟩:=hp i hlt
  have ex:x=.ref t:=Option.some.inj ((y xs (hs.seq hx)).symm.trans ht)
  subst ex
  refine⟨t,[u i,v i],rfl,.mk (hs _ _ hT),rfl,u i,[v i],rfl,v i,[],rfl,rfl,?_⟩
  unfold tAll
  dsimp only
  rw[YAP rfl,hτ]
  have hτ':∀w z:Option V,((((τ0.set 0 (some (u i))).set 1 (some (v i))).set 0 w).set 1 z)=(τ0.set 0 w).set 1 z:=fun w z=>by
   rw[List.set_comm (some (v i)) w (show (1:Nat)≠0 by decide),YCz,YCz]
  refine he i _ _ hlt hs fun H5 s5=>⟨_,s5 _ _ hacc,by rw[YAB,YBD,sizeLine_eq];omega,hτ',same_upd3' ha (hs.trans s5),?_⟩
  rw[Zad,YBX,YBA]
  rfl
 .have e:i=xs.length:=by omega
  subst e
  exact .inl ⟨⟨xs,hs.seq hx,YAH _⟩,hQ acc H2 hs ha hacc⟩
end
end L2
namespace L2
open PySem PySem.Spec PyProof.Rows
open PySem.W (Frag)
section
variable {X:Cx}{es:List Expr}{x1:Nat}{tp:Pos}
end
def Zcq (t:TS):TS:=t
theorem Zaf {X:Cx}{st:List Stmt}{t:TS}(h:PSs X st t):PSs X st (Zcq t):=h
theorem Zai {t:TS}{D:Ends}{U:St}{H:Hp}(h:t D U H):Zcq t D U H:=h
section
variable {X:Cx}
end
def Chg (S:List Addr)(H H':Hp):Prop:=∀b o,H b=some o->b∉S->ZdG o=false->H' b=some o
theorem SameL.chg {S:List Addr}{H H':Hp}(s:SameL H H'):Chg S H H':=fun b o e _ t=>s b o e t
theorem Same.chg {S:List Addr}{H H':Hp}(s:Same H H'):Chg S H H':=fun b o e _ _=>s b o e
theorem Chg.refl {S:List Addr}(H:Hp):Chg S H H:=fun _ _ e _ _=>e
theorem Chg.trans {S:List Addr}{H H1 H2:Hp}(a:Chg S H H1)(b:Chg S H1 H2):Chg S H H2:=fun c o e n t=>b c o (a c o e n t) n t
theorem Chg.upd {S:List Addr}{H:Hp}{a:Addr}{o:HO}(h:a∈S):Chg S H (upd H a o):=fun b u e n _=>by
 rw[Zac (show b≠a from fun z=>n (by rw[z];exact h))];exact e
theorem Chg.mono {S S':List Addr}{H H':Hp}(h:Chg S H H')(k:∀b∈S,b∈S'):Chg S' H H':=fun b o e n t=>h b o e (fun z=>n (k b z)) t
theorem Chg.l {H H':Hp}(h:Chg [] H H'):SameL H H':=fun b o e t=>h b o e (by simp) t
def Nw (H:Hp)(r:Addr):Prop:=∀o,H r=some o->ZdG o=true
theorem Nw.of {H:Hp}{r:Addr}(h:H r=none):Nw H r:=fun o e=>by rw[h]at e;cases e
theorem Nw.ne {H:Hp}{r b:Addr}{o:HO}(n:Nw H r)(h:H b=some o)(t:ZdG o=false):b≠r:=fun z=>by
 rw[z]at h
 rw[n o h]at t
 cases t
theorem Nw.l {H H1:Hp}{r:Addr}(n:Nw H1 r)(s:SameL H H1):Nw H r:=fun o e=>by
 cases t:ZdG o with
 | true=>rfl
 | false=>rw[<-t];exact n o (s r o e t)
theorem Nw.same {H H1:Hp}{r:Addr}(n:Nw H1 r)(s:Same H H1):Nw H r:=n.l s.l
theorem Nw.chg {S:List Addr}{H H1:Hp}{r:Addr}(n:Nw H1 r)(c:Chg S H H1)(hS:∀b∈S,∃o,H1 b=some o/\ZdG o=false):Nw H r:=fun o e=>by
 by_cases z:r∈S
 .obtain⟨u,hu,tu⟩:=hS r z
  exact absurd rfl (n.ne hu tu)
 .cases t:ZdG o with
  | true=>rfl
  | false=>rw[<-t];exact n o (c r o e z t)
noncomputable def Zj2:HO->Bool
 | .ext _=>true
 | _=>false
theorem TblOk.upd {H:Hp}{P a:Addr}{pos:Pos}{q:Str}{o o':HO}(T:TblOk H P pos q)(h:H a=some o)(t:ZdG o=false)(x:Zj2 o=false):TblOk (L2.upd H a o') P pos q:=by
 obtain⟨ps,e,tr,hc⟩:=T
 refine⟨ps,?_,tr,hc.imp id ?_⟩
 .rw[Zac (fun z=>by rw[z,h]at e;cases e;cases t)];exact e
 .rintro⟨c,e1,e2⟩
  refine⟨c,e1,?_⟩
  rw[Zac (fun z=>by rw[z,h]at e2;unfold ZeN at e2;cases e2;cases x)];exact e2
theorem SqL.chg {S:List Addr}{K:Q44}{H H':Hp}{a:Addr}{xs:List V}(h:SqL K H a xs)(s:Chg S H H')(n:a∉S):SqL K H' a xs:=by
 rcases h with h | h
 .rcases h with h | ⟨o,h⟩
  .exact .inl (.inl (s _ _ h n rfl))
  .exact .inl (.inr ⟨o,s _ _ h n rfl⟩)
 .exact .inr h
def RowA (H:Hp)(y:V)(r:Q11×List V):Prop:=∃a b,y=.ref a/\H a=some (.tup [tx r.1,.ref b])/\H b=some (.tup r.2)
def RowsA (H:Hp)(ys:List V)(rs:List (Q11×List V)):Prop:=ys.length=rs.length/\∀(i:Nat) (y:V),ys[i]?=some y->∃r,rs[i]?=some r/\RowA H y r
theorem RowsA.chg {S:List Addr}{H H':Hp}{ys:List V}{rs:List (Q11×List V)}(h:RowsA H ys rs)(c:Chg S H H')(hS:∀b∈S,∀us,H b≠some (.tup us)):RowsA H' ys rs:=by
 refine⟨h.1,fun i y hy=>?_⟩
 obtain⟨r,hr,a,b,e,h1,h2⟩:=h.2 i y hy
 exact⟨r,hr,a,b,e,c _ _ h1 (fun z=>hS _ z _ h1) rfl,c _ _ h2 (fun z=>hS _ z _ h2) rfl⟩
theorem RowsA.l {H H':Hp}{ys:List V}{rs:List (Q11×List V)}(h:RowsA H ys rs)(s:SameL H H'):RowsA H' ys rs:=h.chg (S:=[]) s.chg (by simp)
theorem RowsA.same {H H':Hp}{ys:List V}{rs:List (Q11×List V)}(h:RowsA H ys rs)(s:Same H H'):RowsA H' ys rs:=h.l s.l
theorem Zjd {K:Q44}{H:Hp}:∀ {ds:List DT} {vs:List V},vs.length=ds.length->(∀(i:Nat) (v:V),vs[i]?=some v->∃d,ds[i]?=some d/\DatOk K H d v)->DatsOk K H ds vs
 | [],[],_,_=>by unfold DatsOk;rfl
 | [],_::_,h,_=>by simp at h
 | _::_,[],h,_=>by simp at h
 | d::ds,v::vs,h,g=>by
  unfold DatsOk
  obtain⟨d',e,hd⟩:=g 0 v rfl
  cases e
  exact⟨v,vs,rfl,hd,Zjd (by simpa using h) fun i u hu=>g (i+1) u hu⟩
theorem Zi6 {n:Nat}:∀ {ds:List DT},(∀d∈ds,dep d<=n)->deps ds<=n
 | [],_=>by unfold deps;exact YAq _
 | d::ds,h=>by
  unfold deps
  exact Nat.max_le.mpr ⟨h d YAi,Zi6 fun e he=>h e (YAY _ he)⟩
noncomputable def Zbq (rs:Q11)(s L m:Q11):List (Q11×List V):=(opnL s L m).map fun w=>(w,[tx rs,tx (shOf s w),.int (fpl L (shOf s w):Nat)])
noncomputable def Zbn (rs:Q11)(s L m:Q11):List (Q11×List V):=(filL s L m).map fun w=>(w,[tx rs,.int (fpl L w:Nat)])
noncomputable def PUT:Q11:=[112,117,116]
noncomputable def DROP:Q11:=[100,114,111,112]
noncomputable def Zfu (d:Bool×Nat):List V:=[tx (if d.1 then PUT else DROP),tx [d.2]]
def DeedsA (H:Hp)(ts:List V)(ds:List (Bool×Nat)):Prop:=ts.length=ds.length/\∀(i:Nat) (y:V),ts[i]?=some y->∃d,ds[i]?=some d/\∃t,y=.ref t/\H t=some (.tup (Zfu d))
theorem DeedsA.chg {S:List Addr}{H H':Hp}{ts:List V}{ds:List (Bool×Nat)}(h:DeedsA H ts ds)(c:Chg S H H')(hS:∀b∈S,∀us,H b≠some (.tup us)):DeedsA H' ts ds:=by
 refine⟨h.1,fun i y hy=>?_⟩
 obtain⟨d,hd,t,e,ht⟩:=h.2 i y hy
 exact⟨d,hd,t,e,c _ _ ht (fun z=>hS _ z _ ht) rfl⟩
theorem DeedsA.snoc {H:Hp}{ts:List V}{ds:List (Bool×Nat)}{t:Addr}{d:Bool×Nat}(h:DeedsA H ts ds)(ht:H t=some (.tup (Zfu d))):DeedsA H (ts++[.ref t]) (ds++[d]):=by
 refine⟨by rw[YAE,YAE,h.1];rfl,fun i y hy=>?_⟩
 by_cases z:i<ts.length
 .rw[YAl z]at hy
  obtain⟨d',hd,r⟩:=h.2 i y hy
  exact⟨d',by rw[YAl (by rw[<-h.1];exact z)];exact hd,r⟩
 .rw[YAn (by omega)]at hy
  have e:i-ts.length=0:=by
   rcases Nat.eq_zero_or_pos (i-ts.length) with q | q
   .exact q
   .rw[YBG (by simp;omega)]at hy;cases hy
  rw[e]at hy
  cases hy
  refine⟨d,?_,t,rfl,ht⟩
  rw[YAn (by rw[<-h.1];omega),<-h.1,e]
  rfl
theorem DeedsA.init {H:Hp}{ts:List V}{ds:List (Bool×Nat)}{d:Bool×Nat}(h:DeedsA H ts (ds++[d])):∃ts' t,ts=ts'++[.ref t]/\H t=some (.tup (Zfu d))/\DeedsA H ts' ds:=by
 have hl:ts.length=ds.length+1:=by rw[h.1];simp
 have ne:ts≠[]:=fun e=>by rw[e]at hl;simp at hl
 have e:=YBz ne
 have hlast:ts[ds.length]?=some (ts.getLast ne):=by
  rw[List.getLast_eq_getElem,YAG (by omega)]
  congr 2
  omega
 obtain⟨d',hd,t,et,ht⟩:=h.2 _ _ hlast
 rw[YAn (YAH _),YCZ]at hd
 cases hd
 refine⟨ts.dropLast,t,by rw[<-et];exact e.symm,ht,by rw[YAx];omega,fun i y hy=>?_⟩
 rw[YCa,YCV]at hy
 by_cases z:i<ts.length-1
 .rw[YAP z]at hy
  obtain⟨d',hd,r⟩:=h.2 i y hy
  rw[YAl (by omega)]at hd
  exact⟨d',hd,r⟩
 .rw[YAL z]at hy;cases hy
noncomputable def ZhG (d:Bool×Nat):DT:=.t ((Zfu d).map .f)
theorem DeedsA.dat {K:Q44}{H:Hp}{ts:List V}{ds:List (Bool×Nat)}(h:DeedsA H ts ds):DatsOk K H (ds.map ZhG) ts:=by
 refine Zjd (by rw[YAB];exact h.1) fun i y hy=>?_
 obtain⟨d,hd,t,rfl,ht⟩:=h.2 i y hy
 exact⟨ZhG d,by rw[YAW,hd];rfl,datT (.mk ht) rfl⟩
theorem Zi7 (d:Bool×Nat):dep (ZhG d)<=1:=by unfold ZhG dep;rw[Zft];exact YAH _
inductive Run (m:Q11):List (Bool×Nat)->Q11->Prop
 | nil:Run m [] []
 | put {ds:List (Bool×Nat)} {l:Q11} {c:Nat} (h:Run m ds l) (hc:c∈m) (hl:l.length<40):Run m (ds++[(true,c)]) (l++[c])
 | drop {ds:List (Bool×Nat)} {l:Q11} {c:Nat} (h:Run m ds (c::l)):Run m (ds++[(false,c)]) l
theorem Run.len {m:Q11}{ds:List (Bool×Nat)}{l:Q11}(h:Run m ds l):l.length<=40:=by
 induction h with
 | nil=>simp
 | put h hc hl ih=>simp;omega
 | drop h ih=>simp at ih;omega
theorem Run.mem {m:Q11}{ds:List (Bool×Nat)}{l:Q11}(h:Run m ds l):∀x∈l,x∈m:=by
 induction h with
 | nil=>intro x hx;cases hx
 | put h hc hl ih=>
  intro x hx
  rcases YAZ.mp hx with hx | hx
  .exact ih x hx
  .rw[YAR.mp hx];exact hc
 | drop h ih=>exact fun x hx=>ih x (YAY _ hx)
theorem Run.last {m:Q11}{ds':List (Bool×Nat)}{l:Q11}(h:Run m ds' l)(ne:ds'≠[]):∃ds c,(ds'=ds++[(true,c)]/\∃l0,l=l0++[c]/\Run m ds l0)\/(ds'=ds++[(false,c)]/\Run m ds (c::l)):=by
 cases h with
 | nil=>exact absurd rfl ne
 | put h hc hl=>exact⟨_,_,.inl ⟨rfl,_,rfl,h⟩⟩
 | drop h=>exact⟨_,_,.inr ⟨rfl,h⟩⟩
noncomputable def sF (l m:Q11)(la da:Addr):List (Str×V):=[("own_text",tx l),("own_kinds",tx m),("own_lacking",.ref la),("own_deeds",.ref da)]
theorem f_tk:¬(("own_text":Str)="own_kinds"):=by decide +kernel
theorem f_tl:¬(("own_text":Str)="own_lacking"):=by decide +kernel
theorem f_td:¬(("own_text":Str)="own_deeds"):=by decide +kernel
theorem f_kl:¬(("own_kinds":Str)="own_lacking"):=by decide +kernel
theorem f_kd:¬(("own_kinds":Str)="own_deeds"):=by decide +kernel
theorem f_ld:¬(("own_lacking":Str)="own_deeds"):=by decide +kernel
theorem ZgC {f:Str}{v x:V}{r:List (Str×V)}:putF f v ((f,x)::r)=(f,v)::r:=by unfold putF;rw[YAP rfl]
theorem Zbi {f g:Str}{v x:V}{r:List (Str×V)}(h:¬g=f):putF f v ((g,x)::r)=(g,x)::putF f v r:=by
 conv=>lhs;unfold putF
 rw[YAL h]
theorem Zlp {l l' m:Q11}{la da:Addr}:putF "own_text" (tx l') (sF l m la da)=sF l' m la da:=ZgC
theorem Zlq {l m:Q11}{la la' da:Addr}:putF "own_lacking" (.ref la') (sF l m la da)=sF l m la' da:=by
 unfold sF
 rw[Zbi f_tl,Zbi f_kl,ZgC]
theorem Zkw {l m:Q11}{la da:Addr}:putF "own_deeds" (.ref da) (putF "own_lacking" (.ref la) (putF "own_kinds" (tx m) (putF "own_text" (tx l) [])))=sF l m la da:=by
 have e2:∀(f:Str) (v:V),putF f v []=[(f,v)]:=fun _ _=>rfl
 rw[e2,Zbi f_tk,e2,Zbi f_tl,Zbi f_kl,e2,Zbi f_td,Zbi f_kd,Zbi f_ld,e2]
 rfl
theorem ZeW {l m:Q11}{la da:Addr}:sF l m la da=putF "own_deeds" (.ref da) (putF "own_lacking" (.ref la) (putF "own_kinds" (tx m) (putF "own_text" (tx l) []))):=Zkw.symm
theorem Za8 {l m:Q11}{la da:Addr}:(sF l m la da).lookup ("own_text":Str)=some (tx l):=by rw[ZeW,Zas,YAL f_td,Zas,YAL f_tl,Zas,YAL f_tk,Zas,YAP rfl]
theorem Zdp {l m:Q11}{la da:Addr}:(sF l m la da).lookup ("own_kinds":Str)=some (tx m):=by rw[ZeW,Zas,YAL f_kd,Zas,YAL f_kl,Zas,YAP rfl]
theorem Zgx {l m:Q11}{la da:Addr}:(sF l m la da).lookup ("own_lacking":Str)=some (.ref la):=by rw[ZeW,Zas,YAL f_ld,Zas,YAP rfl]
theorem ZbL {l m:Q11}{la da:Addr}:(sF l m la da).lookup ("own_deeds":Str)=some (.ref da):=by rw[ZeW,Zas,YAP rfl]
theorem Zpp {l m:Q11} {la da:Addr} {x:Str} (h1:¬x="own_text") (h2:¬x="own_kinds") (h3:¬x="own_lacking") (h4:¬x="own_deeds"):(sF l m la da).lookup x=none:=by
 rw[ZeW,Zas,YAL h4,Zas,YAL h3,Zas,YAL h2,Zas,YAL h1]
 rfl
noncomputable def LETx:Q11:=[97,98,99,100,101,102,103,104,105,106,107,108,109,110,111,112,113,114,115,116,117,118,119,120,121,122]
noncomputable def iskx (l:Q11):Bool:=decide (1<=l.length)&&decide (l.length<=4)&&(l.all fun c=>LETx.contains c)&&decide (signs l=ZbJ (ddl (signs l)))
def Zc4 (C:Addr)(H:Hp)(p la da:Addr)(l m:Q11):Prop:=∃dx,H p=some (.ins C dx (sF l m la da))
structure KindsOk (m:Q11):Prop where
 k:iskx m=true
 m1:1<=m.length
 m4:m.length<=4
 rise:m.Pairwise (· < ·)
structure StripAt (C:Addr)(H:Hp)(p la da:Addr)(l m:Q11)(ds:List (Bool×Nat)):Prop where
 fld:Zc4 C H p la da l m
 lack:H la=some (.lst ((Zar l m).map tx))
 deed:∃ts,H da=some (.lst ts)/\DeedsA H ts ds
 run:Run m ds l
 ok:KindsOk m
 ne:la≠da
theorem StripAt.chg {S:List Addr}{C:Addr}{H H':Hp}{p la da:Addr}{l m:Q11}{ds:List (Bool×Nat)}(h:StripAt C H p la da l m ds)(c:Chg S H H')(hS:∀b∈S,∀us,H b≠some (.tup us))(n1:p∉S)(n2:la∉S)(n3:da∉S):StripAt C H' p la da l m ds:=by
 obtain⟨⟨dx,f⟩,k,⟨ts,d1,d2⟩,r,o,n⟩:=h
 exact⟨⟨dx,c _ _ f n1 rfl⟩,c _ _ k n2 rfl,⟨ts,c _ _ d1 n3 rfl,d2.chg c hS⟩,r,o,n⟩
theorem StripAt.l {C:Addr}{H H':Hp}{p la da:Addr}{l m:Q11}{ds:List (Bool×Nat)}(h:StripAt C H p la da l m ds)(s:SameL H H'):StripAt C H' p la da l m ds:=h.chg (S:=[]) s.chg (by simp) (by simp) (by simp) (by simp)
theorem StripAt.same {C:Addr}{H H':Hp}{p la da:Addr}{l m:Q11}{ds:List (Bool×Nat)}(h:StripAt C H p la da l m ds)(s:Same H H'):StripAt C H' p la da l m ds:=h.l s.l
structure AnsS (H H2:Hp)(t c g la:Addr)(rc rg:List (Q11×List V)):Prop where
 tup:H2 t=some (.tup [.ref c,.ref g])
 came:∃ys,H2 c=some (.lst ys)/\RowsA H2 ys rc
 went:∃zs,H2 g=some (.lst zs)/\RowsA H2 zs rg
 nc:Nw H c
 ng:Nw H g
 nl:Nw H la
 ncg:c≠g
 ncl:c≠la
 ngl:g≠la
open PySem.W (Frag)
section
variable {tt:TT}{te:TE}{Q:VK}{τ0:St}{H:Hp}{K:Frag}{a:Addr}{xs:List V}
theorem CompRun.dataF (b:Nat->Bool)(D:Hp->V->Nat->Prop)(mono:∀H H' y i,(∀c us,H c=some (.tup us)->H' c=some (.tup us))->D H y i->D H' y i)(hz:xs.length<=100000)(hx:SqL K H a xs)
  (ht:∀i H' Q' (h:i<xs.length),Same H H'->(∀H'',Same H' H''->Q' (b i) H'')->tt (τ0.set 0 (some (xs.getD i .non))) H' Q')
  (he:∀i H' Q' (h:i<xs.length),b i=true->Same H H'->(∀y H'',Same H' H''->D H'' y i->Q' y H'')->te (τ0.set 0 (some (xs.getD i .non))) H' Q')
  (hQ:∀p ys H',Same H H'->H p=none->H' p=some (.lst ys)->ys.length=((List.range xs.length).filter b).length->(∀(k:Nat) (y:V),ys[k]?=some y->∃i,((List.range xs.length).filter b)[k]?=some i/\D H' y i)->Q (.ref p) H'):CompRun (Itl K a) τ0 (ZbX 0) tt te H Q:=by
 intro acc ha
 refine⟨fun i m τ H2=>i<=xs.length/\m=xs.length-i/\(∀w:Option V,τ.set 0 w=τ0.set 0 w)/\Same H H2/\∃ys,H2 acc=some (.lst ys)/\ys.length=((List.range i).filter b).length/\∀(k:Nat) (y:V),ys[k]?=some y->∃j,((List.range i).filter b)[k]?=some j/\D H2 y j,
  ⟨xs.length,YAq _,rfl,fun _=>rfl,Zap ha,[],Zad,rfl,fun i y h=>by simp at h⟩,?_⟩
 rintro i m τ H2 ⟨hi,rfl,hτ,hs,ys,hacc,hlen,hall⟩
 by_cases hlt:i<xs.length
 .refine .inr ⟨⟨xs,xs[i],hs.seq hx,by simp[hlt]⟩,fun τ' H'=>(∀w:Option V,τ'.set 0 w=τ0.set 0 w)/\Same H H'/\∃ys,H' acc=some (.lst ys)/\ys.length=((List.range (i+1)).filter b).length/\∀(k:Nat) (y:V),ys[k]?=some y->∃j,((List.range (i+1)).filter b)[k]?=some j/\D H' y j,fun τ' H' q=>⟨xs.length-(i+1),by omega,hlt,rfl,q⟩,fun x H3 y=>?_⟩
  obtain⟨rfl,y⟩:=y
  have ex:x=xs.getD i .non:=by rw[YAI,y xs (hs.seq hx)];rfl
  subst ex
  show tt (τ.set 0 (some (xs.getD i .non))) _ _
  rw[hτ]
  have hτ':∀w:Option V,(τ0.set 0 (some (xs.getD i .non))).set 0 w=τ0.set 0 w:=fun w=>by rw[YCz]
  refine ht i _ _ hlt hs fun H4 s4=>?_
  cases hb:b i with
  | false=>
   rw[YAL YAD]
   have ef:(List.range (i+1)).filter b=(List.range i).filter b:=by rw[YBX,YBV];simp[hb]
   refine⟨hτ',hs.trans s4,ys,s4 _ _ hacc,by rw[ef];exact hlen,fun k y hy=>?_⟩
   obtain⟨j,h1,h2⟩:=hall k y hy
   exact⟨j,by rw[ef];exact h1,mono _ _ _ _ (fun c us e=>s4 _ _ e) h2⟩
  | true=>
   rw[YAP rfl]
   have ef:(List.range (i+1)).filter b=(List.range i).filter b++[i]:=by rw[YBX,YBV];simp[hb]
   have fl:=YAe b (List.range i)
   rw[YBD]at fl
   refine he i _ _ hlt hb (hs.trans s4) fun y H5 s5 hD=>⟨ys,s5 _ _ (s4 _ _ hacc),by rw[hlen,sizeLine_eq];omega,hτ',same_upd3' ha ((hs.trans s4).trans s5),ys++[y],Zad,by rw[ef,YAE,YAE,hlen];rfl,fun k z hz'=>?_⟩
   have ne:∀c us,H5 c=some (.tup us)->upd H5 acc (.lst (ys++[y])) c=some (.tup us):=fun c us h=>by
    rw[Zac (fun e=>by rw[e,s5 _ _ (s4 _ _ hacc)]at h;cases h)];exact h
   rw[ef]
   by_cases hk:k<ys.length
   .rw[YAl hk]at hz'
    obtain⟨j,h1,h2⟩:=hall k z hz'
    exact⟨j,by rw[YAl (by rw[<-hlen];exact hk)];exact h1,mono _ _ _ _ ne (mono _ _ _ _ (fun c us e=>s5 _ _ (s4 _ _ e)) h2)⟩
   .rw[YAn (by omega)]at hz'
    have hk':k-ys.length=0:=by
     rcases Nat.eq_zero_or_pos (k-ys.length) with h | h
     .exact h
     .rw[YBG (by simp;omega)]at hz';cases hz'
    rw[hk']at hz'
    cases hz'
    exact⟨i,by rw[YAn (by rw[<-hlen];omega),<-hlen,hk'];rfl,mono _ _ _ _ ne hD⟩
 .have e:i=xs.length:=by omega
  subst e
  exact .inl ⟨⟨xs,hs.seq hx,YAH _⟩,hQ acc ys H2 hs ha hacc hlen hall⟩
end
end L2
namespace L2
open PySem PySem.Spec PyProof.Rows
section
variable {te:TE}{Q:VK}{τ0:St}{H:Hp}{K:Q44}{a:Addr}{xs:List V}
end
section
variable {X:Cx}
end
section
variable {X:Cx}
theorem Zc8 (hc:X.calm=true):ZbU X (.builtin "sorted") (fun xs H Q=>∃a ls,xs=[.ref a]/\H a=some (tset X.prog X.w a ls)/\ls.length<=sizeLine/\NewL ((ZbJ ls).map tx) H Q):=by
 rintro pins s U H xs us Q I r ⟨a,ls,rfl,ha,h64,q⟩
 obtain⟨u,rfl,ru⟩:=r.one
 cases ru
 have hS:TxSet X.prog X.w s.heap a ls (!Zbb X.w):=(I.hok a _ ha).1
 refine ZfR (I.ok.hd hc) hS h64 fun s' b us e nw k hg ho hb rv=>?_
 have hl:(ZbJ ls).length<=sizeLine:=by rw[(Za1 ls).length_eq];exact h64
 exact⟨.ref b,_,I.laid2 (o:=.lst ((ZbJ ls).map tx)) ho hg k nw ⟨by rw[YAB];exact hl,us,e,rv,hb⟩,rfl,q b (I.hok.none_of nw)⟩
theorem ZhJ (hc:X.calm=true):ZbU X (.type "list") (fun xs H Q=>∃a kvs,xs=[.ref a]/\Rd H a (.dK kvs)/\NewL (kvs.map fun p=>kV p.1) H Q):=by
 rintro pins s U H xs us Q I r ⟨a,kvs,rfl,ha,q⟩
 obtain⟨u,rfl,ru⟩:=r.one
 cases ru
 obtain⟨z,y,vs,rr,o,es,ep,eo⟩:=ha.ok I.hok
 have hm:s.heap.DictAt (Zaq X.prog X.w) a vs ep:=⟨o,es,eo⟩
 have hl:vs.length<=sizeLine:=by rw[<-rr.length];exact z
 refine PySem.W.kdl_call (PySem.W.kdl_dict y) (I.ok.hd hc) hm hl fun h' tk acc' c' hk hS hacc=>?_
 have hv:Vals (kvs.map fun p=>kV p.1) acc'.toList:=by
  have e1:(kvs.map fun p=>kV p.1)=(vs.map fun p=>kV p.1):=by
   have e2:(kvs.map fun p=>kV p.1)=(kvs.map (·.1)).map kV:=by rw[YBB];rfl
   have e3:(vs.map fun p=>kV p.1)=(vs.map (·.1)).map kV:=by rw[YBB];rfl
   rw[e2,e3,rr.keys]
  rw[e1]
  refine Zcn (by rw[YAB];exact(Array.length_toList.trans hacc.1).symm) fun i x u h1 h2=>?_
  rw[YAs]at h2
  obtain⟨k,v,e,hk⟩:=hacc.2 i u h2
  rw[YAW,e]at h1
  cases h1
  exact ZlN hk
 exact⟨.ref s.heap.objs.size,_,I.laid (t':=tk) (o:=.lst (kvs.map fun p=>kV p.1)) hk (YAH _) ⟨by rw[YAB];exact z,acc'.toList,c',hv,by rw[YCN];exact hS⟩,rfl,q _ I.fresh⟩
end
end L2
set_option maxHeartbeats 400000000
namespace Pk91
open PySem L2
noncomputable def top (i:Nat):Stmt:=PySem.Challenge.pw_lackword_k91_whole_any_deeds.main.body.getD i (.Pass ⟨0,0,0,0⟩)
noncomputable abbrev s_K2:Stmt:=top 18
noncomputable abbrev s_K4:Stmt:=top 19
noncomputable abbrev s_K7:Stmt:=top 20
noncomputable abbrev s_KY:Stmt:=top 21
noncomputable abbrev s_KU:Stmt:=top 22
noncomputable abbrev s_K0:Stmt:=top 23
noncomputable abbrev s_KJ:Stmt:=top 24
noncomputable abbrev s_K3:Stmt:=top 27
noncomputable abbrev s_LG:Stmt:=top 28
noncomputable abbrev s_LK:Stmt:=top 30
noncomputable abbrev s_LN:Stmt:=top 34
noncomputable abbrev s_LM:Stmt:=top 36
noncomputable abbrev s_LC:Stmt:=top 37
noncomputable abbrev s_LF:Stmt:=top 38
noncomputable abbrev s_KZ:Stmt:=top 43
noncomputable abbrev s_LA:Stmt:=top 44
noncomputable abbrev s_K5:Stmt:=top 46
noncomputable abbrev s_LQ:Stmt:=top 47
noncomputable abbrev s_LB:Stmt:=top 48
noncomputable abbrev s_LU:Stmt:=top 49
noncomputable abbrev s_LL:Stmt:=top 50
noncomputable abbrev s_K8:Stmt:=top 52
noncomputable abbrev s_K9:Stmt:=top 53
noncomputable abbrev s_K6:Stmt:=top 54
noncomputable abbrev s_LO:Stmt:=top 56
noncomputable abbrev s_LP:Stmt:=top 57
noncomputable abbrev s_LE:Stmt:=top 58
noncomputable abbrev s_LJ:Stmt:=top 59
noncomputable abbrev s_K1:Stmt:=top 60
noncomputable abbrev s_LS:Stmt:=top 61
noncomputable abbrev s_LT:Stmt:=top 62
noncomputable abbrev s_LD:Stmt:=top 63
noncomputable abbrev Zlo:Stmt:=top 64
noncomputable abbrev s_KV:Stmt:=inClass (top 31) 0
noncomputable abbrev s_KW:Stmt:=inClass (top 31) 2
noncomputable abbrev s_KA:Stmt:=inClass (top 31) 3
noncomputable abbrev s_KL:Stmt:=inClass (top 31) 4
noncomputable abbrev s_KK:Stmt:=inClass (top 31) 7
noncomputable abbrev s_KE:Stmt:=inClass (top 31) 8
noncomputable abbrev s_KP:Stmt:=inClass (top 32) 0
noncomputable abbrev s_KT:Stmt:=inClass (top 39) 0
noncomputable abbrev s_KD:Stmt:=inClass (top 39) 1
noncomputable abbrev s_KI:Stmt:=inClass (top 39) 2
noncomputable abbrev s_KX:Stmt:=inClass (top 39) 3
noncomputable abbrev s_KR:Stmt:=inClass (top 39) 4
noncomputable abbrev s_KQ:Stmt:=inClass (top 39) 5
noncomputable abbrev s_KS:Stmt:=inClass (top 39) 6
noncomputable abbrev s_KH:Stmt:=inClass (top 39) 7
noncomputable abbrev s_KG:Stmt:=inClass (top 39) 8
set_option genInjectivity false
set_option genSizeOf false
structure Ad where
 c_LR:Addr
 c_LH:Addr
 c_LI:Addr
 g_KV:Addr
 e_KV:FuncData
 g_KW:Addr
 e_KW:FuncData
 g_KA:Addr
 e_KA:FuncData
 g_KL:Addr
 e_KL:FuncData
 g_KK:Addr
 e_KK:FuncData
 g_KE:Addr
 e_KE:FuncData
 g_KP:Addr
 e_KP:FuncData
 g_KT:Addr
 e_KT:FuncData
 g_KD:Addr
 e_KD:FuncData
 g_KI:Addr
 e_KI:FuncData
 g_KX:Addr
 e_KX:FuncData
 g_KR:Addr
 e_KR:FuncData
 g_KQ:Addr
 e_KQ:FuncData
 g_KS:Addr
 e_KS:FuncData
 g_KH:Addr
 e_KH:FuncData
 g_KG:Addr
 e_KG:FuncData
 f_K2:Addr
 d_K2:FuncData
 f_K4:Addr
 d_K4:FuncData
 f_K7:Addr
 d_K7:FuncData
 f_KY:Addr
 d_KY:FuncData
 f_KU:Addr
 d_KU:FuncData
 f_K0:Addr
 d_K0:FuncData
 f_KJ:Addr
 d_KJ:FuncData
 f_K3:Addr
 d_K3:FuncData
 f_LG:Addr
 d_LG:FuncData
 f_LK:Addr
 d_LK:FuncData
 f_LN:Addr
 d_LN:FuncData
 f_LM:Addr
 d_LM:FuncData
 f_LC:Addr
 d_LC:FuncData
 f_LF:Addr
 d_LF:FuncData
 f_KZ:Addr
 d_KZ:FuncData
 f_LA:Addr
 d_LA:FuncData
 f_K5:Addr
 d_K5:FuncData
 f_LQ:Addr
 d_LQ:FuncData
 f_LB:Addr
 d_LB:FuncData
 f_LU:Addr
 d_LU:FuncData
 f_LL:Addr
 d_LL:FuncData
 f_K8:Addr
 d_K8:FuncData
 f_K9:Addr
 d_K9:FuncData
 f_K6:Addr
 d_K6:FuncData
 f_LO:Addr
 d_LO:FuncData
 f_LP:Addr
 d_LP:FuncData
 f_LE:Addr
 d_LE:FuncData
 f_LJ:Addr
 d_LJ:FuncData
 f_K1:Addr
 d_K1:FuncData
 f_LS:Addr
 d_LS:FuncData
 f_LT:Addr
 d_LT:FuncData
 f_LD:Addr
 d_LD:FuncData
 f_law:Addr
 d_law:FuncData
 t_K3:Addr
 k_K3:Addr
 t_LD:Addr
 k_LD:Addr
structure Txt (K:Q44)(mg:Str->Option Value)(a:Ad):Prop where
 m_K2:mg "has_only"=some (.ref a.f_K2)
 f_K2:Fun K "has_only" "has_only" s_K2 a.f_K2 a.d_K2
 b_K2:Binds K a.d_K2 ["text","letters"] []
 m_K4:mg "is_kinds"=some (.ref a.f_K4)
 f_K4:Fun K "is_kinds" "is_kinds" s_K4 a.f_K4 a.d_K4
 b_K4:Binds K a.d_K4 ["thing"] []
 m_K7:mg "is_word"=some (.ref a.f_K7)
 f_K7:Fun K "is_word" "is_word" s_K7 a.f_K7 a.d_K7
 b_K7:Binds K a.d_K7 ["thing","kinds","most"] []
 m_KY:mg "is_letter"=some (.ref a.f_KY)
 f_KY:Fun K "is_letter" "is_letter" s_KY a.f_KY a.d_KY
 b_KY:Binds K a.d_KY ["thing","kinds"] []
 m_KU:mg "need_kinds"=some (.ref a.f_KU)
 f_KU:Fun K "need_kinds" "need_kinds" s_KU a.f_KU a.d_KU
 b_KU:Binds K a.d_KU ["thing"] []
 m_K0:mg "need_word"=some (.ref a.f_K0)
 f_K0:Fun K "need_word" "need_word" s_K0 a.f_K0 a.d_K0
 b_K0:Binds K a.d_K0 ["thing","kinds","most"] []
 m_KJ:mg "need_letter"=some (.ref a.f_KJ)
 f_KJ:Fun K "need_letter" "need_letter" s_KJ a.f_KJ a.d_KJ
 b_KJ:Binds K a.d_KJ ["thing","kinds"] []
 m_K3:mg "in_order"=some (.ref a.f_K3)
 f_K3:Fun K "in_order" "in_order" s_K3 a.f_K3 a.d_K3
 b_K3:Binds K a.d_K3 ["words"] []
 m_LG:mg "pieces"=some (.ref a.f_LG)
 f_LG:Fun K "pieces" "pieces" s_LG a.f_LG a.d_LG
 b_LG:Binds K a.d_LG ["text","length"] []
 m_LK:mg "lacking_among"=some (.ref a.f_LK)
 f_LK:Fun K "lacking_among" "lacking_among" s_LK a.f_LK a.d_LK
 b_LK:Binds K a.d_LK ["shorter","standing","kinds"] []
 m_LN:mg "lacks"=some (.ref a.f_LN)
 f_LN:Fun K "lacks" "lacks" s_LN a.f_LN a.d_LN
 b_LN:Binds K a.d_LN ["text","word"] []
 m_LM:mg "fresh_words"=some (.ref a.f_LM)
 f_LM:Fun K "fresh_words" "fresh_words" s_LM a.f_LM a.d_LM
 b_LM:Binds K a.d_LM ["lesser","longer"] []
 m_LC:mg "filled"=some (.ref a.f_LC)
 f_LC:Fun K "filled" "filled" s_LC a.f_LC a.d_LC
 b_LC:Binds K a.d_LC ["lesser","longer","reason"] []
 m_LF:mg "opened"=some (.ref a.f_LF)
 f_LF:Fun K "opened" "opened" s_LF a.f_LF a.d_LF
 b_LF:Binds K a.d_LF ["lesser","longer","kinds","reason"] []
 m_KZ:mg "need_list"=some (.ref a.f_KZ)
 f_KZ:Fun K "need_list" "need_list" s_KZ a.f_KZ a.d_KZ
 b_KZ:Binds K a.d_KZ ["words","kinds"] []
 m_LA:mg "avoids"=some (.ref a.f_LA)
 f_LA:Fun K "avoids" "avoids" s_LA a.f_LA a.d_LA
 b_LA:Binds K a.d_LA ["words","word"] []
 m_K5:mg "refuse_inside"=some (.ref a.f_K5)
 f_K5:Fun K "refuse_inside" "refuse_inside" s_K5 a.f_K5 a.d_K5
 b_K5:Binds K a.d_K5 ["words"] []
 m_LQ:mg "stems_of"=some (.ref a.f_LQ)
 f_LQ:Fun K "stems_of" "stems_of" s_LQ a.f_LQ a.d_LQ
 b_LQ:Binds K a.d_LQ ["words"] []
 m_LB:mg "ending_stem"=some (.ref a.f_LB)
 f_LB:Fun K "ending_stem" "ending_stem" s_LB a.f_LB a.d_LB
 b_LB:Binds K a.d_LB ["stems","text"] []
 m_LU:mg "ways_between"=some (.ref a.f_LU)
 f_LU:Fun K "ways_between" "ways_between" s_LU a.f_LU a.d_LU
 b_LU:Binds K a.d_LU ["words","kinds"] []
 m_LL:mg "stems_that_end"=some (.ref a.f_LL)
 f_LL:Fun K "stems_that_end" "stems_that_end" s_LL a.f_LL a.d_LL
 b_LL:Binds K a.d_LL ["ways"] []
 m_K8:mg "longest_word"=some (.ref a.f_K8)
 f_K8:Fun K "longest_word" "longest_word" s_K8 a.f_K8 a.d_K8
 b_K8:Binds K a.d_K8 ["ways","ended"] []
 m_K9:mg "refuse_split"=some (.ref a.f_K9)
 f_K9:Fun K "refuse_split" "refuse_split" s_K9 a.f_K9 a.d_K9
 b_K9:Binds K a.d_K9 ["words","kinds","text"] []
 m_K6:mg "strip_of"=some (.ref a.f_K6)
 f_K6:Fun K "strip_of" "strip_of" s_K6 a.f_K6 a.d_K6
 b_K6:Binds K a.d_K6 ["words","kinds"] []
 m_LO:mg "_law_cell_at"=some (.ref a.f_LO)
 f_LO:Fun K "_law_cell_at" "_law_cell_at" s_LO a.f_LO a.d_LO
 b_LO:Binds K a.d_LO ["_law_script","_law_k"] []
 m_LP:mg "_law_mixed"=some (.ref a.f_LP)
 f_LP:Fun K "_law_mixed" "_law_mixed" s_LP a.f_LP a.d_LP
 b_LP:Binds K a.d_LP ["_law_cell","_law_k"] []
 m_LE:mg "_law_kinds"=some (.ref a.f_LE)
 f_LE:Fun K "_law_kinds" "_law_kinds" s_LE a.f_LE a.d_LE
 b_LE:Binds K a.d_LE ["_law_cell"] []
 m_LJ:mg "_law_alone"=some (.ref a.f_LJ)
 f_LJ:Fun K "_law_alone" "_law_alone" s_LJ a.f_LJ a.d_LJ
 b_LJ:Binds K a.d_LJ ["_law_text","_law_word","_law_place"] []
 m_K1:mg "_law_good_row"=some (.ref a.f_K1)
 f_K1:Fun K "_law_good_row" "_law_good_row" s_K1 a.f_K1 a.d_K1
 b_K1:Binds K a.d_K1 ["_law_row","_law_small","_law_great","_law_word_in"] []
 m_LS:mg "_law_good"=some (.ref a.f_LS)
 f_LS:Fun K "_law_good" "_law_good" s_LS a.f_LS a.d_LS
 b_LS:Binds K a.d_LS ["_law_before","_law_now","_law_found"] []
 m_LT:mg "_law_step"=some (.ref a.f_LT)
 f_LT:Fun K "_law_step" "_law_step" s_LT a.f_LT a.d_LT
 b_LT:Binds K a.d_LT ["_law_strip","_law_kinds_here","_law_cell","_law_grows"] []
 m_LD:mg "_law_listed"=some (.ref a.f_LD)
 f_LD:Fun K "_law_listed" "_law_listed" s_LD a.f_LD a.d_LD
 b_LD:Binds K a.d_LD ["_law_old","_law_found"] []
 m_law:mg "law"=some (.ref a.f_law)
 f_law:Fun K "law" "law" Zlo a.f_law a.d_law
 b_law:Binds K a.d_law ["_law_script"] []
 m_LR:mg "Band"=some (.ref a.c_LR)
 cr_LR:ClsRead K a.c_LR "__init__" (.ref a.g_KV)
 cl_LR:Cls K a.c_LR
 m_LH:mg "Plain"=some (.ref a.c_LH)
 cr_LH:ClsRead K a.c_LH "__init__" (.ref a.g_KP)
 cl_LH:Cls K a.c_LH
 mk_LH:Mk K a.c_LH a.g_KP
 me_Plain_words:Meth K a.c_LH "words" a.g_KL
 me_Plain_laid_out:Meth K a.c_LH "laid_out" a.g_KA
 me_Plain_reach:Meth K a.c_LH "reach" a.g_KK
 me_Plain_lacking:Meth K a.c_LH "lacking" a.g_KE
 n_Plain_own_text:NoAttr K a.c_LH "own_text"
 n_Plain_own_kinds:NoAttr K a.c_LH "own_kinds"
 n_Plain_own_lacking:NoAttr K a.c_LH "own_lacking"
 n_Plain_own_deeds:NoAttr K a.c_LH "own_deeds"
 ty_LH:∀ {H:Hp} {x dx:Addr} {fs:List (Str×V)},H x=some (.ins a.c_LH dx fs)->TyOf K H (.ref x) (.ref a.c_LH)
 m_LI:mg "Strip"=some (.ref a.c_LI)
 cr_LI:ClsRead K a.c_LI "__init__" (.ref a.g_KT)
 cl_LI:Cls K a.c_LI
 mk_LI:Mk K a.c_LI a.g_KT
 me_Strip_text:Meth K a.c_LI "text" a.g_KW
 me_KD:Meth K a.c_LI "lacking" a.g_KD
 me_KI:Meth K a.c_LI "deeds" a.g_KI
 me_KX:Meth K a.c_LI "put" a.g_KX
 me_KR:Meth K a.c_LI "drop" a.g_KR
 me_KQ:Meth K a.c_LI "back" a.g_KQ
 me_KS:Meth K a.c_LI "grow" a.g_KS
 me_KH:Meth K a.c_LI "shrink" a.g_KH
 me_KG:Meth K a.c_LI "change" a.g_KG
 n_Strip_own_text:NoAttr K a.c_LI "own_text"
 n_Strip_own_kinds:NoAttr K a.c_LI "own_kinds"
 n_Strip_own_lacking:NoAttr K a.c_LI "own_lacking"
 n_Strip_own_deeds:NoAttr K a.c_LI "own_deeds"
 ty_LI:∀ {H:Hp} {x dx:Addr} {fs:List (Str×V)},H x=some (.ins a.c_LI dx fs)->TyOf K H (.ref x) (.ref a.c_LI)
 fm_KV:Fun K "__init__" "Band.__init__" s_KV a.g_KV a.e_KV
 kp_KV:PySem.W.keepIn K (.ref a.g_KV)=true
 b_KV:Binds K a.e_KV ["self","text","kinds"] []
 fm_KW:Fun K "text" "Band.text" s_KW a.g_KW a.e_KW
 kp_KW:PySem.W.keepIn K (.ref a.g_KW)=true
 b_KW:Binds K a.e_KW ["self"] []
 fm_KA:Fun K "laid_out" "Band.laid_out" s_KA a.g_KA a.e_KA
 kp_KA:PySem.W.keepIn K (.ref a.g_KA)=true
 b_KA:Binds K a.e_KA ["self","length"] []
 fm_KL:Fun K "words" "Band.words" s_KL a.g_KL a.e_KL
 kp_KL:PySem.W.keepIn K (.ref a.g_KL)=true
 b_KL:Binds K a.e_KL ["self","length"] []
 fm_KK:Fun K "reach" "Band.reach" s_KK a.g_KK a.e_KK
 kp_KK:PySem.W.keepIn K (.ref a.g_KK)=true
 b_KK:Binds K a.e_KK ["self"] []
 fm_KE:Fun K "lacking" "Band.lacking" s_KE a.g_KE a.e_KE
 kp_KE:PySem.W.keepIn K (.ref a.g_KE)=true
 b_KE:Binds K a.e_KE ["self"] []
 fm_KP:Fun K "__init__" "Plain.__init__" s_KP a.g_KP a.e_KP
 kp_KP:PySem.W.keepIn K (.ref a.g_KP)=true
 b_KP:Binds K a.e_KP ["self","text","kinds"] []
 fm_KT:Fun K "__init__" "Strip.__init__" s_KT a.g_KT a.e_KT
 kp_KT:PySem.W.keepIn K (.ref a.g_KT)=true
 b_KT:Binds K a.e_KT ["self","kinds"] []
 fm_KD:Fun K "lacking" "Strip.lacking" s_KD a.g_KD a.e_KD
 kp_KD:PySem.W.keepIn K (.ref a.g_KD)=true
 b_KD:Binds K a.e_KD ["self"] []
 fm_KI:Fun K "deeds" "Strip.deeds" s_KI a.g_KI a.e_KI
 kp_KI:PySem.W.keepIn K (.ref a.g_KI)=true
 b_KI:Binds K a.e_KI ["self"] []
 fm_KX:Fun K "put" "Strip.put" s_KX a.g_KX a.e_KX
 kp_KX:PySem.W.keepIn K (.ref a.g_KX)=true
 b_KX:Binds K a.e_KX ["self","letter"] []
 fm_KR:Fun K "drop" "Strip.drop" s_KR a.g_KR a.e_KR
 kp_KR:PySem.W.keepIn K (.ref a.g_KR)=true
 b_KR:Binds K a.e_KR ["self"] []
 fm_KQ:Fun K "back" "Strip.back" s_KQ a.g_KQ a.e_KQ
 kp_KQ:PySem.W.keepIn K (.ref a.g_KQ)=true
 b_KQ:Binds K a.e_KQ ["self"] []
 fm_KS:Fun K "grow" "Strip.grow" s_KS a.g_KS a.e_KS
 kp_KS:PySem.W.keepIn K (.ref a.g_KS)=true
 b_KS:Binds K a.e_KS ["self","longer"] []
 fm_KH:Fun K "shrink" "Strip.shrink" s_KH a.g_KH a.e_KH
 kp_KH:PySem.W.keepIn K (.ref a.g_KH)=true
 b_KH:Binds K a.e_KH ["self","lesser"] []
 fm_KG:Fun K "change" "Strip.change" s_KG a.g_KG a.e_KG
 kp_KG:PySem.W.keepIn K (.ref a.g_KG)=true
 b_KG:Binds K a.e_KG ["self","text","came","went"] []
 z_len:mg "len"=none
 z_range:mg "range"=none
 z_isinstance:mg "isinstance"=none
 z_all:mg "all"=none
 z_list:mg "list"=none
 z_set:mg "set"=none
 z_sorted:mg "sorted"=none
 z_str:mg "str"=none
 z_int:mg "int"=none
 z_dict:mg "dict"=none
 z_any:mg "any"=none
 z_ValueError:mg "ValueError"=none
 z_reversed:mg "reversed"=none
 z_abs:mg "abs"=none
 c_KC:∃t,mg "SMALL_LETTERS"=some (.str (Str.ofString "abcdefghijklmnopqrstuvwxyz") t)
 c_KN:∃t,mg "MOST_KINDS"=some (.int 4 t)
 c_KB:∃t,mg "MOST_IN_STRIP"=some (.int 40 t)
 c_KO:∃t,mg "MOST_WORDS"=some (.int 200 t)
 c_KF:∃t,mg "MOST_IN_LIST"=some (.int 41 t)
 c_KM:∃t,mg "MOST_ASKED"=some (.int 60 t)
 bl:∀(s:Shared) (u:Value),BindsTo s a.d_law ⟨[u],[]⟩ [("_law_script",u)]
structure TL (K:Q44)(mg:Str->Option Value)(base:Heap)(a:Ad)(tb:Str->Addr×Addr):Prop extends Txt K mg a where
 L_in_order:LamEnv base mg a.k_K3 a.t_K3
 cd_K3:a.d_K3.code=.ref a.k_K3
 e_K3:a.t_K3=(tb "in_order").2
 L_listed:LamEnv base mg a.k_LD a.t_LD
 cd_LD:a.d_LD.code=.ref a.k_LD
 e_LD:a.t_LD=(tb "_law_listed").2
theorem lenA {P:List Value->Prop}(h:∀a,P [a]):∀us:List Value,us.length=1->P us
 | [a],_=>h a
local macro_rules | `(tactic| walk_at "b1") => `(tactic| (intro _ _ _ _ _ _; refine lenA ?_; intros; rfl))
theorem lenB {P:List Value->Prop}(h:∀a b,P [a,b]):∀us:List Value,us.length=2->P us
 | [a,b],_=>h a b
local macro_rules | `(tactic| walk_at "b2") => `(tactic| (intro _ _ _ _ _ _; refine lenB ?_; intros; rfl))
theorem lenC {P:List Value->Prop}(h:∀a b c,P [a,b,c]):∀us:List Value,us.length=3->P us
 | [a,b,c],_=>h a b c
local macro_rules | `(tactic| walk_at "b3") => `(tactic| (intro _ _ _ _ _ _; refine lenC ?_; intros; rfl))
theorem lenD {P:List Value->Prop}(h:∀a b c d,P [a,b,c,d]):∀us:List Value,us.length=4->P us
 | [a,b,c,d],_=>h a b c d
local macro_rules | `(tactic| walk_at "b4") => `(tactic| (intro _ _ _ _ _ _; refine lenD ?_; intros; rfl))
theorem txt_mk {K:Q44}{h:Heap}{mg:Str->Option Value}(X:K.In h)(G:h.Ns mainGlobals mg){g_KV:Addr}{e_KV:FuncData}{g_KW:Addr}{e_KW:FuncData}{g_KA:Addr}{e_KA:FuncData}{g_KL:Addr}{e_KL:FuncData}{g_KK:Addr}{e_KK:FuncData}{g_KE:Addr}{e_KE:FuncData}{g_KP:Addr}{e_KP:FuncData}{g_KT:Addr}{e_KT:FuncData}{g_KD:Addr}{e_KD:FuncData}{g_KI:Addr}{e_KI:FuncData}{g_KX:Addr}{e_KX:FuncData}{g_KR:Addr}{e_KR:FuncData}{g_KQ:Addr}{e_KQ:FuncData}{g_KS:Addr}{e_KS:FuncData}{g_KH:Addr}{e_KH:FuncData}{g_KG:Addr}{e_KG:FuncData}{c_LR:Addr}{c_LH:Addr}{c_LI:Addr}{f_K2:Addr}{d_K2:FuncData}{f_K4:Addr}{d_K4:FuncData}{f_K7:Addr}{d_K7:FuncData}{f_KY:Addr}{d_KY:FuncData}{f_KU:Addr}{d_KU:FuncData}{f_K0:Addr}{d_K0:FuncData}{f_KJ:Addr}{d_KJ:FuncData}{f_K3:Addr}{d_K3:FuncData}{f_LG:Addr}{d_LG:FuncData}{f_LK:Addr}{d_LK:FuncData}{f_LN:Addr}{d_LN:FuncData}{f_LM:Addr}{d_LM:FuncData}{f_LC:Addr}{d_LC:FuncData}{f_LF:Addr}{d_LF:FuncData}{f_KZ:Addr}{d_KZ:FuncData}{f_LA:Addr}{d_LA:FuncData}{f_K5:Addr}{d_K5:FuncData}{f_LQ:Addr}{d_LQ:FuncData}{f_LB:Addr}{d_LB:FuncData}{f_LU:Addr}{d_LU:FuncData}{f_LL:Addr}{d_LL:FuncData}{f_K8:Addr}{d_K8:FuncData}{f_K9:Addr}{d_K9:FuncData}{f_K6:Addr}{d_K6:FuncData}{f_LO:Addr}{d_LO:FuncData}{f_LP:Addr}{d_LP:FuncData}{f_LE:Addr}{d_LE:FuncData}{f_LJ:Addr}{d_LJ:FuncData}{f_K1:Addr}{d_K1:FuncData}{f_LS:Addr}{d_LS:FuncData}{f_LT:Addr}{d_LT:FuncData}{f_LD:Addr}{d_LD:FuncData}{f_law:Addr}{d_law:FuncData}{tk_KC:Tok}{tk_KN:Tok}{tk_KB:Tok}{tk_KO:Tok}{tk_KF:Tok}{tk_KM:Tok}{t_K3 k_K3:Addr}{t_LD k_LD:Addr}
  (ow_hn:PySem.W.specialIn K (.builtin "object.__class__") "__get__"=some (some (.builtin "getset_descriptor.__get__")))
  (ow_tk:PySem.W.takesIn K (.builtin "object.__class__")=some true)
  (a_LR:PySem.W.nsIn K mainGlobals "Band"=some (some (.ref c_LR)))
  (pg_LR:PySem.W.plainGet K c_LR Str.empty=true)
  (hd_LR:PySem.W.hasDictIn K c_LR=true)
  (po_LR:PySem.W.plainOver K c_LR=true)
  (sa_LR:PySem.W.findIn K (.ref c_LR) "__setattr__"=some (some (.builtin "object.__setattr__")))
  (rs_LR:PySem.W.specialIn K (.ref c_LR) "__getattribute__"=some (some (.builtin "type.__getattribute__")))
  (rr_LR:PySem.W.readsIn K c_LR (.type "type")=true)
  (rf_LR:PySem.W.findCls K (.ref c_LR) (.type "type") "__init__"=some (.val (.ref g_KV)))
  (a_LH:PySem.W.nsIn K mainGlobals "Plain"=some (some (.ref c_LH)))
  (pg_LH:PySem.W.plainGet K c_LH Str.empty=true)
  (hd_LH:PySem.W.hasDictIn K c_LH=true)
  (po_LH:PySem.W.plainOver K c_LH=true)
  (sa_LH:PySem.W.findIn K (.ref c_LH) "__setattr__"=some (some (.builtin "object.__setattr__")))
  (rs_LH:PySem.W.specialIn K (.ref c_LH) "__getattribute__"=some (some (.builtin "type.__getattribute__")))
  (rr_LH:PySem.W.readsIn K c_LH (.type "type")=true)
  (rf_LH:PySem.W.findCls K (.ref c_LH) (.type "type") "__init__"=some (.val (.ref g_KP)))
  (mk_LH:PySem.W.makesIn K c_LH=true)
  (in_LH:PySem.W.findIn K (.ref c_LH) "__init__"=some (some (.ref g_KP)))
  (kc_LH:PySem.W.keepIn K (.ref c_LH)=true)
  (ha_LH:PySem.W.findIn K (.ref c_LH) "__class__"=some (some (.builtin "object.__class__")))
  (mo_LH:PySem.W.mroIn K c_LH (.type "object")=some true)
  (me_Plain_words:PySem.W.findIn K (.ref c_LH) "words"=some (some (.ref g_KL)))
  (me_Plain_laid_out:PySem.W.findIn K (.ref c_LH) "laid_out"=some (some (.ref g_KA)))
  (me_Plain_reach:PySem.W.findIn K (.ref c_LH) "reach"=some (some (.ref g_KK)))
  (me_Plain_lacking:PySem.W.findIn K (.ref c_LH) "lacking"=some (some (.ref g_KE)))
  (n_Plain_own_text:PySem.W.findIn K (.ref c_LH) "own_text"=some none)
  (n_Plain_own_kinds:PySem.W.findIn K (.ref c_LH) "own_kinds"=some none)
  (n_Plain_own_lacking:PySem.W.findIn K (.ref c_LH) "own_lacking"=some none)
  (n_Plain_own_deeds:PySem.W.findIn K (.ref c_LH) "own_deeds"=some none)
  (a_LI:PySem.W.nsIn K mainGlobals "Strip"=some (some (.ref c_LI)))
  (pg_LI:PySem.W.plainGet K c_LI Str.empty=true)
  (hd_LI:PySem.W.hasDictIn K c_LI=true)
  (po_LI:PySem.W.plainOver K c_LI=true)
  (sa_LI:PySem.W.findIn K (.ref c_LI) "__setattr__"=some (some (.builtin "object.__setattr__")))
  (rs_LI:PySem.W.specialIn K (.ref c_LI) "__getattribute__"=some (some (.builtin "type.__getattribute__")))
  (rr_LI:PySem.W.readsIn K c_LI (.type "type")=true)
  (rf_LI:PySem.W.findCls K (.ref c_LI) (.type "type") "__init__"=some (.val (.ref g_KT)))
  (mk_LI:PySem.W.makesIn K c_LI=true)
  (in_LI:PySem.W.findIn K (.ref c_LI) "__init__"=some (some (.ref g_KT)))
  (kc_LI:PySem.W.keepIn K (.ref c_LI)=true)
  (ha_LI:PySem.W.findIn K (.ref c_LI) "__class__"=some (some (.builtin "object.__class__")))
  (mo_LI:PySem.W.mroIn K c_LI (.type "object")=some true)
  (me_Strip_text:PySem.W.findIn K (.ref c_LI) "text"=some (some (.ref g_KW)))
  (me_KD:PySem.W.findIn K (.ref c_LI) "lacking"=some (some (.ref g_KD)))
  (me_KI:PySem.W.findIn K (.ref c_LI) "deeds"=some (some (.ref g_KI)))
  (me_KX:PySem.W.findIn K (.ref c_LI) "put"=some (some (.ref g_KX)))
  (me_KR:PySem.W.findIn K (.ref c_LI) "drop"=some (some (.ref g_KR)))
  (me_KQ:PySem.W.findIn K (.ref c_LI) "back"=some (some (.ref g_KQ)))
  (me_KS:PySem.W.findIn K (.ref c_LI) "grow"=some (some (.ref g_KS)))
  (me_KH:PySem.W.findIn K (.ref c_LI) "shrink"=some (some (.ref g_KH)))
  (me_KG:PySem.W.findIn K (.ref c_LI) "change"=some (some (.ref g_KG)))
  (n_Strip_own_text:PySem.W.findIn K (.ref c_LI) "own_text"=some none)
  (n_Strip_own_kinds:PySem.W.findIn K (.ref c_LI) "own_kinds"=some none)
  (n_Strip_own_lacking:PySem.W.findIn K (.ref c_LI) "own_lacking"=some none)
  (n_Strip_own_deeds:PySem.W.findIn K (.ref c_LI) "own_deeds"=some none)
  (F_Band_init:MG K "__init__" "Band.__init__" s_KV g_KV e_KV)
  (F_Band_text:MG K "text" "Band.text" s_KW g_KW e_KW)
  (F_Band_laid_out:MG K "laid_out" "Band.laid_out" s_KA g_KA e_KA)
  (F_Band_words:MG K "words" "Band.words" s_KL g_KL e_KL)
  (F_Band_reach:MG K "reach" "Band.reach" s_KK g_KK e_KK)
  (F_Band_lacking:MG K "lacking" "Band.lacking" s_KE g_KE e_KE)
  (F_Plain_init:MG K "__init__" "Plain.__init__" s_KP g_KP e_KP)
  (F_Strip_init:MG K "__init__" "Strip.__init__" s_KT g_KT e_KT)
  (F_Strip_lacking:MG K "lacking" "Strip.lacking" s_KD g_KD e_KD)
  (F_Strip_deeds:MG K "deeds" "Strip.deeds" s_KI g_KI e_KI)
  (F_Strip_put:MG K "put" "Strip.put" s_KX g_KX e_KX)
  (F_Strip_drop:MG K "drop" "Strip.drop" s_KR g_KR e_KR)
  (F_Strip_back:MG K "back" "Strip.back" s_KQ g_KQ e_KQ)
  (F_Strip_grow:MG K "grow" "Strip.grow" s_KS g_KS e_KS)
  (F_Strip_shrink:MG K "shrink" "Strip.shrink" s_KH g_KH e_KH)
  (F_Strip_change:MG K "change" "Strip.change" s_KG g_KG e_KG)
  (D_has_only:DG K "has_only" s_K2 f_K2 d_K2)
  (D_is_kinds:DG K "is_kinds" s_K4 f_K4 d_K4)
  (D_is_word:DG K "is_word" s_K7 f_K7 d_K7)
  (D_is_letter:DG K "is_letter" s_KY f_KY d_KY)
  (D_need_kinds:DG K "need_kinds" s_KU f_KU d_KU)
  (D_need_word:DG K "need_word" s_K0 f_K0 d_K0)
  (D_need_letter:DG K "need_letter" s_KJ f_KJ d_KJ)
  (D_in_order:DG K "in_order" s_K3 f_K3 d_K3)
  (D_pieces:DG K "pieces" s_LG f_LG d_LG)
  (D_among:DG K "lacking_among" s_LK f_LK d_LK)
  (D_lacks:DG K "lacks" s_LN f_LN d_LN)
  (D_fresh:DG K "fresh_words" s_LM f_LM d_LM)
  (D_filled:DG K "filled" s_LC f_LC d_LC)
  (D_opened:DG K "opened" s_LF f_LF d_LF)
  (D_need_list:DG K "need_list" s_KZ f_KZ d_KZ)
  (D_avoids:DG K "avoids" s_LA f_LA d_LA)
  (D_r_inside:DG K "refuse_inside" s_K5 f_K5 d_K5)
  (D_stems:DG K "stems_of" s_LQ f_LQ d_LQ)
  (D_ending:DG K "ending_stem" s_LB f_LB d_LB)
  (D_ways:DG K "ways_between" s_LU f_LU d_LU)
  (D_ended:DG K "stems_that_end" s_LL f_LL d_LL)
  (D_longest:DG K "longest_word" s_K8 f_K8 d_K8)
  (D_r_split:DG K "refuse_split" s_K9 f_K9 d_K9)
  (D_strip_of:DG K "strip_of" s_K6 f_K6 d_K6)
  (D_lcell:DG K "_law_cell_at" s_LO f_LO d_LO)
  (D_mixed:DG K "_law_mixed" s_LP f_LP d_LP)
  (D_lkinds:DG K "_law_kinds" s_LE f_LE d_LE)
  (D_alone:DG K "_law_alone" s_LJ f_LJ d_LJ)
  (D_good_row:DG K "_law_good_row" s_K1 f_K1 d_K1)
  (D_good:DG K "_law_good" s_LS f_LS d_LS)
  (D_step:DG K "_law_step" s_LT f_LT d_LT)
  (D_listed:DG K "_law_listed" s_LD f_LD d_LD)
  (D_law:DG K "law" Zlo f_law d_law)
  (z_len:PySem.W.nsIn K mainGlobals "len"=some none)
  (z_range:PySem.W.nsIn K mainGlobals "range"=some none)
  (z_isinstance:PySem.W.nsIn K mainGlobals "isinstance"=some none)
  (z_all:PySem.W.nsIn K mainGlobals "all"=some none)
  (z_list:PySem.W.nsIn K mainGlobals "list"=some none)
  (z_set:PySem.W.nsIn K mainGlobals "set"=some none)
  (z_sorted:PySem.W.nsIn K mainGlobals "sorted"=some none)
  (z_str:PySem.W.nsIn K mainGlobals "str"=some none)
  (z_int:PySem.W.nsIn K mainGlobals "int"=some none)
  (z_dict:PySem.W.nsIn K mainGlobals "dict"=some none)
  (z_any:PySem.W.nsIn K mainGlobals "any"=some none)
  (z_ValueError:PySem.W.nsIn K mainGlobals "ValueError"=some none)
  (z_reversed:PySem.W.nsIn K mainGlobals "reversed"=some none)
  (z_abs:PySem.W.nsIn K mainGlobals "abs"=some none)
  (c_KC:PySem.W.nsIn K mainGlobals "SMALL_LETTERS"=some (some (.str (Str.ofString "abcdefghijklmnopqrstuvwxyz") tk_KC)))
  (c_KN:PySem.W.nsIn K mainGlobals "MOST_KINDS"=some (some (.int 4 tk_KN)))
  (c_KB:PySem.W.nsIn K mainGlobals "MOST_IN_STRIP"=some (some (.int 40 tk_KB)))
  (c_KO:PySem.W.nsIn K mainGlobals "MOST_WORDS"=some (some (.int 200 tk_KO)))
  (c_KF:PySem.W.nsIn K mainGlobals "MOST_IN_LIST"=some (some (.int 41 tk_KF)))
  (c_KM:PySem.W.nsIn K mainGlobals "MOST_ASKED"=some (some (.int 60 tk_KM))):∃a,Txt K mg a/\a.t_K3=t_K3/\a.k_K3=k_K3/\a.t_LD=t_LD/\a.k_LD=k_LD:=by
 obtain⟨_,_,_,_,_,_,_,_,_,rfl,_⟩:=id D_law.2.ex
 refine⟨{ c_LR,c_LH,c_LI,g_KV,e_KV,g_KW,e_KW,g_KA,e_KA,g_KL,e_KL,g_KK,e_KK,g_KE,e_KE,g_KP,e_KP,g_KT,e_KT,g_KD,e_KD,g_KI,e_KI,g_KX,e_KX,g_KR,e_KR,g_KQ,e_KQ,g_KS,e_KS,g_KH,e_KH,g_KG,e_KG,f_K2,d_K2,f_K4,d_K4,f_K7,d_K7,f_KY,d_KY,f_KU,d_KU,f_K0,d_K0,f_KJ,d_KJ,f_K3,d_K3,f_LG,d_LG,f_LK,d_LK,f_LN,d_LN,f_LM,d_LM,f_LC,d_LC,f_LF,d_LF,f_KZ,d_KZ,f_LA,d_LA,f_K5,d_K5,f_LQ,d_LQ,f_LB,d_LB,f_LU,d_LU,f_LL,d_LL,f_K8,d_K8,f_K9,d_K9,f_K6,d_K6,f_LO,d_LO,f_LP,d_LP,f_LE,d_LE,f_LJ,d_LJ,f_K1,d_K1,f_LS,d_LS,f_LT,d_LT,f_LD,d_LD,f_law,t_K3,k_K3,t_LD,k_LD,d_law:=_ },{ m_K2:=YAX X G D_has_only.1,f_K2:=D_has_only.2,b_K2:=D_has_only.2.binds (by walk_at "b2"),m_K4:=YAX X G D_is_kinds.1,f_K4:=D_is_kinds.2,b_K4:=D_is_kinds.2.binds (by walk_at "b1"),m_K7:=YAX X G D_is_word.1,f_K7:=D_is_word.2,b_K7:=D_is_word.2.binds (by walk_at "b3"),m_KY:=YAX X G D_is_letter.1,f_KY:=D_is_letter.2,b_KY:=D_is_letter.2.binds (by walk_at "b2"),m_KU:=YAX X G D_need_kinds.1,f_KU:=D_need_kinds.2,b_KU:=D_need_kinds.2.binds (by walk_at "b1"),m_K0:=YAX X G D_need_word.1,f_K0:=D_need_word.2,b_K0:=D_need_word.2.binds (by walk_at "b3"),m_KJ:=YAX X G D_need_letter.1,f_KJ:=D_need_letter.2,b_KJ:=D_need_letter.2.binds (by walk_at "b2"),m_K3:=YAX X G D_in_order.1,f_K3:=D_in_order.2,b_K3:=D_in_order.2.binds (by walk_at "b1"),m_LG:=YAX X G D_pieces.1,f_LG:=D_pieces.2,b_LG:=D_pieces.2.binds (by walk_at "b2"),m_LK:=YAX X G D_among.1,f_LK:=D_among.2,b_LK:=D_among.2.binds (by walk_at "b3"),m_LN:=YAX X G D_lacks.1,f_LN:=D_lacks.2,b_LN:=D_lacks.2.binds (by walk_at "b2"),m_LM:=YAX X G D_fresh.1,f_LM:=D_fresh.2,b_LM:=D_fresh.2.binds (by walk_at "b2"),m_LC:=YAX X G D_filled.1,f_LC:=D_filled.2,b_LC:=D_filled.2.binds (by walk_at "b3"),m_LF:=YAX X G D_opened.1,f_LF:=D_opened.2,b_LF:=D_opened.2.binds (by walk_at "b4"),m_KZ:=YAX X G D_need_list.1,f_KZ:=D_need_list.2,b_KZ:=D_need_list.2.binds (by walk_at "b2"),m_LA:=YAX X G D_avoids.1,f_LA:=D_avoids.2,b_LA:=D_avoids.2.binds (by walk_at "b2"),m_K5:=YAX X G D_r_inside.1,f_K5:=D_r_inside.2,b_K5:=D_r_inside.2.binds (by walk_at "b1"),m_LQ:=YAX X G D_stems.1,f_LQ:=D_stems.2,b_LQ:=D_stems.2.binds (by walk_at "b1"),m_LB:=YAX X G D_ending.1,f_LB:=D_ending.2,b_LB:=D_ending.2.binds (by walk_at "b2"),m_LU:=YAX X G D_ways.1,f_LU:=D_ways.2,b_LU:=D_ways.2.binds (by walk_at "b2"),m_LL:=YAX X G D_ended.1,f_LL:=D_ended.2,b_LL:=D_ended.2.binds (by walk_at "b1"),m_K8:=YAX X G D_longest.1,f_K8:=D_longest.2,b_K8:=D_longest.2.binds (by walk_at "b2"),m_K9:=YAX X G D_r_split.1,f_K9:=D_r_split.2,b_K9:=D_r_split.2.binds (by walk_at "b3"),m_K6:=YAX X G D_strip_of.1,f_K6:=D_strip_of.2,b_K6:=D_strip_of.2.binds (by walk_at "b2"),m_LO:=YAX X G D_lcell.1,f_LO:=D_lcell.2,b_LO:=D_lcell.2.binds (by walk_at "b2"),m_LP:=YAX X G D_mixed.1,f_LP:=D_mixed.2,b_LP:=D_mixed.2.binds (by walk_at "b2"),m_LE:=YAX X G D_lkinds.1,f_LE:=D_lkinds.2,b_LE:=D_lkinds.2.binds (by walk_at "b1"),m_LJ:=YAX X G D_alone.1,f_LJ:=D_alone.2,b_LJ:=D_alone.2.binds (by walk_at "b3"),m_K1:=YAX X G D_good_row.1,f_K1:=D_good_row.2,b_K1:=D_good_row.2.binds (by walk_at "b4"),m_LS:=YAX X G D_good.1,f_LS:=D_good.2,b_LS:=D_good.2.binds (by walk_at "b3"),m_LT:=YAX X G D_step.1,f_LT:=D_step.2,b_LT:=D_step.2.binds (by walk_at "b4"),m_LD:=YAX X G D_listed.1,f_LD:=D_listed.2,b_LD:=D_listed.2.binds (by walk_at "b2"),m_law:=YAX X G D_law.1,f_law:=D_law.2,b_law:=D_law.2.binds (by walk_at "b1"),m_LR:=YAX X G a_LR,cr_LR:=⟨rs_LR,rr_LR,rf_LR,rfl⟩,cl_LR:=⟨pg_LR,hd_LR,po_LR,sa_LR⟩,m_LH:=YAX X G a_LH,cr_LH:=⟨rs_LH,rr_LH,rf_LH,rfl⟩,cl_LH:=⟨pg_LH,hd_LH,po_LH,sa_LH⟩,mk_LH:=⟨mk_LH,in_LH,F_Plain_init.2,kc_LH⟩,me_Plain_words:=⟨me_Plain_words,F_Band_words.2,F_Band_words.1.kp⟩,me_Plain_laid_out:=⟨me_Plain_laid_out,F_Band_laid_out.2,F_Band_laid_out.1.kp⟩,me_Plain_reach:=⟨me_Plain_reach,F_Band_reach.2,F_Band_reach.1.kp⟩,me_Plain_lacking:=⟨me_Plain_lacking,F_Band_lacking.2,F_Band_lacking.1.kp⟩,n_Plain_own_text,n_Plain_own_kinds,n_Plain_own_lacking,n_Plain_own_deeds,ty_LH:=fun e=>.ins e ⟨pg_LH,hd_LH,po_LH,sa_LH⟩ ha_LH ow_hn ow_tk mo_LH,m_LI:=YAX X G a_LI,cr_LI:=⟨rs_LI,rr_LI,rf_LI,rfl⟩,cl_LI:=⟨pg_LI,hd_LI,po_LI,sa_LI⟩,mk_LI:=⟨mk_LI,in_LI,F_Strip_init.2,kc_LI⟩,me_Strip_text:=⟨me_Strip_text,F_Band_text.2,F_Band_text.1.kp⟩,me_KD:=⟨me_KD,F_Strip_lacking.2,F_Strip_lacking.1.kp⟩,me_KI:=⟨me_KI,F_Strip_deeds.2,F_Strip_deeds.1.kp⟩,me_KX:=⟨me_KX,F_Strip_put.2,F_Strip_put.1.kp⟩,me_KR:=⟨me_KR,F_Strip_drop.2,F_Strip_drop.1.kp⟩,me_KQ:=⟨me_KQ,F_Strip_back.2,F_Strip_back.1.kp⟩,me_KS:=⟨me_KS,F_Strip_grow.2,F_Strip_grow.1.kp⟩,me_KH:=⟨me_KH,F_Strip_shrink.2,F_Strip_shrink.1.kp⟩,me_KG:=⟨me_KG,F_Strip_change.2,F_Strip_change.1.kp⟩,n_Strip_own_text,n_Strip_own_kinds,n_Strip_own_lacking,n_Strip_own_deeds,ty_LI:=fun e=>.ins e ⟨pg_LI,hd_LI,po_LI,sa_LI⟩ ha_LI ow_hn ow_tk mo_LI,fm_KV:=F_Band_init.1,kp_KV:=F_Band_init.1.kp,b_KV:=F_Band_init.1.binds (by walk_at "b3"),fm_KW:=F_Band_text.1,kp_KW:=F_Band_text.1.kp,b_KW:=F_Band_text.1.binds (by walk_at "b1"),fm_KA:=F_Band_laid_out.1,kp_KA:=F_Band_laid_out.1.kp,b_KA:=F_Band_laid_out.1.binds (by walk_at "b2"),fm_KL:=F_Band_words.1,kp_KL:=F_Band_words.1.kp,b_KL:=F_Band_words.1.binds (by walk_at "b2"),fm_KK:=F_Band_reach.1,kp_KK:=F_Band_reach.1.kp,b_KK:=F_Band_reach.1.binds (by walk_at "b1"),fm_KE:=F_Band_lacking.1,kp_KE:=F_Band_lacking.1.kp,b_KE:=F_Band_lacking.1.binds (by walk_at "b1"),fm_KP:=F_Plain_init.1,kp_KP:=F_Plain_init.1.kp,b_KP:=F_Plain_init.1.binds (by walk_at "b3"),fm_KT:=F_Strip_init.1,kp_KT:=F_Strip_init.1.kp,b_KT:=F_Strip_init.1.binds (by walk_at "b2"),fm_KD:=F_Strip_lacking.1,kp_KD:=F_Strip_lacking.1.kp,b_KD:=F_Strip_lacking.1.binds (by walk_at "b1"),fm_KI:=F_Strip_deeds.1,kp_KI:=F_Strip_deeds.1.kp,b_KI:=F_Strip_deeds.1.binds (by walk_at "b1"),fm_KX:=F_Strip_put.1,kp_KX:=F_Strip_put.1.kp,b_KX:=F_Strip_put.1.binds (by walk_at "b2"),fm_KR:=F_Strip_drop.1,kp_KR:=F_Strip_drop.1.kp,b_KR:=F_Strip_drop.1.binds (by walk_at "b1"),fm_KQ:=F_Strip_back.1,kp_KQ:=F_Strip_back.1.kp,b_KQ:=F_Strip_back.1.binds (by walk_at "b1"),fm_KS:=F_Strip_grow.1,kp_KS:=F_Strip_grow.1.kp,b_KS:=F_Strip_grow.1.binds (by walk_at "b2"),fm_KH:=F_Strip_shrink.1,kp_KH:=F_Strip_shrink.1.kp,b_KH:=F_Strip_shrink.1.binds (by walk_at "b2"),fm_KG:=F_Strip_change.1,kp_KG:=F_Strip_change.1.kp,b_KG:=F_Strip_change.1.binds (by walk_at "b4"),z_len:=YBE X G z_len,z_range:=YBE X G z_range,z_isinstance:=YBE X G z_isinstance,z_all:=YBE X G z_all,z_list:=YBE X G z_list,z_set:=YBE X G z_set,z_sorted:=YBE X G z_sorted,z_str:=YBE X G z_str,z_int:=YBE X G z_int,z_dict:=YBE X G z_dict,z_any:=YBE X G z_any,z_ValueError:=YBE X G z_ValueError,z_reversed:=YBE X G z_reversed,z_abs:=YBE X G z_abs,c_KC:=⟨_,YAX X G c_KC⟩,c_KN:=⟨_,YAX X G c_KN⟩,c_KB:=⟨_,YAX X G c_KB⟩,c_KO:=⟨_,YAX X G c_KO⟩,c_KF:=⟨_,YAX X G c_KF⟩,c_KM:=⟨_,YAX X G c_KM⟩,bl:=fun s u=>.of_eq rfl },rfl,rfl,rfl,rfl⟩
end Pk91
namespace Pk91
open PySem L2
noncomputable def lpos:Pos:=⟨79,29,79,59⟩
noncomputable def lq:Str:="in_order.<locals>.<lambda>"
noncomputable def Znq:Pos:=⟨364,33,364,78⟩
noncomputable def lqM:Str:="_law_listed.<locals>.<lambda>"
noncomputable def LET:Q11:=[97,98,99,100,101,102,103,104,105,106,107,108,109,110,111,112,113,114,115,116,117,118,119,120,121,122]
noncomputable def isk (l:Q11):Bool:=decide (1<=l.length)&&decide (l.length<=4)&&(l.all fun c=>LET.contains c)&&decide (signs l=ZbJ (ddl (signs l)))
noncomputable def isw (l m:Q11)(most:Int):Bool:=decide ((l.length:Int)<=most)&&l.all fun c=>m.contains c
noncomputable def Zej:Q11->Q11->Bool
 | _,[]=>true
 | last,c::r=>decide (c∈LET)&&decide (last < [c])&&Zej [c] r
noncomputable def Zgq (l:Q11):Bool:=decide (1<=l.length)&&decide (l.length<=4)&&Zej [] l
theorem Zio {a b:Nat}:([a] < [b])↔a<b:=by
 constructor
 .intro h;cases h with
  | rel h=>exact h
  | cons h=>cases h
 .exact fun h=>List.Lex.rel h
theorem Zgr:∀(l:Q11) (d:Nat),Zej [d] l=true↔(∀c∈l,c∈LET)/\(d::l).Pairwise (· < ·)
 | [],d=>by simp[Zej]
 | c::r,d=>by
  rw[Zej,YAV,YAV,decide_eq_true_iff,decide_eq_true_iff,Zio,Zgr r c]
  simp only[YBU,YAU,forall_eq_or_imp]
  constructor
  .rintro⟨⟨h1,h2⟩,h3,h4,h5⟩
   exact⟨⟨h1,h3⟩,⟨h2,fun x hx=>Nat.lt_trans h2 (h4 x hx)⟩,h4,h5⟩
  .rintro⟨⟨h1,h3⟩,⟨h2,_⟩,h4,h5⟩
   exact⟨⟨h1,h2⟩,h3,h4,h5⟩
theorem Zdk (l:Q11):Zej [] l=true↔(∀c∈l,c∈LET)/\l.Pairwise (· < ·):=by
 cases l with
 | nil=>simp[Zej]
 | cons c r=>
  rw[Zej,YAV,YAV,decide_eq_true_iff,decide_eq_true_iff,Zgr r c]
  simp only[YAU,forall_eq_or_imp]
  constructor
  .rintro⟨⟨h1,_⟩,h3,h4⟩;exact⟨⟨h1,h3⟩,h4⟩
  .rintro⟨⟨h1,h3⟩,h4⟩;exact⟨⟨h1,by simp⟩,h3,h4⟩
theorem Zd7:∀(ls acc:Q22),(acc++ls).Nodup->ls.foldl addT acc=acc++ls
 | [],acc,_=>by simp
 | x::ls,acc,h=>by
  have hx:¬x∈acc:=by
   rw[YCQ]at h
   exact fun hm=>h.2.2 x hm x YAi rfl
  rw[YCp,addT,YAL hx,Zd7 ls (acc++[x]) (by simpa using h)]
  simp
theorem ZfU {l:Q11}(h:l.Pairwise (· < ·)):(signs l).Nodup:=by
 unfold signs List.Nodup
 rw[YBm]
 exact h.imp fun hab e=>by injection e with e;omega
theorem Zjc (ls:Q22):(ddl ls).Nodup:=by rw[<-ZeG];exact ZcG _
theorem Zhc (l:Q11):signs l=ZbJ (ddl (signs l))↔l.Pairwise (· < ·):=by
 constructor
 .intro e
  have h1:(signs l).Pairwise (fun a b=>leT a b=true):=by rw[e];exact ZbB _
  have h2:(signs l).Nodup:=by rw[e];exact(Za1 _).nodup_iff.mpr (Zjc _)
  unfold signs at h1
  unfold signs List.Nodup at h2
  rw[YBm]at h1 h2
  refine(h1.and h2).imp ?_
  rintro a b ⟨x,y⟩
  have y':a≠b:=fun e=>y (by rw[e])
  have x':¬([b] < [a]):=by simpa [leT] using x
  rw[Zio]at x'
  omega
 .intro h
  have e:ddl (signs l)=signs l:=by unfold ddl;rw[Zd7 _ _ (by simpa using ZfU h)];simp
  rw[e]
  refine Zb7 (List.Perm.refl _) ?_
  unfold signs
  rw[YBm]
  refine h.imp fun {a b} hab=>?_
  have:¬([b] < [a]):=by rw[Zio];omega
  simpa [leT] using this
theorem Zfk (l:Q11):isk l=Zgq l:=by
 have h1:(l.all fun c=>LET.contains c)=decide (∀c∈l,c∈LET):=by
  rw[YBR,YBQ,decide_eq_true_iff]
  simp
 have h2:decide (signs l=ZbJ (ddl (signs l)))=decide (l.Pairwise (· < ·)):=by rw[YBR,decide_eq_true_iff,decide_eq_true_iff,Zhc]
 have h3:Zej [] l=(decide (∀c∈l,c∈LET)&&decide (l.Pairwise (· < ·))):=by rw[YBR,YAV,decide_eq_true_iff,decide_eq_true_iff,Zdk]
 unfold isk Zgq
 rw[h1,h2,h3,Bool.and_assoc]
theorem all_range (l m:Q11):((List.range l.length).map (fun i=>decide (l.getD i 0∈m))).all id=l.all fun c=>m.contains c:=by
 rw[YBR,YBQ,YBQ]
 constructor
 .intro h c hc
  obtain⟨i,hi,rfl⟩:=List.mem_iff_getElem.mp hc
  have:=h _ (YBj (YAu.mpr hi))
  simpa [YAI,YAG hi] using this
 .intro h b hb
  obtain⟨i,hi,rfl⟩:=YAo.mp hb
  have hi:=YAu.mp hi
  have:=h _ (YBw hi)
  simpa [YAI,YAG hi] using this
noncomputable def cell (ns:List Int)(k:Int):Int:=ns.getD k.toNat 0
theorem Zl6 {ns:List Int}{k:Int}(h0:0<=k)(h1:k<ns.length):atI (ns.map V.int) k=some (.int (cell ns k)):=by
 have hk:k.toNat<ns.length:=by omega
 unfold atI ixN cell
 rw[YAB,YAP h0,YAP h1,YDE,YAW,YAI,YAG hk]
 rfl
theorem Zby {K:Q44}{H:Hp}{l:Q11}(h:l.length<=1000):LenV K (tx l) H l.length:=by
 have e:(⟨l.toArray⟩:Str).length=l.length:=by simp[Str.length]
 have:l.length<=sizeLine:=YAJ h (by rw[sizeLine_eq];decide)
 exact⟨by rw[e];exact this,e.symm⟩
theorem cm {x y m:Int}(h:0<m)(h2:m<=2 ^ 64):CMul (x % m) y:=.inl ⟨by have:=YCr x (show m≠0 by omega);omega,by have:=YCs x h;omega⟩
theorem ZiJ {K:Q44}{t:Value}:PySem.W.kitOne K t t=some true:=by unfold PySem.W.kitOne;simp
theorem Zn3 {α:Type}{xs:List α}{i:Int}(h0:0<=i)(h1:i<xs.length):∃v,atI xs i=some v/\v∈xs:=by
 have hi:i.toNat<xs.length:=by omega
 refine⟨xs[i.toNat],?_,YBw hi⟩
 unfold atI ixN
 rw[YAP h0,YAP h1,YDE,YAG hi]
theorem ZbH (xs:Q22):(xs.map tx).all ZbA=true:=by
 rw[YBQ]
 intro v hv
 obtain⟨x,_,rfl⟩:=YAo.mp hv
 rfl
theorem same_upd3 {H H2:Hp}{e:Addr}{o':HO}(s:Same H H2)(h:H e=none):Same H (upd H2 e o'):=fun b u hb=>by
 have:b≠e:=fun z=>by rw[z,h]at hb;cases hb
 rw[Zac this];exact s _ _ hb
theorem Zd8 {α:Type}(p:α->Bool)(d:α)(ls:List α):((List.range ls.length).filter fun i=>p (ls.getD i d)).map (fun i=>ls.getD i d)=ls.filter p:=by
 have e:(List.range ls.length).map (fun i=>ls.getD i d)=ls:=by
  apply YBx
  .simp
  .intro i h1 h2
   simp[h2]
 have h:=YDT (p:=p) (f:=fun i=>ls.getD i d) (l:=List.range ls.length)
 rw[e]at h
 rw[h]
 rfl
theorem ZcR {ls:Q22}{k:Nat}(h:k<ls.length):(ls.map tx).getD k V.non=tx (ls.getD k []):=by
 rw[YAI,YAW,YAI,YAG h]
 rfl
theorem ZgS {x:Q11}{ls:Q22}:inV (tx x) (ls.map tx)=decide (x∈ls):=by
 unfold inV
 rw[YBR,YBa,decide_eq_true_iff]
 constructor
 .rintro⟨y,hy,e⟩
  obtain⟨l,hl,rfl⟩:=YAo.mp hy
  rw[ZkM,decide_eq_true_iff,ZdW]at e
  rw[<-e];exact hl
 .intro h
  exact⟨tx x,YBj h,by rw[ZkM];exact decide_eq_true rfl⟩
theorem Zgc:∀(xs ys:Q22),deqs ((xs.map tx).map DT.f) ((ys.map tx).map DT.f)=decide (xs=ys)
 | [],[]=>by unfold deqs;rfl
 | [],y::ys=>by simp only[YAr,YDB];unfold deqs;rfl
 | x::xs,[]=>by simp only[YAr,YDB];unfold deqs;rfl
 | x::xs,y::ys=>by
  simp only[YAr]
  unfold deqs
  rw[Zgc xs ys]
  have e:deq (DT.f (tx x)) (DT.f (tx y))=decide (x=y):=by
   unfold deq
   rw[<-Zcm]
   show ((⟨x.toArray⟩:Str) == ⟨y.toArray⟩)=_
   rw[YBR,beq_iff_eq,decide_eq_true_iff]
   exact⟨fun h=>by unfold tx;rw[h],fun h=>by unfold tx at h;injection h⟩
  rw[e,YBR,YAV,decide_eq_true_iff,decide_eq_true_iff,decide_eq_true_iff,List.cons.injEq]
theorem Zni {K:Q44}{H:Hp}{Q:VK}{a b:Addr}{xs:Q22}(h1:SqL K H a (xs.map tx))(h2:SqL K H b (xs.map tx))(q:Q (.bl false) H):rEqD K true (.ref a) (.ref b) H Q:=
 .inr ⟨_,_,datL h1 (ZbH _),datL h2 (ZbH _),fun z=>YAD z.1,(ownL h1 (ZbH _)).2.2,by
  unfold deq
  rw[Zgc,decide_eq_true rfl]
  exact q⟩
theorem Zjf {ns:List Int}{lo hi:Option Int}{v:V}(h:v∈cutV (ns.map V.int) lo hi):∃c,v=.int c:=by
 have h2:v∈ns.map V.int:=YAh (YAf h)
 obtain⟨c,_,rfl⟩:=YAo.mp h2
 exact⟨c,rfl⟩
theorem Zkg {xs:List V}{lo hi:Option Int}:(cutV xs lo hi).length<=xs.length:=by
 unfold cutV
 rw[YAc,YAj]
 omega
theorem ZkO {K:Q44}{H:Hp}{Q:VK}{a b:Addr}{xs ys:Q22}(h1:SqL K H a (xs.map tx))(h2:SqL K H b (ys.map tx))(q:Q (.bl (decide (xs=ys))) H):rEqD K false (.ref a) (.ref b) H Q:=
 .inr ⟨_,_,datL h1 (ZbH _),datL h2 (ZbH _),fun z=>YAD z.1,(ownL h1 (ZbH _)).2.2,by
  unfold deq
  rw[Zgc]
  exact q⟩
theorem ZlG:V.str (Str.ofString "abcdefghijklmnopqrstuvwxyz")=tx LET:=congrArg V.str (by decide +kernel)
theorem ZlW (l:Q11):(ddl (signs l)).length<=l.length:=by
 have:∀(ls acc:Q22),(ls.foldl addT acc).length<=acc.length+ls.length:=by
  intro ls
  induction ls with
  | nil=>intro acc;simp
  | cons x ls ih=>
   intro acc
   rw[YCp]
   refine YAJ (ih _) ?_
   unfold addT
   split<;>simp<;>omega
 have h:=this (signs l) []
 unfold ddl
 unfold signs at h ⊢
 simpa using h
theorem signs_length (l:Q11):(signs l).length=l.length:=by unfold signs;rw[YAB]
noncomputable def flds (l m:Q11):List (Str×V):=putF "own_kinds" (tx m) (putF "own_text" (tx l) [])
theorem kt:¬(("own_text":Str)="own_kinds"):=by decide +kernel
theorem Zfo {l m:Q11}:(flds l m).lookup ("own_text":Str)=some (tx l):=by unfold flds;rw[Zas,YAL kt,Zas,YAP rfl]
theorem Zhz {l m:Q11}:(flds l m).lookup ("own_kinds":Str)=some (tx m):=by unfold flds;rw[Zas,YAP rfl]
theorem ZcS {l m:Q11} {x:Str} (h1:¬x="own_text") (h2:¬x="own_kinds"):(flds l m).lookup x=none:=by
 unfold flds
 rw[Zas,YAL h2,Zas,YAL h1]
 rfl
def ZfG (C:Addr)(H:Hp)(p:Addr)(l m:Q11):Prop:=∃dx,H p=some (.ins C dx (flds l m))
structure StripOk (l m:Q11):Prop where
 k:isk m=true
 m1:1<=m.length
 m4:m.length<=4
 l40:l.length<=40
 mem:∀x∈l,x∈m
theorem ZnU (ls:Q22):(ddl ls).length<=ls.length:=by
 have:∀(ls acc:Q22),(ls.foldl addT acc).length<=acc.length+ls.length:=by
  intro ls
  induction ls with
  | nil=>intro acc;simp
  | cons x ls ih=>
   intro acc
   rw[YCp]
   refine YAJ (ih _) ?_
   unfold addT
   split<;>simp<;>omega
 simpa [ddl] using this ls []
theorem Znz {l m:Q11}(h:StripOk l m):isw l m 40=true:=by
 have h2:=h.l40
 unfold isw
 rw[YAV,decide_eq_true_iff,YBQ]
 exact⟨by omega,fun x hx=>by simpa using h.mem x hx⟩
theorem Zns:∀k,k<26->LET[k]?=some (97+k):=by decide
theorem Zp2 {c:Nat}(h1:97<=c)(h2:c<=122):c∈LET:=by
 have:=Zns (c-97) (by omega)
 have e:97+(c-97)=c:=by omega
 rw[e]at this
 exact YAT this
theorem ZnA {m:Q11}(h1:1<=m.length)(h4:m.length<=4)(hm:∀c∈m,c∈LET)(hp:m.Pairwise (· < ·)):isk m=true:=by
 rw[Zfk]
 unfold Zgq
 rw[(Zdk m).mpr ⟨hm,hp⟩]
 simp[h1,h4]
theorem Zp9 (l:Q11){i:Int}(h:0<=i):cut l none (some i)=l.take i.toNat:=by
 obtain⟨k,rfl⟩:∃k:Nat,i=(k:Int):=⟨i.toNat,by omega⟩
 rw[Zje,Int.toNat_natCast]
theorem ZlZ (l:Q11){i:Int}(h:0<=i):cut l (some i) none=l.drop i.toNat:=by
 obtain⟨k,rfl⟩:∃k:Nat,i=(k:Int):=⟨i.toNat,by omega⟩
 rw[ZcH,Int.toNat_natCast]
theorem iteT' {p q:Prop}[Decidable True](h:p):if True then p else q:=by rw[YAP True.intro];exact h
theorem put1 {f m:Q11}{n c:Nat}{i:Int}(hf:f.length=n)(hm:∀x∈f,x∈m)(hc:c∈m)(h0:0<=i)(h1:i<(n:Nat)):(cut f none (some i)++[c]++cut f (some (i+1)) none).length=n/\∀x∈cut f none (some i)++[c]++cut f (some (i+1)) none,x∈m:=by
 rw[Zp9 f h0,ZlZ f (by omega)]
 refine⟨by rw[YAE,YAE,YAc,YAj,YAg];omega,fun x hx=>?_⟩
 rcases YAZ.mp hx with hx | hx
 .rcases YAZ.mp hx with hx | hx
  .exact hm x (YAf hx)
  .rw[YAR.mp hx];exact hc
 .exact hm x (YAh hx)
theorem Zit {K:Q44}{H:Hp}{Q:VK}{x:Q11}(h:Q (.bl false) H):rEqD K true (tx x) (tx x) H Q:=.inl ⟨rfl,by rw[YAP rfl,decide_eq_true rfl];exact h⟩
theorem ZnQ {K:Q44}{H:Hp}{Q:VK}{x:Q11}(h:Q (.bl true) H):rEqD K false (tx x) (tx x) H Q:=.inl ⟨rfl,by rw[YAL YAD,decide_eq_true rfl];exact h⟩
theorem ne_int {K:Q44}{H:Hp}{Q:VK}{x:Int}(h:Q (.bl false) H):rEqD K true (.int x) (.int x) H Q:=.inl ⟨rfl,by rw[YAP rfl,decide_eq_true rfl];exact h⟩
theorem eq_int {K:Q44}{H:Hp}{Q:VK}{x:Int}(h:Q (.bl true) H):rEqD K false (.int x) (.int x) H Q:=.inl ⟨rfl,by rw[YAL YAD,decide_eq_true rfl];exact h⟩
theorem ZeI (w:Q11):cut w none (some (-1))=w.dropLast:=by
 unfold cut
 have e1:HT.sIx w.length w.length (some (-1))=w.length-1:=by
  unfold HT.sIx
  simp only[]
  rw[YAP (by decide)]
  omega
 have e2:HT.sIx w.length 0 none=0:=rfl
 rw[e1,e2,YBg,YCa]
 rfl
theorem ZcV (w:Q11):cut w (some 1) none=w.tail:=by
 have:=ZcH w 1
 rw[List.drop_one]at this
 exact this
theorem ZcP {l m:Q11}{i:Nat}(hm:m.length<=4)(hl:l.length<=40)(hi:i<=41):(ZcA l m i).length<=6724:=by
 have h1:∀k,(ZdU (wordsOf l k) (wordsOf l (k+1)) m).length<=164:=fun k=>YAJ (ZiI _ _ _) (YAJ (Nat.mul_le_mul (Zdh l k) hm) (by omega))
 have h2:=Zbz (f:=fun k=>ZdU (wordsOf l k) (wordsOf l (k+1)) m) h1 (List.range i)
 rw[YBD]at h2
 have:i*164<=41*164:=Nat.mul_le_mul_right _ hi
 unfold ZcA
 omega
theorem Zcz {l m w:Q11}(hl:l.length<=40)(h:w∈Zar l m):w.length<=41:=by
 have:=(Zao.mp h).1.init.len
 rw[YAx]at this
 omega
theorem ZbY {α:Type}{l:List α}{i:Nat}{x:α}(h:l[i]?=some x):l.take (i+1)=l.take i++[x]:=by rw[List.take_succ,h];rfl
structure KOk (m:Q11):Prop where
 k:isk m=true
 m1:1<=m.length
 m4:m.length<=4
theorem ZiP {l m:Q11}{most:Int}(h:(l.length:Int)<=most)(hm:∀x∈l,x∈m):isw l m most=true:=by
 unfold isw
 rw[YAV,decide_eq_true_iff,YBQ]
 exact⟨h,fun x hx=>by simpa using hm x hx⟩
theorem Zia {H:Hp}{e:Addr}{o o':HO}(h:H e=none):Same H (upd (upd H e o) e o'):=fun b u hb=>by
 have:b≠e:=fun z=>by rw[z,h]at hb;cases hb
 rw[Zac this,Zac this];exact hb
noncomputable def ZiH (l x:Q11):Bool:=!infB x l&&(infB x.tail l&&infB x.dropLast l)
theorem atI0 {α:Type}{x:α}{xs:List α}:atI (x::xs) 0=some x:=by
 unfold atI ixN
 rw[YAP (Int.le_refl _),YAP (by rw[YAk];omega)]
 rfl
noncomputable def mixV (c k:Int):Int:=
 (((c % 2147483629*48271+k*7919+104729) % 2147483629*((c % 2147483629*48271+k*7919+104729) % 2147483629) % 2147483629*16807+k*104729+11) % 2147483587)*(((c % 2147483629*48271+k*7919+104729) % 2147483629*((c % 2147483629*48271+k*7919+104729) % 2147483629) % 2147483629*16807+k*104729+11) % 2147483587) % 2147483587
theorem Ziw (c k:Int):0<=mixV c k:=YCr _ (by decide)
theorem Zf5:∀k<26,LET.getD k 0=97+k:=by decide
theorem ZjV {x:Nat}(h1:97<=x)(h2:x<=122):x∈LET:=by
 have h:∀k,k<26->97+k∈LET:=by decide
 have h3:=h (x-97) (by omega)
 rwa [show 97+(x-97)=x by omega]at h3
def RowF (H:Hp)(l w:Q11)(y:V):Prop:=∃t:Addr,y=.ref t/\H t=some (.tup [tx w,.int (fpl l w.dropLast:Nat),.int (fpl l w.tail:Nat)])
def Zn4 (H:Hp)(l:Q11)(ws:Q22)(ys:List V):Prop:=ys.length=ws.length/\∀(i:Nat) (y:V),ys[i]?=some y->∃w,ws[i]?=some w/\RowF H l w y
def Zqa (H:Hp)(x y:V):Prop:=(x=y/\((∃l,x=tx l)\/∃i,x=.int i))\/∃(px py:Addr) (vs:List V),x=.ref px/\y=.ref py/\H px=some (.tup vs)/\H py=some (.tup vs)/\vs.length<=1000/\∀v∈vs,(∃l,v=tx l)\/∃i,v=.int i
theorem ZcC {m:Q11}(h:isk m=true):m.Pairwise (· < ·):=by
 rw[Zfk]at h
 unfold Zgq at h
 rw[YAV]at h
 exact((Zdk m).mp h.2).2
theorem ZmA {H:Hp}{l:Q11}{W:Q22}{zs ys:List V}(hZ:Zn4 H l W zs)(hR:Zn4 H l W ys)(i:Nat)(x y:V)(hx:zs[i]?=some x)(hy:ys[i]?=some y):Zqa H x y:=by
 obtain⟨w,hw,t,e,h⟩:=hZ.2 i x hx
 obtain⟨w2,hw2,t2,e2,h2⟩:=hR.2 i y hy
 obtain rfl:w=w2:=Option.some.inj (hw.symm.trans hw2)
 refine .inr ⟨t,t2,_,e,e2,h,h2,by simp,fun v hv=>?_⟩
 simp only[YAU,List.not_mem_nil,or_false]at hv
 rcases hv with rfl | rfl | rfl
 .exact .inl ⟨_,rfl⟩
 .exact .inr ⟨_,rfl⟩
 .exact .inr ⟨_,rfl⟩
noncomputable def isl (l m:Q11):Bool:=isw l m 1&&decide ((l.length:Int)=1)
theorem KOk.kinds {m:Q11}(h:KOk m):KindsOk m:=⟨h.k,h.m1,h.m4,ZcC h.k⟩
theorem ZlM {c:Nat}{m:Q11}(h:c∈m):isl [c] m=true:=by
 unfold isl
 rw[ZiP (by show ((1:Nat):Int)<=1;decide) (fun x hx=>by rw[YAR.mp hx];exact h)]
 rfl
theorem Zfh {l x:Q11}(ne:x≠[]):ZiH l x=true↔Miss l x:=by
 unfold ZiH
 rw[YAV,YAV,Bool.not_eq_true',Zce,Zbu,Zbu]
 constructor
 .rintro⟨a,b,c⟩;exact⟨ne,c,b,a⟩
 .rintro⟨_,c,b,a⟩;exact⟨a,b,c⟩
noncomputable def ZaT (L:Q11)(i:Nat):Q22:=(List.range i).flatMap fun k=>[L.take (k+1),L.drop (L.length-(k+1))]
theorem Zd9 (L:Q11)(i:Nat):ZaT L (i+1)=ZaT L i++[L.take (i+1),L.drop (L.length-(i+1))]:=by
 unfold ZaT
 rw[YBX,YDS,List.flatMap_singleton]
theorem ZcF (L:Q11):∀i,(ZaT L i).length=2*i
 | 0=>rfl
 | i+1=>by rw[Zd9,YAE,ZcF L i];simp;omega
theorem Zfa {L w:Q11}{i:Nat}:w∈ZaT L i↔∃k,1<=k/\k<=i/\(w=L.take k\/w=L.drop (L.length-k)):=by
 unfold ZaT
 rw[YDG]
 constructor
 .rintro⟨k,hk,h⟩
  have hk:=YAu.mp hk
  simp only[YAU,List.not_mem_nil,or_false]at h
  exact⟨k+1,by omega,by omega,h⟩
 .rintro⟨k,h1,h2,h⟩
  refine⟨k-1,YAu.mpr (by omega),?_⟩
  have e:k-1+1=k:=by omega
  rw[e]
  simpa using h
theorem Zgz {H:Hp}{zs:List V}{rs:List (Q11×List V)}(h:RowsA H zs rs){i:Nat}(hi:i<zs.length):∃t u,zs.getD i .non=.ref t/\H t=some (.tup [tx ((rs.map (·.1)).getD i []),u]):=by
 obtain⟨r,hr,t,b,e,h1,_⟩:=h.2 i zs[i] (YAG hi)
 refine⟨t,.ref b,by rw[YAI,YAG hi];exact e,?_⟩
 rw[h1,YAI,YAW,hr]
 rfl
theorem Zjg {rs:List (Q11×List V)}{n:Nat}(h:n=rs.length):((List.range n).filter fun _=>true).map (fun i=>tx ((rs.map (·.1)).getD i []))=(rs.map (·.1)).map tx:=by
 subst h
 rw[YDU.mpr (fun _ _=>rfl)]
 apply YBx (by simp)
 intro i h1 h2
 have hi:i<rs.length:=by simpa using h2
 simp[YAI,YAG hi]
theorem Zf6 {kvs:List (Key×V)}{k:Key}{v:V}(h:valV kvs k=some v):k∈kvs.map (·.1):=by
 unfold valV at h
 obtain⟨p,hp,_⟩:=Option.map_eq_some_iff.mp h
 have e:p.1=k:=by simpa using List.find?_some hp
 rw[<-e]
 exact YBj (List.mem_of_find?_eq_some hp)
theorem Zj0 {k:Key}(l:List (Key×V))(v:V)(h:k∈l.map (·.1)):(putK l k v).map (·.1)=l.map (·.1):=by
 unfold putK
 have ha:(l.any fun kv=>decide (kv.1=k))=true:=by
  obtain⟨p,hp,e⟩:=YAo.mp h
  exact YBa.mpr ⟨p,hp,decide_eq_true e⟩
 rw[YAP ha,YBB]
 refine YCj fun p _=>?_
 show (if p.1=k then (p.1,v) else p).1=p.1
 split<;>rfl
structure DI (H:Hp)(s L rs:Q11)(S:Q11->Prop)(kvs:List (Key×V))(ws:Q22):Prop where
 keys:kvs.map (·.1)=ws.map kTx
 nd:ws.Nodup
 mem:∀w,w∈ws↔Miss L w/\S w
 val:∀w∈ws,∃b,valV kvs (kTx w)=some (.ref b)/\H b=some (.tup [tx rs,tx (shOf s w),.int (fpl L (shOf s w):Nat)])
theorem DI.grow {H H':Hp}{s L rs:Q11}{S S':Q11->Prop}{kvs:List (Key×V)}{ws:Q22}(h:DI H s L rs S kvs ws)(sm:∀b us,H b=some (.tup us)->H' b=some (.tup us))(hS:∀w,Miss L w->(S w↔S' w)):DI H' s L rs S' kvs ws:=
 ⟨h.keys,h.nd,fun w=>(h.mem w).trans ⟨fun ⟨a,b⟩=>⟨a,(hS w a).mp b⟩,fun ⟨a,b⟩=>⟨a,(hS w a).mpr b⟩⟩,fun w hw=>let ⟨b,h1,h2⟩:=h.val w hw;⟨b,h1,sm _ _ h2⟩⟩
theorem DI.put {H:Hp}{s L rs:Q11}{S:Q11->Prop}{kvs:List (Key×V)}{ws:Q22}{x:Q11}{b:Addr}(h:DI H s L rs S kvs ws)(mx:Miss L x)(hb:H b=some (.tup [tx rs,tx (shOf s x),.int (fpl L (shOf s x):Nat)])):
  ∃ws',DI H s L rs (fun w=>S w\/w=x) (putK kvs (kTx x) (.ref b)) ws':=by
 by_cases hx:x∈ws
 .refine⟨ws,?_,h.nd,fun w=>?_,fun w hw=>?_⟩
  .rw[Zj0,h.keys]
   rw[h.keys]
   exact YBj hx
  .rw[h.mem]
   constructor
   .rintro⟨a,c⟩;exact⟨a,.inl c⟩
   .rintro⟨a,c | rfl⟩
    .exact⟨a,c⟩
    .exact(h.mem w).mp hx
  .rw[ZaU]
   by_cases e:w=x
   .subst e
    exact⟨b,by rw[YAP rfl],hb⟩
   .rw[YAL (fun z=>e (ZaR z))]
    exact h.val w hw
 .have hv:valV kvs (kTx x)=none:=by
   cases e:valV kvs (kTx x) with
   | none=>rfl
   | some v=>
    exfalso
    have:=Zf6 e
    rw[h.keys]at this
    obtain⟨y,hy,e2⟩:=YAo.mp this
    exact hx (ZaR e2▸hy)
  refine⟨ws++[x],?_,?_,fun w=>?_,fun w hw=>?_⟩
  .rw[Zcs _ hv,YBA,h.keys,YBA];rfl
  .rw[YCQ]
   refine⟨h.nd,by simp,fun a ha c hc e=>?_⟩
   rw[YAR.mp hc]at e
   exact hx (e▸ha)
  .rw[YAZ,YAR,h.mem]
   constructor
   .rintro (⟨a,c⟩ | rfl)
    .exact⟨a,.inl c⟩
    .exact⟨mx,.inr rfl⟩
   .rintro⟨a,c | rfl⟩
    .exact .inl ⟨a,c⟩
    .exact .inr rfl
  .rw[ZaU]
   by_cases e:w=x
   .subst e
    exact⟨b,by rw[YAP rfl],hb⟩
   .rw[YAL (fun z=>e (ZaR z))]
    rcases YAZ.mp hw with z | z
    .exact h.val w z
    .exact absurd (YAR.mp z) e
theorem Zgs {H H':Hp}{P pd:Addr}{pos:Pos}{q:Str}{o0:HO}(T:TblOk H P pos q)(k:∀b o,H b=some o->b≠pd->H' b=some o)(h:H pd=some o0)(t:ZdG o0=false)(x:Zj2 o0=false):TblOk H' P pos q:=by
 obtain⟨ps,e,tr,hc⟩:=T
 refine⟨ps,k _ _ e (fun z=>by rw[z,h]at e;cases e;cases t),tr,hc.imp id ?_⟩
 rintro⟨c,e1,e2⟩
 exact⟨c,e1,k _ _ e2 (fun z=>by rw[z,h]at e2;unfold ZeN at e2;cases e2;cases x)⟩
theorem Zbg (rs s L m:Q11):(Zbq rs s L m).map (·.1)=opnL s L m:=by unfold Zbq;rw[YBB];exact List.map_id' _
theorem Zbh (rs s L m:Q11):(Zbn rs s L m).map (·.1)=filL s L m:=by unfold Zbn;rw[YBB];exact List.map_id' _
theorem Zbd {l m:Q11}(hm:m.length<=4)(hl:l.length<=40):(Zar l m).length<=6724:=ZcP hm hl (by omega)
theorem Zde {C:Addr}{H H3 H4:Hp}{p la da t c g la2:Addr}{l l2 m:Q11}{ds ds2:List (Bool×Nat)}{ts2:List V}{rc rg:List (Q11×List V)}
  (hp:StripAt C H p la da l m ds) (c3:Chg [da] H H3) (d3:H3 da=some (.lst ts2)) (e3:DeedsA H3 ts2 ds2) (ch:Chg [p] H3 H4) (f4:Zc4 C H4 p la2 da l2 m) (l4:H4 la2=some (.lst ((Zar l2 m).map tx))) (an:AnsS H3 H4 t c g la2 rc rg) (run:Run m ds2 l2):
  Chg [p,da] H H4/\StripAt C H4 p la2 da l2 m ds2/\AnsS H H4 t c g la2 rc rg:=by
 obtain⟨⟨dx,f⟩,hk,⟨ts,d1,d2⟩,_,ok,nld⟩:=id hp
 have npd:p≠da:=fun z=>by rw[z,d1]at f;cases f
 have f3:=c3 _ _ f (by simpa using npd) rfl
 have nw:∀r,Nw H3 r->Nw H r:=fun r n=>n.chg c3 fun b hb=>by obtain rfl:=YAR.mp hb;exact⟨_,d3,rfl⟩
 refine⟨(c3.mono (by simp)).trans (ch.mono (by simp)),⟨f4,l4,⟨ts2,ch _ _ d3 (by simpa using YAv npd) rfl,e3.chg ch fun b hb us z=>by rw[YAR.mp hb,f3]at z;cases z⟩,run,ok,YAv (an.nl.ne d3 rfl)⟩,⟨an.tup,an.came,an.went,nw _ an.nc,nw _ an.ng,nw _ an.nl,an.ncg,an.ncl,an.ngl⟩⟩
theorem Zi8 (ds:List (Bool×Nat)):dep (.l (ds.map ZhG))<=2:=by
 unfold dep
 refine Nat.succ_le_succ (Zi6 fun d hd=>?_)
 obtain⟨x,_,rfl⟩:=YAo.mp hd
 exact Zi7 x
noncomputable def okN (x:Str):Bool:=!decide (x="own_text")&&!decide (x="own_kinds")&&!decide (x="own_lacking")&&!decide (x="own_deeds")
theorem sN {l m:Q11}{la da:Addr}{x:Str}(h:okN x=true):(sF l m la da).lookup x=none:=by
 unfold okN at h
 simp only[YAV,Bool.not_eq_true',decide_eq_false_iff_not]at h
 exact Zpp h.1.1.1 h.1.1.2 h.1.2 h.2
noncomputable def avB (ws:Q22)(w:Q11):Bool:=!(ws.any fun p=>infB p w)
noncomputable def keyT (s:Q11):List Key:=s.map fun (i:Nat)=>(Sum.inl ((i:Nat):Int):Key)
noncomputable def numK (sp:Q22):List (List Key×V):=sp.zipIdx.map fun p=>(keyT p.1,V.int ((p.2:Nat):Int))
structure RInv (H:Hp)(ps pw pn:Addr)(l:Q11)(sp ws:Q22)(ts:List Addr):Prop where
 hs:H ps=some (.lst (ts.map V.ref))
 hw:H pw=some (.lst (ws.map tx))
 hn:H pn=some (.dT (numK sp))
 tl:ts.length=sp.length
 tt:∀(i:Nat) (t:Addr) (s:Q11),ts[i]?=some t->sp[i]?=some s->H t=some (.tup (s.map fun (i:Nat)=>V.int i))
 wl:ws.length=sp.length
 wt:∀(i:Nat) (w s:Q11),ws[i]?=some w->sp[i]?=some s->s=Zlb l w/\Inf w l
 nd:sp.Nodup
 f0:sp[0]?=some (ZkL l)
theorem ZaR {x y:Q11}(e:kTx x=kTx y):x=y:=by unfold kTx at e;injection e with e;injection e with e;injection e
theorem Zdb {kvs:List (Key×V)}{k k':Key}{v:V}(h:(valV kvs k').isSome=true\/k'=k):(valV (putK kvs k v) k').isSome=true:=by
 rw[ZaU]
 split
 .rfl
 .rcases h with h | h
  .exact h
  .exact absurd h (by assumption)
theorem ZgL {kvs:List (Key×V)}{k:Key}(v:V)(hn:(kvs.map (·.1)).Nodup):((putK kvs k v).map (·.1)).Nodup:=by
 cases h:valV kvs k with
 | none=>exact ZlB v hn h
 | some x=>
  have e:(putK kvs k v).map (·.1)=kvs.map (·.1):=by
   unfold putK
   rw[YAP (by obtain⟨kv,hk,ek⟩:=YAo.mp (ZhQ h);exact YBa.mpr ⟨kv,hk,decide_eq_true ek⟩),YBB]
   refine YCj fun p _=>?_
   show (if p.1=k then (p.1,v) else p).1=p.1
   split<;>rfl
  rw[e];exact hn
theorem Zg7 {C T:Hp->Prop}{R:Prop}(h1:(∀H,C H->T H)->R)(h2:∀H,C H->T H):R:=h1 h2
def ListOk (l m:Q11)(ws:Q22):Prop:=ws.Perm (Zar l m)
theorem ListOk.mem {l m:Q11}{ws:Q22}(h:ListOk l m ws){w:Q11}:w∈ws↔w∈Zar l m:=h.mem_iff
theorem ListOk.nd {l m:Q11}{ws:Q22}(h:ListOk l m ws)(ok:StripOk l m):ws.Nodup:=h.nodup_iff.mpr (Zd2 (ZcC ok.k))
theorem ListOk.len {l m:Q11}{ws:Q22}(h:ListOk l m ws)(ok:StripOk l m):ws.length<=200:=by
 rw[h.length_eq]
 refine YAJ (Zhu (ZcC ok.k)) (YAJ (Nat.mul_le_mul ok.m4 (Nat.succ_le_succ ok.l40)) (by decide))
theorem ListOk.ne {l m:Q11}{ws:Q22}(h:ListOk l m ws){w:Q11}(hw:w∈ws):w≠[]:=(Zao.mp (h.mem.mp hw)).1.ne
theorem ListOk.w41 {l m:Q11}{ws:Q22}(h:ListOk l m ws)(ok:StripOk l m){w:Q11}(hw:w∈ws):w.length<=41:=by
 have:=(Zao.mp (h.mem.mp hw)).1.tail.len
 rw[YCh]at this
 have:=ok.l40
 omega
theorem ListOk.wm {l m:Q11}{ws:Q22}(h:ListOk l m ws)(ok:StripOk l m){w:Q11}(hw:w∈ws):∀c∈w,c∈m:=by
 obtain⟨ms,c,hc,hl⟩:=Zao.mp (h.mem.mp hw)
 intro x hx
 have e:w=w.dropLast++[c]:=by
  obtain⟨ys,rfl⟩:=List.getLast?_eq_some_iff.mp hl
  rw[YBy]
 rw[e]at hx
 rcases YAZ.mp hx with z | z
 .exact ok.mem x (ms.init.mem z)
 .rw[YAR.mp z];exact hc
theorem ListOk.av {l m:Q11}{ws:Q22}(h:ListOk l m ws){w:Q11}(hm:∀c∈w,c∈m):Av ws w↔Inf w l:=by
 rw[ZiG hm]
 exact⟨fun a v hv=>a v (h.mem.mpr hv),fun a v hv=>a v (h.mem.mp hv)⟩
theorem ListOk.anti {l m:Q11}{ws:Q22}(h:ListOk l m ws):Anti ws:=fun v hv w hw hi=>Zhv (h.mem.mp hv) (h.mem.mp hw) hi
theorem ListOk.stem {l m:Q11}{ws:Q22}(h:ListOk l m ws)(ok:StripOk l m){u:Q11}(hu:Stem ws u):∀c∈u,c∈m:=by
 rcases hu with rfl | ⟨v,hv,k,_,rfl⟩
 .intro c hc;cases hc
 .exact fun c hc=>h.wm ok hv c (YAf hc)
theorem ListOk.stemAv {l m:Q11}{ws:Q22}(h:ListOk l m ws){u:Q11}(hu:Stem ws u):Av ws u:=Zk8 h.anti (fun v hv=>h.ne hv) hu
theorem Zgi {ws:Q22}{w:Q11}:avB ws w=true↔Av ws w:=by
 unfold avB Av
 rw[Bool.not_eq_true',List.any_eq_false]
 exact⟨fun a v hv hi=>a v hv (Zbu.mpr hi),fun a v hv hi=>a v hv (Zbu.mp hi)⟩
structure StemD (ws:Q22)(kvs:List (Key×V)):Prop where
 key:∀kv∈kvs,∃u:Q11,kv.1=kTx u/\Stem ws u
 has:∀u,Stem ws u->(valV kvs (kTx u)).isSome=true
 nd:(kvs.map (·.1)).Nodup
 len:kvs.length<=8201
theorem Zc9 {kvs:List (Key×V)}{k:Key}(h:(valV kvs k).isSome=true):∃kv∈kvs,kv.1=k:=by
 unfold valV at h
 cases e:kvs.find? fun kv=>decide (kv.1=k) with
 | none=>rw[e]at h;cases h
 | some kv=>exact⟨kv,List.mem_of_find?_eq_some e,by simpa using List.find?_some e⟩
theorem StemD.iff {ws:Q22}{kvs:List (Key×V)}(h:StemD ws kvs)(u:Q11):(valV kvs (kTx u)).isSome=true↔Stem ws u:=by
 constructor
 .intro z
  obtain⟨kv,hm,e⟩:=Zc9 z
  obtain⟨v,ev,hv⟩:=h.key kv hm
  rw[ZaR (e.symm.trans ev)];exact hv
 .exact h.has u
theorem Zng {K:Q44}{H:Hp}{Q:VK}{x y:Q11}(h:∀b:Bool,(b=true->x≠y)->Q (.bl b) H):rEqD K true (tx x) (tx y) H Q:=.inl ⟨rfl,by
 rw[YAP rfl]
 exact h _ fun z e=>by rw[e]at z;simp at z⟩
noncomputable def estOf (ws:Q22) (u:Q11):Q11:=Classical.choose (ZgQ ws u)
theorem ZcD (ws:Q22)(u:Q11):ZeM ws u (estOf ws u):=YDC (ZgQ ws u)
noncomputable def onwC (ws:Q22)(m u:Q11):Q11:=m.filter fun c=>avB ws (u++[c])
noncomputable def onw (ws:Q22) (m u:Q11):List (Nat×Q11):=(onwC ws m u).map fun c=>(c,estOf ws (u++[c]))
noncomputable def outS (ws:Q22) (m u:Q11):Q22:=(onw ws m u).map (·.2)
noncomputable def wayK (x:Nat×Q11):Key×V:=(kTx [x.1],tx x.2)
def WaysL (H:Hp)(p:Addr)(kw:List (Key×V))(ws:Q22)(m:Q11)(ss:Q22):Prop:=kw.length=ss.length/\∀(i:Nat) (u:Q11),ss[i]?=some u->∃a,kw[i]?=some (kTx u,.ref a)/\a≠p/\H a=some (.dK ((onw ws m u).map wayK))
structure StemsL (ws ss:Q22):Prop where
 nd:ss.Nodup
 iff:∀u,u∈ss↔Stem ws u
 len:ss.length<=8201
structure EndsG (ws:Q22)(m:Q11)(ss es:Q22):Prop where
 nd:es.Nodup
 sub:∀s∈es,s∈ss
 nil:[]∈es
 ord:∀(k:Nat) (s:Q11),es[k]?=some s->∀t∈outS ws m s,t∈es.take k
theorem WaysL.chg {H H':Hp}{p:Addr}{kw:List (Key×V)}{ws ss:Q22}{m:Q11}(h:WaysL H p kw ws m ss)(s:∀b o,b≠p->H b=some o->H' b=some o):WaysL H' p kw ws m ss:=⟨h.1,fun i u hu=>by
 obtain⟨a,e,n,ha⟩:=h.2 i u hu
 exact⟨a,e,n,s _ _ n ha⟩⟩
theorem WaysL.same {H H':Hp}{p:Addr}{kw:List (Key×V)}{ws ss:Q22}{m:Q11}(h:WaysL H p kw ws m ss)(s:Same H H'):WaysL H' p kw ws m ss:=h.chg fun b o _ e=>s b o e
theorem WaysL.snoc {H:Hp}{p:Addr}{kw:List (Key×V)}{ws ss:Q22}{m u:Q11}{a:Addr}(h:WaysL H p kw ws m ss)(n:a≠p)(ha:H a=some (.dK ((onw ws m u).map wayK))):WaysL H p (kw++[(kTx u,.ref a)]) ws m (ss++[u]):=by
 refine⟨by rw[YAE,YAE,h.1,YAg,YAg],fun i v hv=>?_⟩
 by_cases c:i<ss.length
 .rw[YAl c]at hv
  rw[YAl (by rw[h.1];exact c)]
  exact h.2 i v hv
 .have il:=(YAK.mp hv).1
  rw[YAE,YAg]at il
  have e:i=ss.length:=by omega
  subst e
  rw[YAn (YAH _),YCZ]at hv
  cases hv
  refine⟨a,?_,n,ha⟩
  rw[<-h.1,YAn (YAH _),YCZ]
  rfl
theorem WaysL.keys {H:Hp}{p:Addr}{kw:List (Key×V)}{ws ss:Q22}{m:Q11}(h:WaysL H p kw ws m ss):kw.map (·.1)=ss.map kTx:=by
 apply YCC
 intro i
 rw[YAW,YAW]
 cases e:ss[i]? with
 | none=>
  have:kw[i]?=none:=by
   rw[List.getElem?_eq_none_iff]at e ⊢
   rw[h.1];exact e
  rw[this];rfl
 | some u=>
  obtain⟨a,e1,_⟩:=h.2 i u e
  rw[e1];rfl
theorem Znf {α:Type}{es:List α}{n:Nat}{r:α}(nd:es.Nodup)(h:es[n]?=some r):r∉es.take n:=by
 intro hm
 obtain⟨k,hk,e⟩:=YBZ hm
 rw[YAc]at hk
 rw[List.getElem_take]at e
 obtain⟨hn,e2⟩:=YAK.mp h
 have:=(List.nodup_iff_pairwise_ne.mp nd)
 rw[YCM]at this
 exact this k n (by omega) hn (by omega) (by rw[e,e2])
theorem ZhP {kvs:List (Key×V)}{k:Key}(h:k∉kvs.map (·.1)):valV kvs k=none:=by
 cases e:valV kvs k with
 | none=>rfl
 | some v=>
  obtain⟨kv,hm,he⟩:=Zc9 (kvs:=kvs) (k:=k) (by rw[e];rfl)
  exact absurd (YAo.mpr ⟨kv,hm,he⟩) h
theorem ZgN:∀(xs acc:List (Key×V)),((acc++xs).map (·.1)).Nodup->Zbm acc xs=acc++xs
 | [],acc,_=>by rw[YCF];rfl
 | x::xs,acc,h=>by
  have e:acc++x::xs=(acc++[x])++xs:=by simp
  have hx:x.1∉acc.map (·.1):=by
   rw[YBA,YCQ]at h
   exact fun hm=>h.2.2 x.1 hm x.1 (by simp) rfl
  have r:=ZgN xs (acc++[x]) (by rw[<-e];exact h)
  rw[e,<-r]
  show Zbm (putK acc x.1 x.2) xs=_
  rw[Zcs _ (ZhP hx)]
theorem Zin {ws:Q22}{m u:Q11}(hm:m.Pairwise (· < ·)):(((onw ws m u).map wayK).map (·.1)).Nodup:=by
 unfold onw onwC
 rw[YBB,YBB]
 have:(m.filter fun c=>avB ws (u++[c])).Nodup:=(hm.imp fun h=>YAd h).filter _
 refine Zb0 this ?_
 intro x _ y _ e
 have e':kTx [x]=kTx [y]:=e
 have:=ZaR e'
 simpa using this
theorem Zi4 {α:Type}(P:Nat->Bool)(g:Nat->α)(l:Q11):((List.range l.length).filter fun i=>P (l.getD i 0)).map (fun i=>g (l.getD i 0))=(l.filter P).map g:=by
 have e:l=(List.range l.length).map fun i=>l.getD i 0:=by
  apply YBx (by simp)
  intro i h1 h2
  simp[YAI,h1]
 conv=>rhs;rw[e]
 rw[YDT,YBB]
 rfl
theorem Zc2 {ws:Q22}{i:Nat}{x:V}(h:(ws.map tx)[i]?=some x):∃y,ws[i]?=some y/\x=tx y:=by
 rw[YAW]at h
 cases e:ws[i]? with
 | none=>rw[e]at h;cases h
 | some y=>rw[e]at h;cases h;exact⟨y,rfl,rfl⟩
structure StemP (ws:Q22)(i j:Nat)(kvs:List (Key×V)):Prop where
 key:∀kv∈kvs,∃u:Q11,kv.1=kTx u/\Stem ws u
 nil:(valV kvs (kTx [])).isSome=true
 has:∀(a:Nat) (w:Q11),ws[a]?=some w->∀k,k<w.length->(a<i\/(a=i/\k<j))->(valV kvs (kTx (w.take k))).isSome=true
 nd:(kvs.map (·.1)).Nodup
theorem ZgO {kvs:List (Key×V)}{k:Key}{v:V}{kv:Key×V}(h:kv∈putK kvs k v):kv.1=k\/∃p∈kvs,p.1=kv.1:=by
 unfold putK at h
 split at h
 .obtain⟨p,hp,e⟩:=YAo.mp h
  split at e
  .exact .inr ⟨p,hp,by rw[<-e]⟩
  .exact .inr ⟨p,hp,by rw[<-e]⟩
 .rcases YAZ.mp h with z | z
  .exact .inr ⟨kv,z,rfl⟩
  .rw[YAR.mp z];exact .inl rfl
theorem StemP.start (ws:Q22):StemP ws 0 0 (Zbm [] [(kTx [],.bl true)]) where
 key:=fun kv h=>by
  rcases ZgO (kvs:=[]) h with z | ⟨p,hp,_⟩
  .exact⟨[],z,.inl rfl⟩
  .cases hp
 nil:=Zdb (kvs:=[]) (.inr rfl)
 has:=fun a w _ k _ h=>by rcases h with z | ⟨_,z⟩<;>omega
 nd:=ZgL (kvs:=[]) (.bl true) List.nodup_nil
theorem StemP.put {ws:Q22}{i j:Nat}{kvs:List (Key×V)}{w:Q11}(h:StemP ws i j kvs)(hw:ws[i]?=some w)(hj:j<w.length):StemP ws i (j+1) (putK kvs (kTx (w.take j)) (.bl true)) where
 key:=fun kv hm=>by
  rcases ZgO hm with z | ⟨p,hp,e⟩
  .exact⟨w.take j,z,.inr ⟨w,YAT hw,j,hj,rfl⟩⟩
  .obtain⟨u,e2,hu⟩:=h.key p hp
   exact⟨u,e▸e2,hu⟩
 nil:=Zdb (.inl h.nil)
 has:=fun a v hv k hk z=>by
  by_cases c:a<i\/(a=i/\k<j)
  .exact Zdb (.inl (h.has a v hv k hk c))
  .have ea:a=i:=by omega
   have ek:k=j:=by omega
   subst ea ek
   rw[hw]at hv
   cases hv
   exact Zdb (.inr rfl)
 nd:=ZgL _ h.nd
theorem StemP.one {ws:Q22}{i:Nat}{kvs:List (Key×V)}{w:Q11}(h:StemP ws i 0 kvs)(hw:ws[i]?=some w):StemP ws i (1+0) kvs:=
 ⟨h.key,h.nil,fun a v hv k hk z=>by
  by_cases c:a<i
  .exact h.has a v hv k hk (.inl c)
  .have ek:k=0:=by omega
   subst ek
   rw[YCK];exact h.nil,h.nd⟩
theorem StemP.next {ws:Q22}{i j:Nat}{kvs:List (Key×V)}{w:Q11}(h:StemP ws i j kvs)(hw:ws[i]?=some w)(hj:w.length<=j):StemP ws (i+1) 0 kvs:=
 ⟨h.key,h.nil,fun a v hv k hk z=>by
  refine h.has a v hv k hk ?_
  by_cases c:a<i
  .exact .inl c
  .have ea:a=i:=by omega
   subst ea
   rw[hw]at hv
   cases hv
   exact .inr ⟨rfl,by omega⟩,h.nd⟩
theorem StemP.done {ws:Q22}{kvs:List (Key×V)}(h:StemP ws ws.length 0 kvs)(hl:kvs.length<=8201):StemD ws kvs:=
 ⟨h.key,fun u hu=>by
  rcases hu with rfl | ⟨v,hv,k,hk,rfl⟩
  .exact h.nil
  .obtain⟨a,ha,e⟩:=YBZ hv
   exact h.has a v (YAK.mpr ⟨ha,e⟩) k hk (.inl ha),h.nd,hl⟩
def SameX (p:Addr)(H H':Hp):Prop:=∀b o,b≠p->H b=some o->H' b=some o
theorem Zpm {p:Addr}{H H':Hp}(s:Same H H'):SameX p H H':=fun b o _ e=>s b o e
theorem SameX.trans {p:Addr}{H H1 H2:Hp}(s:SameX p H H1)(t:SameX p H1 H2):SameX p H H2:=fun b o n e=>t b o n (s b o n e)
theorem SameX.updX {p:Addr}{H H':Hp}{o:HO}(s:SameX p H H'):SameX p H (upd H' p o):=fun b u n e=>by rw[Zac n];exact s b u n e
theorem SameX.updN {p a:Addr}{H H':Hp}{o:HO}(s:SameX p H H')(h:H a=none):SameX p H (upd H' a o):=fun b u n e=>by rw[Zac (Zah e h)];exact s b u n e
theorem SameX.same {p:Addr}{H H':Hp}{o:HO}(s:SameX p H H')(h:H p=some o)(h':H' p=some o):Same H H':=fun b u e=>by
 by_cases c:b=p
 .subst c;rw[h]at e;cases e;exact h'
 .exact s b u c e
noncomputable def edges (ws:Q22) (m:Q11) (ss:Q22):List (Q11×Q11):=ss.flatMap fun s=>(outS ws m s).map fun r=>(r,s)
noncomputable def srcOf (E:List (Q11×Q11))(r:Q11):Q22:=(E.filter fun e=>decide (e.1=r)).map (·.2)
structure SrcAt (H H':Hp)(pS pL:Addr)(kS:List (Key×V))(E:List (Q11×Q11)):Prop where
 no:∀r,valV kS (kTx r)=none->srcOf E r=[]
 yes:∀r v,valV kS (kTx r)=some v->∃a,v=.ref a/\H a=none/\a≠pS/\a≠pL/\H' a=some (.lst ((srcOf E r).map tx))
 inj:∀r r' a,valV kS (kTx r)=some (.ref a)->valV kS (kTx r')=some (.ref a)->r=r'
 len:kS.length<=E.length
def ZfH (kL:List (Key×V))(ss:Q22)(f:Q11->Nat):Prop:=∀s∈ss,valV kL (kTx s)=some (.int (f s:Nat))
theorem ZlS {g:TG}{tb:TS}{D:Ends}{U:St}{H:Hp}{o:Obj}{kvs:List (Key×V)}{a:Addr}(Pv:Nat->St->Hp->Prop)(h0:Pv 0 U H)(hl:∀i U H,Pv i U H->H a=some (.frz o (.dK kvs)))
  (hs:∀i p U H,kvs[i]?=some p->Pv i U H->g p.2 U H fun U2 H2=>tb { D with nx:=Pv (i+1),ct:=Pv (i+1),bk:=D.nx } U2 H2) (hd:∀U H,Pv kvs.length U H->D.nx U H):ForRun (Itv o kvs a) g tb D U H:=by
 refine⟨fun i m U H=>m=kvs.length-i/\i<=kvs.length/\Pv i U H,⟨kvs.length,by simp,YAq _,h0⟩,?_⟩
 rintro i m U H ⟨rfl,hi,p⟩
 have q:=hl i U H p
 by_cases hlt:i<kvs.length
 .refine .inr ⟨⟨q,hlt⟩,Pv (i+1),fun U' H' p'=>⟨kvs.length-(i+1),by omega,rfl,hlt,p'⟩,fun x H' y=>?_⟩
  obtain⟨e,p2,e2,e3⟩:=y
  subst e e3
  exact hs i p2 U _ e2 p
 .have e:i=kvs.length:=by omega
  subst e
  exact .inl ⟨⟨q,YAH _⟩,hd U H p⟩
theorem Zeh:∀ {kvs:List (Key×V)} {i:Nat} {k:Key} {v:V},(kvs.map (·.1)).Nodup->kvs[i]?=some (k,v)->valV kvs k=some v
 | [],i,k,v,_,h=>by simp at h
 | p::kvs,0,k,v,_,h=>by
  cases h
  exact Za6 rfl
 | p::kvs,i+1,k,v,nd,h=>by
  rw[YAr,YBf]at nd
  have h':kvs[i]?=some (k,v):=h
  have:p.1≠k:=fun e=>nd.1 (by rw[e];exact YAo.mpr ⟨_,YAT h',rfl⟩)
  rw[Za7 this]
  exact Zeh nd.2 h'
theorem WaysL.val {H:Hp}{p:Addr}{kw:List (Key×V)}{ws ss:Q22}{m u:Q11}(h:WaysL H p kw ws m ss)(nd:ss.Nodup)(hu:u∈ss):∃a,valV kw (kTx u)=some (.ref a)/\a≠p/\H a=some (.dK ((onw ws m u).map wayK)):=by
 obtain⟨i,hi,e⟩:=YBZ hu
 obtain⟨a,h1,h2,h3⟩:=h.2 i u (YAK.mpr ⟨hi,e⟩)
 refine⟨a,Zeh ?_ h1,h2,h3⟩
 rw[h.keys]
 exact Zb0 nd fun x _ y _ e=>ZaR e
theorem Zbv (E:List (Q11×Q11))(r s x:Q11):srcOf (E++[(r,s)]) x=if r=x then srcOf E x++[s] else srcOf E x:=by
 unfold srcOf
 rw[YBV,YBA]
 by_cases e:r=x
 .simp[e]
 .simp[e]
theorem SrcAt.keep {H H' H'':Hp}{pS pL:Addr}{kS:List (Key×V)}{E:List (Q11×Q11)}(h:SrcAt H H' pS pL kS E)(k:∀a xs,H' a=some (.lst xs)->H'' a=some (.lst xs)):SrcAt H H'' pS pL kS E:=
 ⟨h.no,fun r v hv=>let ⟨a,e,n,n1,n2,ha⟩:=h.yes r v hv;⟨a,e,n,n1,n2,k _ _ ha⟩,h.inj,h.len⟩
theorem SrcAt.old {H H':Hp}{pS pL a:Addr}{kS:List (Key×V)}{E:List (Q11×Q11)}{r s:Q11}(h:SrcAt H H' pS pL kS E)(hv:valV kS (kTx r)=some (.ref a)):SrcAt H (upd H' a (.lst ((srcOf E r).map tx++[tx s]))) pS pL kS (E++[(r,s)]) where
 no:=fun x hx=>by
  have:r≠x:=fun e=>by rw[e,hx]at hv;cases hv
  rw[Zbv,YAL this];exact h.no x hx
 yes:=fun x v hx=>by
  obtain⟨a',e,n,n1,n2,ha⟩:=h.yes x v hx
  refine⟨a',e,n,n1,n2,?_⟩
  by_cases c:r=x
  .subst c
   rw[hv]at hx
   cases hx
   cases e
   rw[Zad,Zbv,YAP rfl,YBA];rfl
  .have:a'≠a:=fun z=>c (h.inj r x a hv (by rw[hx,e,z]))
   rw[Zac this,Zbv,YAL c];exact ha
 inj:=h.inj
 len:=YAJ h.len (by rw[YAE];omega)
theorem SrcAt.new {H H' H'':Hp}{pS pL z:Addr}{kS:List (Key×V)}{E:List (Q11×Q11)}{r s:Q11}(h:SrcAt H H' pS pL kS E)(hv:valV kS (kTx r)=none)(nz:H z=none)(nz':H' z=none)(n1:z≠pS)(n2:z≠pL)
  (k:∀a xs,a≠z->H' a=some (.lst xs)->H'' a=some (.lst xs)) (hz:H'' z=some (.lst [tx s])):SrcAt H H'' pS pL (putK kS (kTx r) (.ref z)) (E++[(r,s)]) where
 no:=fun x hx=>by
  rw[ZaU]at hx
  split at hx
  .cases hx
  .rename_i c
   have:r≠x:=fun e=>c (by rw[e])
   rw[Zbv,YAL this];exact h.no x hx
 yes:=fun x v hx=>by
  rw[ZaU]at hx
  by_cases c:x=r
  .subst c
   rw[YAP rfl]at hx
   cases hx
   refine⟨z,rfl,nz,n1,n2,?_⟩
   rw[hz,Zbv,YAP rfl,h.no x hv];rfl
  .rw[YAL (fun e=>c (ZaR e))]at hx
   obtain⟨a',e,n,m1,m2,ha⟩:=h.yes x v hx
   refine⟨a',e,n,m1,m2,?_⟩
   rw[Zbv,YAL (fun e=>c e.symm)]
   exact k _ _ (fun e=>by rw[e,nz']at ha;cases ha) ha
 inj:=fun x y a hx hy=>by
  have look:∀x a,valV (putK kS (kTx r) (.ref z)) (kTx x)=some (.ref a)->(x=r/\a=z)\/(x≠r/\valV kS (kTx x)=some (.ref a)/\a≠z):=fun x a hx=>by
   rw[ZaU]at hx
   by_cases c:x=r
   .rw[YAP (by rw[c])]at hx
    cases hx
    exact .inl ⟨c,rfl⟩
   .rw[YAL (fun e=>c (ZaR e))]at hx
    obtain⟨a',e,n,m1,m2,ha⟩:=h.yes x _ hx
    cases e
    exact .inr ⟨c,hx,fun e=>by rw[e,nz']at ha;cases ha⟩
  rcases look x a hx with⟨e1,e2⟩|⟨e1,e2,e3⟩
  .rcases look y a hy with⟨f1,f2⟩|⟨f1,f2,f3⟩
   .rw[e1,f1]
   .exact absurd e2 f3
  .rcases look y a hy with⟨f1,f2⟩|⟨f1,f2,f3⟩
   .exact absurd f2 e3
   .exact h.inj x y a e2 f2
 len:=by
  have:=ZaK kS (kTx r) (.ref z)
  have:=h.len
  rw[YAE,YAg]
  omega
theorem Zk9 (os:Q22)(s r:Q11):srcOf (os.map fun t=>(t,s)) r=List.replicate (os.count r) s:=by
 unfold srcOf
 induction os with
 | nil=>rfl
 | cons t os ih=>
  rw[YAr,YDH,List.count_cons]
  by_cases e:t=r
  .subst e
   simp only[decide_true,if_true,beq_self_eq_true,YAr,ih,List.replicate_succ]
  .have e':(t == r)=false:=by simpa using e
   simp only[decide_eq_false e,YCX,if_false,e',ih,Nat.add_zero]
theorem Zla (E F:List (Q11×Q11))(r:Q11):srcOf (E++F) r=srcOf E r++srcOf F r:=by unfold srcOf;rw[YBV,YBA]
theorem ZhZ {ws:Q22}{m r s:Q11}{ss:Q22}(h:s∈srcOf (edges ws m ss) r):s∈ss:=by
 unfold srcOf edges at h
 obtain⟨e,he,rfl⟩:=YAo.mp h
 obtain⟨u,hu,ht⟩:=YDG.mp (YBP.mp he).1
 obtain⟨t,_,rfl⟩:=YAo.mp ht
 exact hu
theorem ZeU {ws:Q22}{m r s:Q11}:∀ {ss:Q22},ss.Nodup->s∈ss->(srcOf (edges ws m ss) r).count s=(outS ws m s).count r
 | [],_,h=>by cases h
 | u::ss,nd,h=>by
  have e:srcOf (edges ws m (u::ss)) r=List.replicate ((outS ws m u).count r) u++srcOf (edges ws m ss) r:=by
   unfold edges
   rw[List.flatMap_cons,Zla,Zk9]
  have nd':=YBf.mp nd
  rw[e,List.count_append,List.count_replicate]
  by_cases c:u=s
  .subst c
   have z:(srcOf (edges ws m ss) r).count u=0:=List.count_eq_zero.mpr fun z=>nd'.1 (ZhZ z)
   rw[z,YAP (by simp)];rfl
  .have hs:s∈ss:=by
    rcases YAU.mp h with z | z
    .exact absurd z.symm c
    .exact z
   rw[YAL (by simpa using c),Nat.zero_add]
   exact ZeU nd'.2 hs
theorem Zh0 {ws:Q22}{m r:Q11}{ss:Q22}(m4:m.length<=4)(hl:ss.length<=8201):(edges ws m ss).length<=32804:=by
 have:(edges ws m ss).length<=ss.length*4:=Zbz (fun s=>by
  unfold outS onw onwC
  rw[YAB,YAB,YAB]
  exact YAJ (YAe _ _) m4) ss
 omega
theorem Zh1 (E:List (Q11×Q11))(r:Q11):(srcOf E r).length<=E.length:=by unfold srcOf;rw[YAB];exact YAe _ _
def Dead (ws:Q22)(m:Q11)(k:Nat)(s:Q11):Prop:=∀x:Q11,(∀c∈x,c∈m)->Av ws (s++x)->x.length<k
theorem Zlx {ws:Q22}{m s t:Q11}(h:t∈outS ws m s):∃c∈m,Av ws (s++[c])/\ZeM ws (s++[c]) t:=by
 unfold outS onw onwC at h
 obtain⟨x,hx,rfl⟩:=YAo.mp h
 obtain⟨c,hc,rfl⟩:=YAo.mp hx
 have:=YBP.mp hc
 exact⟨c,this.1,Zgi.mp this.2,ZcD _ _⟩
theorem ZgZ {ws:Q22}{u e:Q11}(h:ZeM ws u e):Stem ws e:=let ⟨_,_,_,hs,_⟩:=h;hs
theorem ZlV {l m:Q11}{ws ss es:Q22}{f:Q11->Nat}(ok:StripOk l m)(lk:ListOk l m ws)(sl:StemsL ws ss)(h:KI ss (outS ws m) es.length es f):EndsG ws m ss es:=by
 refine⟨h.nd,h.sub,?_,h.ord⟩
 have h0:∀s∈ss,¬Dead ws m 0 s:=fun s hs d=>by
  have:=d [] (fun c hc=>by cases hc) (by rw[YCF];exact lk.stemAv ((sl.iff s).mp hs))
  omega
 have hN:([]:Q11)∈ss:=(sl.iff []).mpr (.inl rfl)
 refine KI.all (D:=Dead ws m) h h0 (fun k s hs d t ht=>?_) (l.length+1) [] hN fun x hx ha=>?_
 .obtain⟨c,hc,ha,he⟩:=Zlx ht
  refine⟨(sl.iff t).mpr (ZgZ he),fun x hx hax=>?_⟩
  have:=d (c::x) (fun y hy=>by
   rcases YAU.mp hy with z | z
   .rw[z];exact hc
   .exact hx y z) ((Zkl he).mpr ⟨ha,hax⟩)
  rw[YAk]at this
  omega
 .have:=((lk.av hx).mp (by rw[YCo]at ha;exact ha)).len
  omega
theorem ZhD (ws:Q22)(m:Q11)(ss:Q22)(u:Q11):edges ws m (ss++[u])=edges ws m ss++(outS ws m u).map fun r=>(r,u):=by
 unfold edges
 rw[YDS]
 simp
theorem ZnR {K:Q44}{H:Hp}{Q:VK}{n:Nat}(h:Q (.bl (decide (n=0))) H):rEqD K false (.int (n:Int)) (.int 0) H Q:=.inl ⟨rfl,by
 rw[YAL YAD]
 have:decide (V.int (n:Int)=V.int 0)=decide (n=0):=by
  rw[decide_eq_decide]
  constructor
  .intro e;injection e with e;omega
  .intro e;rw[e];rfl
 rw[this];exact h⟩
theorem Zi3 {α β:Type}(d:α)(P:α->Bool)(g:α->β)(l:List α):((List.range l.length).filter fun i=>P (l.getD i d)).map (fun i=>g (l.getD i d))=(l.filter P).map g:=by
 have e:l=(List.range l.length).map fun i=>l.getD i d:=by
  apply YBx (by simp)
  intro i h1 h2
  simp[YAI,h1]
 conv=>rhs;rw[e]
 rw[YDT,YBB]
 rfl
theorem ZgB {kvs:List (Key×V)}{k:Key}{v w:V}(h:valV kvs k=some w):(putK kvs k v).length=kvs.length:=by
 unfold putK
 split
 .rw[YAB]
 .rename_i c
  obtain⟨kv,hm,e⟩:=Zc9 (kvs:=kvs) (k:=k) (by rw[h];rfl)
  exact absurd (YBa.mpr ⟨kv,hm,by simpa using e⟩) c
structure LW (ws:Q22)(m s x:Q11):Prop where
 mem:∀c∈x,c∈m
 av:Av ws (s++x)
 max:∀y:Q11,(∀c∈y,c∈m)->Av ws (s++y)->y.length<=x.length
structure PW (ws:Q22)(m s:Q11)(j:Nat)(x:Q11):Prop where
 mem:∀c∈x,c∈m
 av:Av ws (s++x)
 max:∀(c:Nat) (y:Q11),c∈(onwC ws m s).take j->(∀c∈y,c∈m)->Av ws (s++c::y)->y.length+1<=x.length
theorem PW.start {ws:Q22}{m s:Q11}(h:Av ws s):PW ws m s 0 []:=
 ⟨fun c hc=>(by cases hc),(by rw[YCF];exact h),fun c y hc=>(by rw[YCK]at hc;cases hc)⟩
theorem ZgJ {ws:Q22}{m s:Q11}{c:Nat}:c∈onwC ws m s↔c∈m/\Av ws (s++[c]):=by
 unfold onwC
 rw[YBP,Zgi]
theorem PW.done {ws:Q22}{m s x:Q11}(h:PW ws m s (onwC ws m s).length x):LW ws m s x:=
 ⟨h.mem,h.av,fun y hy ha=>by
  cases y with
  | nil=>exact YAq _
  | cons c y=>
   have he:=ZcD ws (s++[c])
   have:=(Zkl (x:=y) he).mp ha
   exact h.max c y (by rw[YBJ];exact ZgJ.mpr ⟨hy c YAi,this.1⟩) (fun d hd=>hy d (YAY _ hd)) ha⟩
theorem PW.next {ws:Q22}{m s x z:Q11}{j c:Nat}(h:PW ws m s j x)(hc:(onwC ws m s)[j]?=some c)(hz:LW ws m (estOf ws (s++[c])) z):
  (x.length<(c::z).length->PW ws m s (j+1) (c::z))/\(¬x.length<(c::z).length->PW ws m s (j+1) x):=by
 have hm:=ZgJ.mp (YAT hc)
 have he:=ZcD ws (s++[c])
 have tk:(onwC ws m s).take (j+1)=(onwC ws m s).take j++[c]:=by rw[YCP,hc];rfl
 have key:∀(d:Nat) (y:Q11),d∈(onwC ws m s).take (j+1)->(∀c∈y,c∈m)->Av ws (s++d::y)->(y.length+1<=x.length\/y.length+1<=(c::z).length):=fun d y hd hy ha=>by
  rw[tk]at hd
  rcases YAZ.mp hd with q | q
  .exact .inl (h.max d y q hy ha)
  .rw[YAR.mp q]at ha
   have:=hz.max y hy ((Zkl he).mp ha).2
   exact .inr (by rw[YAk];omega)
 constructor
 .intro lt
  refine⟨fun d hd=>?_,(Zkl he).mpr ⟨hm.2,hz.av⟩,fun d y hd hy ha=>?_⟩
  .rcases YAU.mp hd with q | q
   .rw[q];exact hm.1
   .exact hz.mem d q
  .rcases key d y hd hy ha with q | q<;>omega
 .intro lt
  refine⟨h.mem,h.av,fun d y hd hy ha=>?_⟩
  rcases key d y hd hy ha with q | q<;>omega
theorem LW.text {l m x:Q11}{ws:Q22}(ok:StripOk l m)(lk:ListOk l m ws)(h:LW ws m [] x):x=l:=by
 have h1:=h.max l ok.mem (by rw[YCo];exact(lk.av ok.mem).mpr (Inf.refl _))
 have h2:=(lk.av h.mem).mp (by have:=h.av;rw[YCo]at this;exact this)
 exact ZgR h2 h1
theorem LW.len {l m s x:Q11}{ws:Q22}(ok:StripOk l m)(lk:ListOk l m ws)(hs:Stem ws s)(h:LW ws m s x):x.length<=40:=by
 have hm:∀c∈s++x,c∈m:=fun c hc=>by
  rcases YAZ.mp hc with z | z
  .exact lk.stem ok hs c z
  .exact h.mem c z
 have:=((lk.av hm).mp h.av).len
 rw[YAE]at this
 have:=ok.l40
 omega
noncomputable def Zlr:Q11:=[115,116,97,110,100,115]
noncomputable def ZmK:Q11:=[115,116,111,111,100]
noncomputable def ZmL:Q11:=[102,105,114,115,116]
noncomputable def Zpr:Q11:=[108,97,115,116]
theorem ZnO {s L:Q11}(h:Ext s L):∃w0,Frs s L w0/\∀w,Frs s L w->¬BefW w w0:=by
 have base:∀(n:Nat) (w:Q11),w.length<=n->Frs s L w->∃w0,Frs s L w0/\∀u,Frs s L u->w0.length<=u.length:=by
  intro n
  induction n with
  | zero=>intro w hw f;exact⟨w,f,fun u _=>by omega⟩
  | succ n ih=>
   intro w hw f
   by_cases c:∃u,Frs s L u/\u.length<w.length
   .obtain⟨u,fu,hu⟩:=c;exact ih u (by omega) fu
   .exact⟨w,f,fun u fu=>Nat.le_of_not_lt fun z=>c ⟨u,fu,z⟩⟩
 have fL:Frs s L L:=⟨Inf.refl L,fun z=>by have:=z.len;have:=h.len;omega⟩
 obtain⟨w0,f0,hm⟩:=base L.length L (YAH _) fL
 refine⟨w0,f0,fun w fw hb=>?_⟩
 rcases hb with hb | ⟨e,hb⟩
 .have:=hm w fw;omega
 .rw[ZiY h fw f0 e]at hb;exact List.lt_irrefl _ hb
theorem ZeX {rs s L m:Q11}(h:Ext s L)(hm:∀x∈L,x∈m)(hr:m.Pairwise (· < ·)):∃w0:Q11,Zbn rs s L m=[(w0,[tx rs,.int (fpl L w0:Nat)])]:=by
 obtain⟨w0,f0,hmn⟩:=ZnO h
 exact⟨w0,by unfold Zbn;rw[ZgY h hm hr f0 hmn];rfl⟩
theorem ZeY {H:Hp}{zs:List V}{r:Q11×List V}(h:RowsA H zs [r]):∃a b,zs=[.ref a]/\H a=some (.tup [tx r.1,.ref b])/\H b=some (.tup r.2):=by
 obtain⟨z,rfl⟩:=List.length_eq_one_iff.mp h.1
 obtain⟨q,hq,a,b,e,h1,h2⟩:=h.2 0 z rfl
 cases hq
 exact⟨a,b,by rw[e],h1,h2⟩
def Zn5 (H:Hp)(S:List Addr)(m:Q11)(v:V)(l:Q11)(ds:List (Bool×Nat))(rc rg:List (Q11×List V)):Prop:=
 ∃(e s t r1 r2 c g:Addr) (ts ys zs:List V),v=.ref e/\H e=some (.tup [.ref s,.ref t])/\H s=some (.tup [tx l,.ref r1,.ref r2])/\H r1=some (.lst ((Zar l m).map tx))/\H r2=some (.lst ts)/\DeedsA H ts ds/\H t=some (.tup [.ref c,.ref g])/\H c=some (.lst ys)/\H g=some (.lst zs)/\RowsA H ys rc/\RowsA H zs rg/\r1∉S/\r2∉S/\c∉S/\g∉S
inductive Hist (H:Hp) (S:List Addr) (m:Q11):List V->Q11->List (Bool×Nat)->Prop
 | nil:Hist H S m [] [] []
 | put {ks:List V} {l:Q11} {ds:List (Bool×Nat)} {v:V} {c0:Nat} (h:Hist H S m ks l ds) (k:Zn5 H S m v l ds (Zbq ZmL l (l++[c0]) m) (Zbn Zlr l (l++[c0]) m)):Hist H S m (ks++[v]) (l++[c0]) (ds++[(true,c0)])
 | drop {ks:List V} {l:Q11} {ds:List (Bool×Nat)} {v:V} {c0:Nat} (h:Hist H S m ks (c0::l) ds) (k:Zn5 H S m v (c0::l) ds (Zbn ZmK l (c0::l) m) (Zbq Zpr l (c0::l) m)):Hist H S m (ks++[v]) l (ds++[(false,c0)])
theorem ZjW {rs s L m:Q11}(m4:m.length<=4)(h:L.length<=40):(Zbq rs s L m).length<=9000:=by
 rw[<-YAB (f:=(·.1)),Zbg]
 exact YAJ (YAe _ _) (YAJ (Zbd m4 h) (by decide))
theorem ZjX {rs s L m:Q11}(m4:m.length<=4)(h:s.length<=40):(Zbn rs s L m).length<=9000:=by
 rw[<-YAB (f:=(·.1)),Zbh]
 exact YAJ (YAe _ _) (YAJ (Zbd m4 h) (by decide))
def TT (a:Ad)(H:Hp):Prop:=TblOk H a.t_K3 lpos lq/\TblOk H a.t_LD Znq lqM
theorem TT.same {a:Ad}{H H':Hp}(t:TT a H)(s:Same H H'):TT a H':=⟨t.1.same s,t.2.same s⟩
theorem TT.upd {a:Ad}{H:Hp}{b:Addr}{o o':HO}(t:TT a H)(h:H b=some o)(n1:ZdG o=false)(n2:Zj2 o=false):TT a (upd H b o'):=⟨t.1.upd h n1 n2,t.2.upd h n1 n2⟩
theorem ZkY {a:Ad}{H H':Hp}{pd:Addr}{o0:HO}(T:TT a H)(k:∀b o,H b=some o->b≠pd->H' b=some o)(h:H pd=some o0)(t:ZdG o0=false)(x:Zj2 o0=false):TT a H':=⟨Zgs T.1 k h t x,Zgs T.2 k h t x⟩
def Zko (L w:Q11)(i:Nat):Prop:=AtW L w i/\∀j,AtW L w j->j=i
def ZhL (s L A B:Q11)(r:Q11×List V):Prop:=
 r.1.length<=100/\¬Inf r.1 s/\((∃i:Nat,r.2=[tx A,.int i]/\Zko L r.1 i)\/(∃(sh:Q11) (i:Nat),r.2=[tx B,tx sh,.int i]/\A≠B/\¬Inf r.1 L/\(sh=r.1.tail\/sh=r.1.dropLast)/\¬Inf sh s/\Zko L sh i/\Inf r.1.tail L/\Inf r.1.dropLast L))
theorem ZnS {K:Q44}{H:Hp}{Q:VK}{x y:Q11}(n:x≠y)(h:Q (.bl false) H):rEqD K false (tx x) (tx y) H Q:=.inl ⟨rfl,by rw[YAL YAD,Zcm,decide_eq_false n];exact h⟩
theorem Znh {K:Q44}{H:Hp}{Q:VK}{x y:Q11}(n:x≠y)(h:Q (.bl true) H):rEqD K true (tx x) (tx y) H Q:=.inl ⟨rfl,by rw[YAP rfl,Zcm,decide_eq_false n];exact h⟩
theorem iteN {b:Bool}{A B:Prop}(h:b=false)(x:B):if b=true then A else B:=by rw[h];exact iteF x
theorem ZcK {H H1 H2:Hp}{t c g la:Addr}{rc rg:List (Q11×List V)}(h:AnsS H1 H2 t c g la rc rg)(s:Same H H1):AnsS H H2 t c g la rc rg:=⟨h.tup,h.came,h.went,h.nc.same s,h.ng.same s,h.nl.same s,h.ncg,h.ncl,h.ngl⟩
theorem ZhF {H H':Hp}{ts:List V}{ds:List (Bool×Nat)}(h:DeedsA H ts ds)(s:Same H H'):DeedsA H' ts ds:=h.chg (S:=[]) s.chg (by simp)
theorem ZjO {K:Q44}{H:Hp}{Q:VK}{x y:Addr}{ts:List V}{ds:List (Bool×Nat)}(h1:SqL K H x ts)(h2:DeedsA H ts ds)(h3:SqL K H y [])(qt:ds≠[]->Q (.bl true) H)(qf:ds=[]->Q (.bl false) H):rEqD K true (.ref x) (.ref y) H Q:=by
 refine .inr ⟨.l (ds.map ZhG),.l [],?_,?_,fun z=>YAD z.1,YAJ (Zi8 ds) (by decide),?_⟩
 .unfold DatOk;exact⟨x,ts,rfl,h1,h2.dat⟩
 .unfold DatOk;exact⟨y,[],rfl,h3,by unfold DatsOk;rfl⟩
 .cases ds with
  | nil=>exact qf rfl
  | cons d ds=>exact qt (by simp)
theorem Zkm {s w:Q11}{c i:Nat}(h:AtW (s++[c]) w i)(k:i+w.length<=s.length):AtW s w i:=by
 refine⟨k,?_⟩
 have h2:=h.2
 rwa [YBC (by omega),YBO (by rw[YAj];omega)]at h2
theorem ZkK {s L w:Q11}(h:Ext s L)(f:Frs s L w):Zko L w (fpl L w):=by
 have un:∀i j,AtW L w i->AtW L w j->i=j:=by
  rcases h with⟨c,rfl⟩|⟨c,rfl⟩
  .have e:∀i,AtW (s++[c]) w i->i+w.length=s.length+1:=fun i hi=>by
    have h1:=hi.1
    rw[YAE,YAg]at h1
    by_cases k:i+w.length<=s.length
    .exact absurd ⟨i,Zkm hi k⟩ f.2
    .omega
   intro i j hi hj
   have:=e i hi
   have:=e j hj
   omega
  .have e:∀i,AtW (c::s) w i->i=0:=fun i hi=>by
    cases i with
    | zero=>rfl
    | succ k=>
     have h1:=hi.1
     have h2:=hi.2
     rw[YAk]at h1
     rw[List.drop_succ_cons]at h2
     exact absurd ⟨k,by omega,h2⟩ f.2
   intro i j hi hj
   rw[e i hi,e j hj]
 obtain⟨i,hi⟩:=f.1
 have ef:fpl L w=i:=Zi0 hi fun j hj a=>by have:=un i j hi a;omega
 rw[ef]
 exact⟨hi,fun j hj=>un j i hj hi⟩
theorem ZnK {s L m rs A:Q11}(h:Ext s L)(hm:∀x∈L,x∈m)(l:L.length<=41)(n:A≠rs){r:Q11×List V}(hr:r∈Zbq rs s L m):ZhL s L A rs r:=by
 unfold Zbq at hr
 obtain⟨w,hw,rfl⟩:=YAo.mp hr
 obtain⟨sh,c,f,hc,e,ms⟩:=(Zik h hm).mpr (Zca.mp hw)
 have es:=ZkB h f e ms
 have hl:=ms.init.len
 rw[YAx]at hl
 refine⟨by show w.length<=100;omega,fun z=>ms.no (z.trans h.inf),.inr ⟨shOf s w,_,rfl,n,ms.no,?_,?_,?_,ms.tail,ms.init⟩⟩
 .rw[es]
  rcases e with rfl | rfl
  .exact .inr (YBy).symm
  .exact .inl rfl
 .rw[es];exact f.2
 .rw[es];exact ZkK h f
theorem ZnL {s L m rs B:Q11}(h:Ext s L)(l:L.length<=41){r:Q11×List V}(hr:r∈Zbn rs s L m):ZhL s L rs B r:=by
 unfold Zbn at hr
 obtain⟨w,hw,rfl⟩:=YAo.mp hr
 obtain⟨h1,h2⟩:=Zcb.mp hw
 obtain⟨ms,hc⟩:=Zao.mp h1
 have hi:Inf w L:=Classical.byContradiction fun n=>h2 (Zao.mpr ⟨⟨ms.ne,ms.init.trans h.inf,ms.tail.trans h.inf,n⟩,hc⟩)
 have hl:=hi.len
 exact⟨by show w.length<=100;omega,ms.no,.inl ⟨_,rfl,ZkK h ⟨hi,ms.no⟩⟩⟩
def GoodP (s L:Q11)(H:Hp)(y:V):Prop:=∃(t r b wi:Addr) (A B:Q11) (row:Q11×List V),y=.ref t/\H t=some (.tup [.ref r,.ref wi])/\H r=some (.tup [tx row.1,.ref b])/\H b=some (.tup row.2)/\H wi=some (.tup [tx A,tx B])/\ZhL s L A B row
theorem GoodP.mono {s L:Q11}{H H':Hp}{y:V}(h:GoodP s L H y)(k:∀c us,H c=some (.tup us)->H' c=some (.tup us)):GoodP s L H' y:=by
 obtain⟨t,r,b,wi,A,B,row,e,h1,h2,h3,h4,g⟩:=h
 exact⟨t,r,b,wi,A,B,row,e,k _ _ h1,k _ _ h2,k _ _ h3,k _ _ h4,g⟩
theorem ZmO {P:Nat->V->V->Prop}{n:Nat}(h:∀i,i<n->∃u v,P i u v):∃u v:Nat->V,∀i,i<n->P i (u i) (v i):=
 ⟨fun i=>if k:i<n then Classical.choose (h i k) else .non,fun i=>if k:i<n then Classical.choose (YDC (h i k)) else .non,fun i k=>by
  simp only[dif_pos k]
  exact YDC (YDC (h i k))⟩
structure SetD (kvs:List (Key×V))(ws:Q22):Prop where
 keys:kvs.map (·.1)=ws.map kTx
 nd:ws.Nodup
theorem SetD.len {kvs:List (Key×V)}{ws:Q22}(h:SetD kvs ws):kvs.length=ws.length:=by
 have:=congrArg List.length h.keys
 rwa [YAB,YAB]at this
theorem SetD.none {kvs:List (Key×V)}{ws:Q22}(h:SetD kvs ws){w:Q11}(n:w∉ws):valV kvs (kTx w)=none:=by
 cases e:valV kvs (kTx w) with
 | none=>rfl
 | some v=>
  have k:=ZhQ e
  rw[h.keys]at k
  obtain⟨y,hy,e2⟩:=YAo.mp k
  exact absurd (ZaR e2▸hy) n
theorem SetD.some {kvs:List (Key×V)}{ws:Q22}(h:SetD kvs ws){w:Q11}(n:w∈ws):∃v,valV kvs (kTx w)=some v:=by
 cases e:valV kvs (kTx w) with
 | some v=>exact⟨v,rfl⟩
 | none=>exact absurd (h.keys▸YBj n) (Zgn e)
theorem SetD.put {kvs:List (Key×V)}{ws:Q22}(h:SetD kvs ws){w:Q11}(n:w∉ws)(v:V):SetD (putK kvs (kTx w) v) (ws++[w]):=by
 rw[Zcs _ (h.none n)]
 refine⟨by rw[YBA,h.keys,YBA];rfl,YCQ.mpr ⟨h.nd,by simp,fun a ha c hc e=>?_⟩⟩
 rw[YAR.mp hc]at e
 exact n (e▸ha)
theorem SetD.drop {kvs:List (Key×V)}{ws:Q22}(h:SetD kvs ws)(w:Q11):SetD (ZeF kvs (kTx w)) (ws.filter fun u=>decide (u≠w)):=by
 refine⟨?_,h.nd.filter _⟩
 unfold ZeF
 have e1:(kvs.filter fun kv=>decide (kv.1≠kTx w)).map (·.1)=(kvs.map (·.1)).filter fun k=>decide (k≠kTx w):=by rw[YDT];rfl
 rw[e1,h.keys,YDT]
 congr 1
 refine List.filter_congr fun u _=>?_
 show decide (kTx u≠kTx w)=decide (u≠w)
 by_cases e:u=w
 .subst e;simp
 .have n:kTx u≠kTx w:=fun z=>e (ZaR z)
  rw[decide_eq_true e,decide_eq_true n]
theorem ZkE {l m w:Q11}(h:w∈Zar l m)(n:l.length<=40):w.length<=1000:=by
 have:=(Zao.mp h).1.init.len
 rw[YAx]at this
 omega
theorem Zf1 {l l2 m:Q11}{rc rg:List (Q11×List V)}(ok:KindsOk m)(h1:l.length<=40)(h2:l2.length<=40)
  (h:(∃c0:Nat,(l2=l++[c0]\/l2=c0::l)/\rc=Zbq [102,105,114,115,116] l l2 m/\rg=Zbn [115,116,97,110,100,115] l l2 m)\/(∃c0:Nat,(l=c0::l2\/l=l2++[c0])/\rc=Zbn [115,116,111,111,100] l2 l m/\rg=Zbq [108,97,115,116] l2 l m)):
  (rc.map (·.1)).Nodup/\(rg.map (·.1)).Nodup/\(∀w,w∈rc.map (·.1)↔w∈Zar l2 m/\w∉Zar l m)/\(∀w,w∈rg.map (·.1)↔w∈Zar l m/\w∉Zar l2 m)/\rc.length<=9000/\rg.length<=9000/\(if ((l2.length:Nat):Int)-(l.length:Nat)<0 then -(((l2.length:Nat):Int)-(l.length:Nat)) else ((l2.length:Nat):Int)-(l.length:Nat))=1:=by
 have nd:∀(l:Q11) (f:Q11->Bool),((Zar l m).filter f).Nodup:=fun l f=>(ZbM (ZaE ok.rise)).filter _
 rcases h with⟨c0,e,rfl,rfl⟩|⟨c0,e,rfl,rfl⟩
 .have el:l2.length=l.length+1:=by rcases e with rfl | rfl<;>simp
  rw[Zbg,Zbh]
  refine⟨nd _ _,nd _ _,fun w=>Zca,fun w=>Zcb,ZjW ok.m4 h2,ZjX ok.m4 h1,?_⟩
  rw[YAL (by omega)];omega
 .have el:l.length=l2.length+1:=by rcases e with rfl | rfl<;>simp
  rw[Zbg,Zbh]
  refine⟨nd _ _,nd _ _,fun w=>Zcb,fun w=>Zca,ZjX ok.m4 h2,ZjW ok.m4 h1,?_⟩
  rw[YAP (by omega)];omega
def ZoV (K:Q44)(a:Ad):Sp:=fun vs H Q _=>∃l m,vs=[tx l,tx m]/\l.length<=1000/\∀H2,Same H H2->Q (.bl (l.all fun c=>m.contains c)) H2
def ZoT (K:Q44)(a:Ad):Sp:=fun vs H Q _=>∃l,vs=[tx l]/\l.length<=1000/\∀H2,Same H H2->Q (.bl (isk l)) H2
def ZoQ (K:Q44)(a:Ad):Sp:=fun vs H Q _=>∃l m most,vs=[tx l,tx m,.int most]/\l.length<=1000/\∀H2,Same H H2->Q (.bl (isw l m most)) H2
def ZoA (K:Q44)(a:Ad):Sp:=fun vs H Q _=>∃l,vs=[tx l]/\l.length<=1000/\isk l=true/\∀H2,Same H H2->Q .non H2
def ZoX (K:Q44)(a:Ad):Sp:=fun vs H Q _=>∃l m most,vs=[tx l,tx m,.int most]/\l.length<=1000/\isw l m most=true/\∀H2,Same H H2->Q .non H2
def Zop (K:Q44)(a:Ad):Sp:=fun vs H Q _=>∃(l:Q11) (n:Nat),vs=[tx l,.int n]/\l.length<=200/\n<=l.length+1/\l.length<n+63/\∀p H2,Same H H2->H p=none->H2 p=some (.lst ((wordsOf l n).map tx))->Q (.ref p) H2
def Zon (K:Q44)(a:Ad):Sp:=fun vs H Q _=>∃(b1 b2:Addr) (sh st:Q22) (m:Q11),vs=[.ref b1,.ref b2,tx m]/\H b1=some (.lst (sh.map tx))/\H b2=some (.lst (st.map tx))/\sh.length<=100/\m.length<=4/\(∀w∈sh,w.length<=100)/\∀p H2,Same H H2->H p=none->H2 p=some (.lst ((ZdU sh st m).map tx))->Q (.ref p) H2
def ZoE (K:Q44)(a:Ad):Sp:=fun vs H Q _=>∃(p dx:Addr) (l m:Q11),vs=[.ref p,tx l,tx m]/\H p=some (.ins a.c_LH dx [])/\StripOk l m/\∀H2,ZfG a.c_LH H2 p l m->(∀b o,H b=some o->b≠p->H2 b=some o)->Q .non H2
def ZoN (K:Q44)(a:Ad):Sp:=fun vs H Q _=>∃(p:Addr) (l m:Q11) (n:Nat),vs=[.ref p,.int n]/\ZfG a.c_LH H p l m/\Q (tx l) H
def ZoF (K:Q44)(a:Ad):Sp:=fun vs H Q _=>∃(p:Addr) (l m:Q11) (n:Nat),vs=[.ref p,.int n]/\ZfG a.c_LH H p l m/\StripOk l m/\n<=l.length+1/\∀q H2,Same H H2->H q=none->H2 q=some (.lst ((wordsOf l n).map tx))->Q (.ref q) H2
def ZoG (K:Q44)(a:Ad):Sp:=fun vs H Q _=>∃(p:Addr) (l m:Q11),vs=[.ref p]/\ZfG a.c_LH H p l m/\StripOk l m/\Q (.int ((l.length:Nat)+1)) H
def ZoL (K:Q44)(a:Ad):Sp:=fun vs H Q _=>∃(p:Addr) (l m:Q11),vs=[.ref p]/\ZfG a.c_LH H p l m/\StripOk l m/\∀q H2,Same H H2->H2 q=some (.lst ((Zar l m).map tx))->Q (.ref q) H2
def ZoU (K:Q44)(a:Ad):Sp:=fun vs H Q _=>∃(p:Addr) (ws:Q22),vs=[.ref p]/\H p=some (.lst (ws.map tx))/\(∀w∈ws,w.length<=1000)/\TT a H/\∀(ws':Q22) (r:Addr) (H2:Hp),ws'.Perm ws->ws'.Pairwise (fun a b=>¬BefW b a)->SameL H H2->TT a H2->H r=none->H2 r=some (.lst (ws'.map tx))->Q (.ref r) H2
def Zov (K:Q44)(a:Ad):Sp:=fun vs H Q _=>∃(b:Addr) (ws:Q22) (w:Q11),vs=[.ref b,tx w]/\H b=some (.lst (ws.map tx))/\ws.length<=1000/\w.length<=1000/\∀H2,Same H H2->Q (.bl (avB ws w)) H2
def Zow (K:Q44)(a:Ad):Sp:=fun vs H Q _=>∃(b:Addr) (ws:Q22) (l m:Q11),vs=[.ref b,tx m]/\H b=some (.lst (ws.map tx))/\StripOk l m/\ListOk l m ws/\∀H2,Same H H2->Q .non H2
def ZoS (K:Q44)(a:Ad):Sp:=fun vs H Q _=>∃(b:Addr) (ws:Q22) (l m:Q11),vs=[.ref b]/\H b=some (.lst (ws.map tx))/\StripOk l m/\ListOk l m ws/\∀H2,Same H H2->Q .non H2
def Zoh (K:Q44)(a:Ad):Sp:=fun vs H Q _=>∃(b:Addr) (ws:Q22),vs=[.ref b]/\H b=some (.lst (ws.map tx))/\ws.length<=200/\(∀w∈ws,w.length<=41)/\∀(p:Addr) (kvs:List (Key×V)) (H2:Hp),Same H H2->H p=none->H2 p=some (.dK kvs)->StemD ws kvs->Q (.ref p) H2
def Zou (K:Q44)(a:Ad):Sp:=fun vs H Q _=>∃(p:Addr) (kvs:List (Key×V)) (ws:Q22) (u:Q11),vs=[.ref p,tx u]/\Rd H p (.dK kvs)/\StemD ws kvs/\u.length<=1000/\∀e H2,Same H H2->ZeM ws u e->Q (tx e) H2
def Zoe (K:Q44)(a:Ad):Sp:=fun vs H Q _=>∃(b:Addr) (ws:Q22) (l m:Q11),vs=[.ref b,tx m]/\H b=some (.lst (ws.map tx))/\StripOk l m/\ListOk l m ws/\∀(p:Addr) (kw:List (Key×V)) (ss:Q22) (H2:Hp),Same H H2->H p=none->H2 p=some (.dK kw)->WaysL H2 p kw ws m ss->StemsL ws ss->Q (.ref p) H2
def Zom (K:Q44)(a:Ad):Sp:=fun vs H Q _=>∃(p:Addr) (kw:List (Key×V)) (ws ss:Q22) (l m:Q11),vs=[.ref p]/\H p=some (.dK kw)/\WaysL H p kw ws m ss/\StemsL ws ss/\StripOk l m/\ListOk l m ws/\∀(q:Addr) (es:Q22) (H2:Hp),Same H H2->H q=none->H2 q=some (.lst (es.map tx))->EndsG ws m ss es->Q (.ref q) H2
def ZoP (K:Q44)(a:Ad):Sp:=fun vs H Q _=>∃(p q:Addr) (kw:List (Key×V)) (ws ss es:Q22) (l m:Q11),vs=[.ref p,.ref q]/\H p=some (.dK kw)/\WaysL H p kw ws m ss/\StemsL ws ss/\StripOk l m/\ListOk l m ws/\H q=some (.lst (es.map tx))/\EndsG ws m ss es/\∀H2,Same H H2->Q (tx l) H2
def ZoO (K:Q44)(a:Ad):Sp:=fun vs H Q _=>∃(b:Addr) (ws:Q22) (l m:Q11),vs=[.ref b,tx m,tx l]/\H b=some (.lst (ws.map tx))/\StripOk l m/\ListOk l m ws/\∀H2,Same H H2->Q .non H2
def ZoR (K:Q44)(a:Ad):Sp:=fun vs H Q _=>∃(b:Addr) (ws:Q22) (l m:Q11),vs=[.ref b,tx m]/\H b=some (.lst (ws.map tx))/\StripOk l m/\ListOk l m ws/\TT a H/\∀H2,SameL H H2->TT a H2->Q (tx l) H2
def Zok (K:Q44)(a:Ad):Sp:=fun vs H Q _=>∃(l x:Q11),vs=[tx l,tx x]/\l.length<=1000/\x.length<=1000/\Q (.bl (ZiH l x)) H
def Zol (K:Q44)(a:Ad):Sp:=fun vs H Q _=>∃(s L:Q11),vs=[tx s,tx L]/\L.length<=41/\Ext s L/\TT a H/\∀(F:Q22) (r:Addr) (H2:Hp),F.Pairwise BefW->(∀w,w∈F↔Frs s L w)->SameL H H2->TT a H2->Nw H r->H2 r=some (.lst (F.map tx))->Q (.ref r) H2
def Zot (K:Q44)(a:Ad):Sp:=fun vs H Q _=>∃(s L rs m:Q11),vs=[tx s,tx L,tx rs]/\L.length<=41/\Ext s L/\(∀x∈L,x∈m)/\m.Pairwise (· < ·)/\TT a H/\∀(ys:List V) (r:Addr) (H2:Hp),SameL H H2->TT a H2->Nw H r->H2 r=some (.lst ys)->RowsA H2 ys (Zbn rs s L m)->Q (.ref r) H2
def Zoq (K:Q44)(a:Ad):Sp:=fun vs H Q _=>∃(s L rs m:Q11),vs=[tx s,tx L,tx m,tx rs]/\L.length<=41/\Ext s L/\(∀x∈L,x∈m)/\m.Pairwise (· < ·)/\m.length<=4/\TT a H/\∀(ys:List V) (r:Addr) (H2:Hp),SameL H H2->TT a H2->Nw H r->H2 r=some (.lst ys)->RowsA H2 ys (Zbq rs s L m)->Q (.ref r) H2
def Zoy (K:Q44)(a:Ad):Sp:=fun vs H Q _=>∃(p la da:Addr) (l m:Q11) (ds:List (Bool×Nat)),vs=[.ref p]/\StripAt a.c_LI H p la da l m ds/\Q (tx l) H
def ZoM (K:Q44)(a:Ad):Sp:=fun vs H Q _=>∃(p la da:Addr) (l m:Q11) (ds:List (Bool×Nat)),vs=[.ref p]/\StripAt a.c_LI H p la da l m ds/\∀r,H r=none->Q (.ref r) (upd H r (.lst ((Zar l m).map tx)))
def ZoI (K:Q44)(a:Ad):Sp:=fun vs H Q _=>∃(p la da:Addr) (l m:Q11) (ds:List (Bool×Nat)),vs=[.ref p]/\StripAt a.c_LI H p la da l m ds/\∀r ts,H r=none->DeedsA H ts ds->Q (.ref r) (upd H r (.lst ts))
def ZoK (K:Q44)(a:Ad):Sp:=fun vs H Q _=>∃(p la da c g:Addr) (l l2 m:Q11) (old new:Q22) (ys zs:List V) (rc rg:List (Q11×List V)),vs=[.ref p,tx l2,.ref c,.ref g]/\Zc4 a.c_LI H p la da l m/\H la=some (.lst (old.map tx))/\H c=some (.lst ys)/\RowsA H ys rc/\H g=some (.lst zs)/\RowsA H zs rg/\old.Pairwise BefW/\new.Pairwise BefW/\(rc.map (·.1)).Nodup/\(∀w,w∈rc.map (·.1)↔w∈new/\w∉old)/\(∀w,w∈rg.map (·.1)↔w∈old/\w∉new)/\old.length<=9000/\rc.length<=9000/\rg.length<=9000/\(∀w∈old,w.length<=1000)/\(∀w∈new,w.length<=1000)/\TT a H/\∀(t la2:Addr) (H2:Hp),Chg [p] H H2->Zc4 a.c_LI H2 p la2 da l2 m->Nw H la2->H2 la2=some (.lst (new.map tx))->H2 t=some (.tup [.ref c,.ref g])->TT a H2->Q (.ref t) H2
def ZoC (K:Q44)(a:Ad):Sp:=fun vs H Q _=>∃(p la da:Addr) (s L m:Q11),vs=[.ref p,tx L]/\Zc4 a.c_LI H p la da s m/\H la=some (.lst ((Zar s m).map tx))/\L.length<=40/\Ext s L/\(∀x∈L,x∈m)/\KindsOk m/\TT a H/\∀(t c g la2:Addr) (H2:Hp),Chg [p] H H2->Zc4 a.c_LI H2 p la2 da L m->H2 la2=some (.lst ((Zar L m).map tx))->AnsS H H2 t c g la2 (Zbq [102,105,114,115,116] s L m) (Zbn [115,116,97,110,100,115] s L m)->TT a H2->Q (.ref t) H2
def ZoJ (K:Q44)(a:Ad):Sp:=fun vs H Q _=>∃(p la da:Addr) (s L m:Q11),vs=[.ref p,tx s]/\Zc4 a.c_LI H p la da L m/\H la=some (.lst ((Zar L m).map tx))/\L.length<=40/\Ext s L/\(∀x∈L,x∈m)/\KindsOk m/\TT a H/\∀(t c g la2:Addr) (H2:Hp),Chg [p] H H2->Zc4 a.c_LI H2 p la2 da s m->H2 la2=some (.lst ((Zar s m).map tx))->AnsS H H2 t c g la2 (Zbn [115,116,111,111,100] s L m) (Zbq [108,97,115,116] s L m)->TT a H2->Q (.ref t) H2
def Zoj (K:Q44)(a:Ad):Sp:=fun vs H Q _=>∃(b:Addr) (ns:List Int) (k:Int),vs=[.ref b,.int k]/\SqL K H b (ns.map V.int)/\0<=k/\∀r:Int,Q (.int r) H
def Zoi (K:Q44)(a:Ad):Sp:=fun vs H Q _=>∃(c k:Int),vs=[.int c,.int k]/\Q (.int (mixV c k)) H
def Zor (K:Q44)(a:Ad):Sp:=fun vs H Q _=>∃c,vs=[.int c]/\∀m H2,isk m=true->1<=m.length->m.length<=4->Same H H2->Q (tx m) H2
def Zoz (K:Q44)(a:Ad):Sp:=fun vs H Q _=>∃(p dx C:Addr) (l m:Q11),vs=[.ref p,tx l,tx m]/\(C=a.c_LH\/C=a.c_LI)/\H p=some (.ins C dx [])/\∀H2,H2 p=some (.ins C dx (putF "own_kinds" (tx m) (putF "own_text" (tx l) [])))->(∀b o,H b=some o->b≠p->H2 b=some o)->Q .non H2
def Zox (K:Q44)(a:Ad):Sp:=fun vs H Q _=>∃l m,vs=[tx l,tx m]/\l.length<=1000/\∀H2,Same H H2->Q (.bl (isl l m)) H2
def ZoH (K:Q44)(a:Ad):Sp:=fun vs H Q _=>∃l m,vs=[tx l,tx m]/\l.length<=1000/\isl l m=true/\∀H2,Same H H2->Q .non H2
def ZoB (K:Q44)(a:Ad):Sp:=fun vs H Q _=>∃(p dx:Addr) (m:Q11),vs=[.ref p,tx m]/\H p=some (.ins a.c_LI dx [])/\KOk m/\∀la da H2,StripAt a.c_LI H2 p la da [] m []->H la=none->H da=none->(∀b o,H b=some o->b≠p->H2 b=some o)->Q .non H2
def Zmv (K:Q44)(a:Ad):Sp:=fun vs H Q _=>∃(p la da:Addr) (l m:Q11) (ds:List (Bool×Nat)) (c0:Nat),vs=[.ref p,tx [c0]]/\StripAt a.c_LI H p la da l m ds/\ds.length<=9000/\TT a H/\c0∈m/\l.length<40/\∀(t c g la2:Addr) (H2:Hp),Chg [p,da] H H2->StripAt a.c_LI H2 p la2 da (l++[c0]) m (ds++[(true,c0)])->AnsS H H2 t c g la2 (Zbq [102,105,114,115,116] l (l++[c0]) m) (Zbn [115,116,97,110,100,115] l (l++[c0]) m)->TT a H2->Q (.ref t) H2
def Zmw (K:Q44)(a:Ad):Sp:=fun vs H Q _=>∃(p la da:Addr) (c0:Nat) (l0 m:Q11) (ds:List (Bool×Nat)),vs=[.ref p]/\StripAt a.c_LI H p la da (c0::l0) m ds/\ds.length<=9000/\TT a H/\∀(t c g la2:Addr) (H2:Hp),Chg [p,da] H H2->StripAt a.c_LI H2 p la2 da l0 m (ds++[(false,c0)])->AnsS H H2 t c g la2 (Zbn [115,116,111,111,100] l0 (c0::l0) m) (Zbq [108,97,115,116] l0 (c0::l0) m)->TT a H2->Q (.ref t) H2
def ZoD (K:Q44)(a:Ad):Sp:=fun vs H Q _=>∃(p la da:Addr) (l m:Q11) (ds:List (Bool×Nat)),vs=[.ref p]/\StripAt a.c_LI H p la da l m ds/\ds.length<=9000/\TT a H/\((∃ds0 c0 l0,ds=ds0++[(true,c0)]/\l=l0++[c0]/\∀(t c g la2:Addr) (H2:Hp),Chg [p,da] H H2->StripAt a.c_LI H2 p la2 da l0 m ds0->AnsS H H2 t c g la2 (Zbn [115,116,111,111,100] l0 (l0++[c0]) m) (Zbq [108,97,115,116] l0 (l0++[c0]) m)->TT a H2->Q (.ref t) H2)\/(∃ds0 c0,ds=ds0++[(false,c0)]/\∀(t c g la2:Addr) (H2:Hp),Chg [p,da] H H2->StripAt a.c_LI H2 p la2 da (c0::l) m ds0->AnsS H H2 t c g la2 (Zbq [102,105,114,115,116] l (c0::l) m) (Zbn [115,116,97,110,100,115] l (c0::l) m)->TT a H2->Q (.ref t) H2))
def Zoo (K:Q44)(a:Ad):Sp:=fun vs H Q _=>∃(L w:Q11) (i:Nat),vs=[tx L,tx w,.int i]/\L.length<=1000/\w.length<=1000/\Zko L w i/\Q (.bl true) H
def ZoW (K:Q44)(a:Ad):Sp:=fun vs H Q _=>∃(t b wi:Addr) (s L A B:Q11) (r:Q11×List V),vs=[.ref t,tx s,tx L,.ref wi]/\H wi=some (.tup [tx A,tx B])/\H t=some (.tup [tx r.1,.ref b])/\H b=some (.tup r.2)/\s.length<=41/\L.length<=41/\ZhL s L A B r/\∀H2,Same H H2->Q (.bl true) H2
def Zog (K:Q44)(a:Ad):Sp:=fun vs H Q _=>∃(t c g:Addr) (ys zs:List V) (l l2 m:Q11) (rc rg:List (Q11×List V)),vs=[tx l,tx l2,.ref t]/\H t=some (.tup [.ref c,.ref g])/\H c=some (.lst ys)/\H g=some (.lst zs)/\RowsA H ys rc/\RowsA H zs rg/\KindsOk m/\(∀x∈l,x∈m)/\(∀x∈l2,x∈m)/\l.length<=40/\l2.length<=40/\((∃c0:Nat,(l2=l++[c0]\/l2=c0::l)/\rc=Zbq [102,105,114,115,116] l l2 m/\rg=Zbn [115,116,97,110,100,115] l l2 m)\/(∃c0:Nat,(l=c0::l2\/l=l2++[c0])/\rc=Zbn [115,116,111,111,100] l2 l m/\rg=Zbq [108,97,115,116] l2 l m))/\∀H2,Same H H2->Q (.bl true) H2
def Zof (K:Q44)(a:Ad):Sp:=fun vs H Q _=>∃(p la da:Addr) (l m:Q11) (ds:List (Bool×Nat)) (c:Int) (gr:Bool),vs=[.ref p,tx m,.int c,.bl gr]/\StripAt a.c_LI H p la da l m ds/\ds.length<=8000/\TT a H/\∀(t c g la2:Addr) (l2:Q11) (ds2:List (Bool×Nat)) (rc rg:List (Q11×List V)) (H2:Hp),Chg [p,da] H H2->StripAt a.c_LI H2 p la2 da l2 m ds2->AnsS H H2 t c g la2 rc rg->ds2.length<=ds.length+1->((∃c0:Nat,(l2=l++[c0]\/l2=c0::l)/\rc=Zbq [102,105,114,115,116] l l2 m/\rg=Zbn [115,116,97,110,100,115] l l2 m)\/(∃c0:Nat,(l=c0::l2\/l=l2++[c0])/\rc=Zbn [115,116,111,111,100] l2 l m/\rg=Zbq [108,97,115,116] l2 l m))->TT a H2->Q (.ref t) H2
def Zos (K:Q44)(a:Ad):Sp:=fun vs H Q _=>∃(t c g o:Addr) (ys zs:List V) (old new:Q22) (rc rg:List (Q11×List V)),vs=[.ref o,.ref t]/\H o=some (.lst (old.map tx))/\H t=some (.tup [.ref c,.ref g])/\H c=some (.lst ys)/\H g=some (.lst zs)/\RowsA H ys rc/\RowsA H zs rg/\old.Pairwise BefW/\new.Pairwise BefW/\(rc.map (·.1)).Nodup/\(rg.map (·.1)).Nodup/\(∀w,w∈rc.map (·.1)↔w∈new/\w∉old)/\(∀w,w∈rg.map (·.1)↔w∈old/\w∉new)/\old.length<=9000/\rc.length<=9000/\rg.length<=9000/\(∀w∈old,w.length<=1000)/\(∀w∈new,w.length<=1000)/\TT a H/\∀r H2,SameL H H2->TT a H2->Nw H r->H2 r=some (.lst (new.map tx))->Q (.ref r) H2
def spLaw (K:Q44)(tb:Str->Addr×Addr):Sp:=fun vs H Q _=>∃(b:Addr) (ns:List Int),vs=[.ref b]/\SqL K H b (ns.map V.int)/\ns.length<=63/\TblOk H (tb "in_order").2 lpos lq/\TblOk H (tb "_law_listed").2 Znq lqM/\∀H2,Q (.bl true) H2
section
variable {P:Program}{w:World}{K:Q44}{mg:Str->Option Value}{base:Heap}{a:Ad}{tb:Str->Addr×Addr}
local macro_rules | `(tactic| walk_at "r0") => `(tactic| simp only [tSeq, tAsg, tOp, tUn, tVar, tC, ZbX, gNil, Zj7, tRet, tIfS, Zk2, tB, tNot, tAnd, tOr, Zmu, Zmh, Zmm, tNil, Zms, Zpv, Zps, Zpu, Zpt, ZmN, Zk6, tCB, tBM, tBM0, tSl, Zmg, tNoPart, tNext, L2.start, cxK, bxK, cxPr, cxWo, suxK, Zod, Zoc, Zmn, Zgt, Zpw, ZmM, ZnG, ZnF, ZlO, ZnE, gTup, pick, Option.bind_some, Option.bind_none, Option.join_some, Option.join_none, List.map_cons, List.map_nil, List.length_cons, List.length_nil, Nat.zero_add, Nat.reduceAdd, Nat.reduceSub, List.replicate_succ, List.replicate_zero, List.cons_append, List.nil_append, List.append_nil, List.getElem?_cons_zero, List.getElem?_cons_succ, List.set_cons_zero, List.set_cons_succ, q_I, q_I0, q_U, q_T, q_b, q_var, q_var', Zls, Zmk, Zk3, tFld, sFld, sNo, tAug, Zkv, tDNewK, ZmD, Zks, Zmr, tDIn, ZhX, ZmB, ZnH, ipI, Zku, ZhW, ZmE, Zmo, rDct, ZnD, Zgu, Zkt])
local macro_rules | `(tactic| walk_at "r1") => do
 let some t <-Lean.Macro.expandMacro? (<-`(tactic| walk_at "r0")) | Lean.Macro.throwUnsupported
 match (⟨t⟩:Lean.TSyntax `tactic) with
 | `(tactic| simp only[$l,*])=>let d:=⟨l.elemsAndSeps⟩;`(tactic| dsimp only[$d,*])
 | _=>Lean.Macro.throwUnsupported
local macro_rules | `(tactic| walk_at "rd") => `(tactic| first | (walk_at "r1"; try walk_at "r0") | walk_at "r0")
local macro_rules | `(tactic| walk_at "sc") => `(tactic| exact ⟨rfl, rfl, rfl, by decide +kernel, rfl, by decide +kernel, by decide +kernel⟩)
local macro_rules | `(tactic| walk_at "rd?") => `(tactic| (try walk_at "rd"))
theorem Zpk:FnScope ["text","letters"] ["text","letters"] (Zaj s_K2):=by walk_at "sc"
theorem Znd (T:TL K mg base a tb):FnOk P w K mg base CX0 1 a.f_K2 a.d_K2 ["text","letters"] (ZoV K a):=by
 refine T.f_K2.ok Zpk (fun vs H Q E h=>?_) (fun cdv A outer s H vs Q E hr h=>?_)
 .obtain⟨_,_,rfl,_⟩:=h;rfl
 .obtain⟨l,m,rfl,hl,q⟩:=h
  refine⟨_,(Zag (Zat (Zan (ZdM rfl) rfl T.z_all Zjl (Zaa (Zba (N:=["sign","letters"]) (ix:=[none,some 1]) rfl (ZaJ rfl) rfl (Zem (pv 0)) (fun _ _ _ _=>(Zam (i:=0) (show (["sign","letters"]:List Str).Nodup from by decide +kernel) rfl (Or.inl rfl) (Or.inr rfl))) (fun _ _ _ _=>ZaV) (fun _ _ _ _=>(Za3 Zhk (pv 0) (pv 1) rfl))) Zae)))),?_⟩
  walk_at "rd"
  refine⟨l,rfl,CompRun.text (fun _=>true) (fun i=>.bl (decide (l.getD i 0∈m))) hl ?_ ?_ ?_⟩
  .intro i H1 Q1 hi s1 q1;exact q1 H1 (Same.refl _)
  .intro i H1 Q1 hi _ s1 q1
   walk_at "rd"
   exact⟨_,m,rfl,rfl,q1 H1 (Same.refl _)⟩
  .intro p H1 s1 n1 l1
   refine⟨p,(List.range l.length).map (fun i=>decide (l.getD i 0∈m)),rfl,?_,?_⟩
   .rw[l1,filter_all,YBB];rfl
   .rw[all_range];exact q H1 s1
theorem Zpj:FnScope ["words"] ["words"] (Zaj s_K3):=by walk_at "sc"
theorem ZjK (T:TL K mg base a tb):FnOk P w K mg base CX0 1 a.f_K3 a.d_K3 ["words"] (ZoU K a):=by
 refine T.f_K3.okC T.cd_K3 Zpj (fun vs H Q E h=>?_) (fun A outer s H vs Q E hr h=>?_)
 .obtain⟨_,_,rfl,_⟩:=h;rfl
 .obtain⟨p,ws,rfl,hp,hw,tk,q⟩:=h
  refine⟨_,(Zag (Zat (ZjF (q:="in_order.<locals>.<lambda>") hr T.L_in_order rfl rfl T.z_sorted T.z_len (Zaa (pv 0) Zae) rfl rfl (by kernel_rfl) ⟨rfl,rfl,rfl,rfl,rfl,rfl⟩ (fun _ _ _ _ _=>.of_eq rfl)))),?_⟩
  have sz:∀k:Nat,k<=1000->k<=sizeLine:=fun k h=>YAJ h (by rw[sizeLine_eq];decide)
  walk_at "rd"
  exact⟨p,ws,rfl,hp,fun w h=>sz _ (hw w h),tk.1,fun ws' r H2 a b c d=>q ws' r H2 a b c.1 ⟨d,c.2 _ _ _ (by decide) tk.2⟩⟩
theorem Zo1:FnScope ["text","length"] ["text","length"] (Zaj s_LG):=by walk_at "sc"
theorem ZpH (T:TL K mg base a tb):FnOk P w K mg base CX0 1 a.f_LG a.d_LG ["text","length"] (Zop K a):=by
 refine T.f_LG.ok Zo1 (fun vs H Q E h=>?_) (fun cdv A outer s H vs Q E hr h=>?_)
 .obtain⟨_,_,rfl,_⟩:=h;rfl
 .obtain⟨l,n,rfl,hl,hn,h63,q⟩:=h
  refine⟨_,(Zag (Zat (Zan (Zb4 rfl) rfl T.z_sorted ZdN (Zaa (Za5 (Zcp rfl) rfl T.z_set Zjk (Zaa (Zba (N:=["start","length","text"]) (ix:=[none,some 1,some 0]) rfl (ZaJ rfl) rfl (Ze2 rfl T.z_range (Zaa (ZaI ZbW (ZaI ZgI (Zan (Zav (K:=K) rfl) rfl T.z_len ZaL (Zaa (pv 0) Zae)) (pv 1)) Zak) Zae)) (fun _ _ _ _=>(Zam (i:=0) (show (["start","length","text"]:List Str).Nodup from by decide +kernel) rfl (Or.inl rfl) (Or.inr rfl))) (fun _ _ _ _=>ZaV) (fun _ _ _ _=>(ZaM Zco (pv 2) (ZaS (pv 0)) (ZaS (ZaI ZbW (pv 0) (pv 1)))))) Zae)) Zae)))),?_⟩
  walk_at "rd"
  have sz:l.length<=sizeLine:=YAJ hl (by rw[sizeLine_eq];decide)
  have ec:((l.length:Int)-(n:Nat)+1).toNat=l.length+1-n:=by omega
  refine⟨_,_,rfl,Zby (by omega),_,rfl,by omega,by omega,?_⟩
  rw[ec]
  refine CompRun.rangeA (fun i=>tx ((l.drop i).take n)) (by omega) ?_ ?_
  .intro i H1 Q1 hi s1 q1
   walk_at "rd"
   refine⟨_,rfl,_,rfl,l,rfl,sz,?_⟩
   have e1:(0+(i:Int))=((i:Nat):Int):=by omega
   have e2:((i:Nat):Int)+(n:Nat)=((i+n:Nat):Int):=by omega
   rw[e1,e2,ZnX]
   have e3:i+n-i=n:=by omega
   rw[e3]
   exact q1 H1 (Same.refl _)
  .intro p H1 s1 n1 l1
   refine⟨(List.range (l.length+1-n)).map (fun i=>(l.drop i).take n),by simp;omega,.inr ⟨p,rfl,.mk (by rw[l1,YBB];rfl)⟩,fun p2 n2=>⟨p2,_,rfl,Zad,?_,NewL.of fun p3 H3 s3 n3 l3=>q p3 H3 (s1.trans ((Zap n2).trans s3)) ((s1.trans (Zap n2)).free n3) l3⟩⟩
   refine YCn (ZnU _) ?_
   rw[YAB,YBD]
   omega
theorem Zh7:FnScope ["shorter","standing","kinds","found","head","letter","word"] ["shorter","standing","kinds"] (Zaj s_LK):=by walk_at "sc"
theorem ZpG (T:TL K mg base a tb):FnOk P w K mg base CX0 1 a.f_LK a.d_LK ["shorter","standing","kinds"] (Zon K a):=by
 refine T.f_LK.ok Zh7 (fun vs H Q E h=>?_) (fun cdv A outer s H vs Q E hr h=>?_)
 .obtain⟨_,_,_,_,_,rfl,_⟩:=h;rfl
 .obtain⟨b1,b2,sh,st,m,rfl,hb1,hb2,hsh,hm,hw,q⟩:=h
  refine⟨_,(Zab (Zax (i:=3) Zh7.nd rfl (Or.inl rfl) (Zci Zae))
   (Zab (ZaZ YAp rfl (Zaz (K:=K) rfl (pv 0)) (Zam (i:=4) Zh7.nd rfl (Or.inl rfl))
   (Zag (ZaZ YAp rfl (Zem (pv 2)) (Zam (i:=5) Zh7.nd rfl (Or.inl rfl))
   (Zab (Zax (i:=6) Zh7.nd rfl (Or.inl rfl) (ZaI Zbk (pv 4) (pv 5)))
   (Zag (Za2 (PW.pt (ZeZ (Zau (Zhl (K:=K) rfl) (ZaM Zco (pv 6) (ZaS Zak) Zbc) (pv 0) rfl) (Zds (Zau (ZbR (K:=K) rfl) (pv 6) (pv 1) rfl)))) (Zag (ZaN (ZdS YBN YBl YBk Zbl (pv 3) (Zaa (pv 6) Zae)))) Zay))))))
   (Zag (Zat (pv 3))))),?_⟩
  walk_at "rd"
  refine⟨YAq _,NewL.of fun pf H1 s1 nf lf=>⟨b1,rfl,⟨_,.mk (s1 _ _ hb1)⟩,ForRun.list (xs:=sh.map tx) (fun i U H'=>∃v4 v5 v6,U=[some (.ref b1),some (.ref b2),some (tx m),some (.ref pf),v4,v5,v6]/\Same H H'/\H' pf=some (.lst (((sh.take i).flatMap (Zeu sh st m)).map tx))) ⟨_,_,_,rfl,s1,lf⟩ (fun i U H' _ ⟨_,_,_,_,s',_⟩=>.mk (s' _ _ hb1)) ?_ ?_⟩⟩
  .rintro i x U H2 hx ⟨v4,v5,v6,rfl,s2,l2⟩
   obtain⟨h,hh,rfl⟩:∃h,sh[i]?=some h/\x=tx h:=by
    rw[YAW]at hx
    cases e:sh[i]? with
    | none=>rw[e]at hx;cases hx
    | some h=>rw[e]at hx;exact⟨h,rfl,(Option.some.inj hx).symm⟩
   have hw1:=hw h (YAT hh)
   have fl:=Zbz (f:=Zeu sh st m) (b:=4) (fun x=>YAJ (Zfg _ _ _ _) hm) (sh.take i)
   have tl:(sh.take i).length<=100:=by rw[YAc];omega
   walk_at "rd"
   refine⟨m,rfl,ForRun.text (fun j U H'=>∃v5 v6,U=[some (.ref b1),some (.ref b2),some (tx m),some (.ref pf),some (tx h),v5,v6]/\Same H H'/\H' pf=some (.lst (((sh.take i).flatMap (Zeu sh st m)++((m.take j).filter (ZcB sh st h)).map (fun c=>h++[c])).map tx))) ⟨_,_,rfl,s2,by simpa using l2⟩ ?_ ?_⟩
   .rintro j c U H3 hc ⟨v5,v6,rfl,s3,l3⟩
    have fj:=YAe (ZcB sh st h) (m.take j)
    rw[YAc]at fj
    have fe:(m.take (j+1)).filter (ZcB sh st h)=(m.take j).filter (ZcB sh st h)++if ZcB sh st h c=true then [c] else []:=by
     rw[ZbY hc,YBV]
     congr 1
     by_cases z:ZcB sh st h c=true
     .rw[YAP z,List.filter_cons_of_pos z];rfl
     .rw[YAL z,List.filter_cons_of_neg z];rfl
    rw[fe]
    walk_at "rd"
    refine⟨by rw[sizeLine_eq];omega,_,rfl,_,rfl,by rw[YAE,YAg,sizeLine_eq];omega,?_⟩
    rw[ZcV]
    refine⟨b1,_,rfl,.inl (.mk (s3 _ _ hb1)),rfl,ZbH _,_,rfl,?_⟩
    rw[YAL YAD,ZgS]
    by_cases t1:(h++[c]).tail∈sh
    .rw[decide_eq_true t1]
     refine iteT ⟨b2,_,rfl,.inl (.mk (s3 _ _ hb2)),rfl,ZbH _,_,rfl,?_⟩
     rw[YAP rfl,ZgS]
     by_cases t2:h++[c]∈st
     .have e:¬ZcB sh st h c=true:=by unfold ZcB;rw[decide_eq_true t2];simp
      rw[decide_eq_true t2,Bool.not_true,YAL e,YCF]
      exact iteF ⟨_,_,rfl,s3,l3⟩
     .have e:ZcB sh st h c=true:=by unfold ZcB;rw[decide_eq_true t1,decide_eq_false t2];rfl
      rw[decide_eq_false t2,Bool.not_false,YAP e]
      refine iteT ⟨.inl ⟨rfl,_,.mk l3⟩,pf,_,_,rfl,rfl,l3,by rw[YAB,YAE,YAB,sizeLine_eq];omega,_,_,rfl,same_upd3 s3 nf,?_⟩
      rw[Zad]
      simp
    .have e:¬ZcB sh st h c=true:=by unfold ZcB;rw[decide_eq_false t1];simp
     rw[decide_eq_false t1,YAL e,YCF]
     exact iteF (iteF ⟨_,_,rfl,s3,l3⟩)
   .rintro U H3 ⟨v5,v6,rfl,s3,l3⟩
    refine⟨_,_,_,rfl,s3,?_⟩
    rw[l3,ZbY hh,YDS,List.flatMap_singleton,YBJ]
    rfl
  .rintro U H2 ⟨v4,v5,v6,rfl,s2,l2⟩
   walk_at "rd"
   rw[YAB,YBJ]at l2
   exact q pf H2 s2 nf l2
theorem ZoZ:FnScope ["text","word"] ["text","word"] (Zaj s_LN):=by walk_at "sc"
theorem ZpE (T:TL K mg base a tb):FnOk P w K mg base CX0 1 a.f_LN a.d_LN ["text","word"] (Zok K a):=by
 refine T.f_LN.ok ZoZ (fun vs H Q E h=>?_) (fun cdv A outer s H vs Q E hr h=>?_)
 .obtain⟨_,_,rfl,_⟩:=h;rfl
 .obtain⟨l,x,rfl,hl,hx,q⟩:=h
  refine⟨_,(Zag (Zat (ZbZ (Za3 Zdw (pv 1) (pv 0) rfl) (ZbZ (Za3 Zbr (ZaM Zco (pv 1) (ZaS Zak) Zbc) (pv 0) rfl) (Zc0 (Za3 Zbr (ZaM Zco (pv 1) Zbc (ZaS (ZjE Zgp Zak))) (pv 0) rfl)))))),?_⟩
  walk_at "rd"
  have sx:x.length<=sizeLine:=YAJ hx (by rw[sizeLine_eq];decide)
  unfold ZiH at q
  refine⟨x,l,rfl,rfl,ite2 (fun h1=>⟨_,rfl,x,rfl,sx,_,l,rfl,rfl,ite2 (fun h2=>⟨_,rfl,x,rfl,sx,_,l,rfl,rfl,?_⟩) (fun h2=>?_)⟩) (fun h1=>?_)⟩
  .rw[ZcV]at h2
   rw[ZeI]
   rw[h1,h2,YCd,YCd]at q
   exact q
  .rw[ZcV]at h2
   rw[h1,YCD.mpr h2,YBn,YCw]at q
   exact q
  .rw[YCD.mpr h1,YBn]at q
   exact q
theorem Zo2:FnScope ["words","word"] ["words","word"] (Zaj s_LA):=by walk_at "sc"
theorem Zm4 (T:TL K mg base a tb):FnOk P w K mg base CX0 1 a.f_LA a.d_LA ["words","word"] (Zov K a):=by
 refine T.f_LA.ok Zo2 (fun vs H Q E h=>?_) (fun cdv A outer s H vs Q E hr h=>?_)
 .obtain⟨_,_,_,rfl,_⟩:=h;rfl
 .obtain⟨b,ws,w_,rfl,hb,hn,hw,q⟩:=h
  refine⟨_,(Zag (Zat (ZmR (Zan (Zjj rfl) rfl T.z_any Zn1 (Zaa (Zba (N:=["piece","word"]) (ix:=[none,some 1]) rfl (ZaJ rfl) rfl (Zaz (K:=K) rfl (pv 0)) (fun _ _ _ _=>(Zam (i:=0) (show (["piece","word"]:List Str).Nodup from by decide +kernel) rfl (Or.inl rfl) (Or.inr rfl))) (fun _ _ _ _=>ZaV) (fun _ _ _ _=>(Za3 Zbr (pv 0) (pv 1) rfl))) Zae))))),?_⟩
  walk_at "rd"
  refine⟨b,rfl,⟨_,.mk hb⟩,CompRun.listL (xs:=ws.map tx) (fun _=>true) (fun i=>.bl (infB (ws.getD i []) w_)) (by rw[YAB];omega) (.mk hb) (fun i H' Q' _ _ q=>q H' (Same.refl _)) ?_ ?_⟩
  .intro i H1 Q1 hi _ s1 q1
   rw[YAB]at hi
   rw[ZcR hi]
   walk_at "rd"
   exact⟨_,w_,rfl,rfl,q1 H1 (Same.refl _)⟩
  .intro p H1 s1 n1 l1
   rw[filter_all,YAB]at l1
   refine⟨p,ws.map fun p=>infB p w_,rfl,?_,?_⟩
   .rw[l1,YBB]
    congr 2
    apply YBx (by simp)
    intro i h1 h2
    have hi:i<ws.length:=by simpa using h2
    simp[YAI,YAG hi]
   .have e:(ws.map fun p=>infB p w_).any id=ws.any fun p=>infB p w_:=by rw[List.any_map];rfl
    rw[e]
    exact q H1 s1
theorem Zln:FnScope ["words","other","one"] ["words"] (Zaj s_K5):=by walk_at "sc"
theorem ZpY (T:TL K mg base a tb):FnOk P w K mg base CX0 1 a.f_K5 a.d_K5 ["words"] (ZoS K a):=by
 refine T.f_K5.ok Zln (fun vs H Q E h=>?_) (fun cdv A outer s H vs Q E hr h=>?_)
 .obtain⟨_,_,_,_,rfl,_⟩:=h;rfl
 .have hu64:=hr.units
  obtain⟨b,ws,l,m,rfl,hb,ok,lk,q⟩:=h
  refine⟨_,(Zag (ZaZ YAp rfl (Zaz (K:=K) rfl (pv 0)) (Zam (i:=1) Zln.nd rfl (Or.inl rfl))
   (Zag (ZaZ YAp rfl (Zaz (K:=K) rfl (pv 0)) (Zam (i:=2) Zln.nd rfl (Or.inl rfl))
   (Zag (Za2 (PW.pt (ZeZ (Zau (Zbo (K:=K) rfl hu64) (pv 2) (pv 1) (ZaA _)) (Zds (Zau Zbr (pv 2) (pv 1) rfl)))) (Zag Zc7) Zay)))))),?_⟩
  walk_at "rd"
  refine⟨b,rfl,⟨_,.mk hb⟩,ForRun.list (xs:=ws.map tx) (fun i U H'=>∃v1 v2,U=[some (.ref b),v1,v2]/\Same H H') ⟨_,_,rfl,Same.refl _⟩ (fun i U H' _ ⟨_,_,_,s'⟩=>.mk (s' _ _ hb)) ?_ ?_⟩
  .rintro i x U H1 hx ⟨v1,v2,rfl,s1⟩
   obtain⟨y,hy,rfl⟩:=Zc2 hx
   walk_at "rd"
   refine⟨b,rfl,⟨_,.mk (s1 _ _ hb)⟩,ForRun.list (xs:=ws.map tx) (fun j U H'=>∃v2,U=[some (.ref b),some (tx y),v2]/\Same H H') ⟨_,rfl,s1⟩ (fun i U H' _ ⟨_,_,s'⟩=>.mk (s' _ _ hb)) ?_ ?_⟩
   .rintro j x U H2 hx2 ⟨v2,rfl,s2⟩
    obtain⟨z,hz,rfl⟩:=Zc2 hx2
    walk_at "rd"
    refine Zng fun k hk=>⟨k,rfl,ite2 (fun e=>⟨z,y,rfl,rfl,ite2 (fun e2=>?_) (fun _=>⟨_,rfl,s2⟩)⟩) (fun _=>iteF ⟨_,rfl,s2⟩)⟩
    exact hk e (lk.anti z (YAT hz) y (YAT hy) (Zbu.mp e2))
   .rintro U H2 ⟨v2,rfl,s2⟩
    exact⟨_,_,rfl,s2⟩
  .rintro U H1 ⟨v1,v2,rfl,s1⟩
   exact q H1 s1
theorem Zjy:FnScope ["words","stems","word","size"] ["words"] (Zaj s_LQ):=by walk_at "sc"
theorem ZpD (T:TL K mg base a tb):FnOk P w K mg base CX0 1 a.f_LQ a.d_LQ ["words"] (Zoh K a):=by
 refine T.f_LQ.ok Zjy (fun vs H Q E h=>?_) (fun cdv A outer s H vs Q E hr h=>?_)
 .obtain⟨_,_,rfl,_⟩:=h;rfl
 .have hu1:=ZaH hr
  obtain⟨b,ws,rfl,hb,hn,h41,q⟩:=h
  refine⟨_,(Zab (Zax (i:=1) Zjy.nd rfl (Or.inl rfl) (Zlw (ZjD (ZaD (l:=[]) (by decide +kernel)) Zcu Zlu) rfl rfl (by simp) (by decide)))
   (Zab (ZaZ YAp rfl (Zaz (K:=K) rfl (pv 0)) (Zam (i:=2) Zjy.nd rfl (Or.inl rfl))
   (Zag (ZaZ YAp rfl (Zdv rfl T.z_range (Zaa Zak (Zaa (Zan (Zav (K:=K) rfl) rfl T.z_len ZaL (Zaa (pv 2) Zae)) Zae))) (Zam (i:=3) Zjy.nd rfl (Or.inl rfl))
   (Zag (ZbP hu1 (pv 1) (ZaM Zco (pv 2) Zbc (ZaS (pv 3))) Zcu rfl)))))
   (Zag (Zat (pv 1))))),?_⟩
  have sz:∀k:Nat,k<=9000->k<=sizeLine:=fun k h=>YAJ h (by rw[sizeLine_eq];decide)
  walk_at "rd"
  intro p hp
  have s1:Same H (upd (upd H p (.dK [])) p (.dK (Zbm [] [(kTx [],.bl true)]))):=Zia hp
  have h1:upd (upd H p (.dK [])) p (.dK (Zbm [] [(kTx [],.bl true)])) p=some (.dK (Zbm [] [(kTx [],.bl true)])):=Zad
  refine⟨Zad,[(kTx [],.bl true)],rfl,by show (1:Nat)<=15;decide,b,rfl,⟨_,.mk (s1 _ _ hb)⟩,?_⟩
  have k1:StemP ws 0 0 (Zbm [] [(kTx [],.bl true)]):=StemP.start ws
  have l1:(Zbm [] [(kTx [],.bl true)]).length<=1:=Zbt _ _
  generalize Zbm [] [(kTx [],.bl true)]=kv0 at s1 h1 k1 l1
  generalize upd (upd H p (.dK [])) p (.dK kv0)=H1 at s1 h1
  refine ForRun.list (xs:=ws.map tx) (fun i U H'=>∃v2 v3 kvs,U=[some (.ref b),some (.ref p),v2,v3]/\Same H H'/\H' p=some (.dK kvs)/\StemP ws i 0 kvs/\kvs.length<=1+41*i) ⟨_,_,_,rfl,s1,h1,k1,by omega⟩ (fun i U H' _ ⟨_,_,_,_,s',_⟩=>.mk (s' _ _ hb)) ?_ ?_
  .rintro i x U H2 hx ⟨v2,v3,kvs,rfl,s2,h2,k2,n2⟩
   obtain⟨w_,hw,rfl⟩:=Zc2 hx
   have w41:=h41 w_ (YAT hw)
   have hi:=(YAK.mp hw).1
   walk_at "rd"
   refine⟨_,_,rfl,Zby (by omega),_,_,rfl,⟨by omega,by omega,by omega,by omega⟩,?_⟩
   refine ForRun.range (fun j U H'=>∃v3 kvs,U=[some (.ref b),some (.ref p),some (tx w_),v3]/\Same H H'/\H' p=some (.dK kvs)/\StemP ws i (1+j) kvs/\kvs.length<=1+41*i+j) ⟨_,_,rfl,s2,h2,k2.one hw,by omega⟩ ?_ ?_
   .rintro j U H3 hj ⟨v3,kvs,rfl,s3,h3,k3,n3⟩
    have e1:(1+(j:Int))=((1+j:Nat):Int):=by omega
    have j41:j<=41:=by omega
    walk_at "rd"
    refine⟨_,rfl,w_,rfl,sz _ (by omega),?_⟩
    rw[e1,Zje]
    refine⟨p,_,rfl,DPut.k (k:=kTx (w_.take (1+j))) h3 (YAb (show _<9000 by omega) (sz 9000 (YAH _))),_,_,rfl,same_upd3 s3 hp,Zad,?_,?_⟩
    .have:=k3.put hw (show 1+j<w_.length by omega)
     rw[show 1+(j+1)=1+j+1 by omega]
     exact this
    .have:=ZaK kvs (kTx (w_.take (1+j))) (.bl true)
     omega
   .rintro U H3 ⟨v3,kvs,rfl,s3,h3,k3,n3⟩
    exact⟨_,_,_,rfl,s3,h3,k3.next hw (by omega),by omega⟩
  .rintro U H2 ⟨v2,v3,kvs,rfl,s2,h2,k2,n2⟩
   walk_at "rd"
   rw[YAB]at k2 n2
   exact q p kvs H2 s2 hp h2 (k2.done (by omega))
theorem Zli:FnScope ["stems","text","start"] ["stems","text"] (Zaj s_LB):=by walk_at "sc"
theorem ZpK (T:TL K mg base a tb):FnOk P w K mg base CX0 1 a.f_LB a.d_LB ["stems","text"] (Zou K a):=by
 refine T.f_LB.ok Zli (fun vs H Q E h=>?_) (fun cdv A outer s H vs Q E hr h=>?_)
 .obtain⟨_,_,_,_,rfl,_⟩:=h;rfl
 .have hu1:=ZaH hr
  obtain⟨p,kvs,ws,u,rfl,hp,sd,hu,q⟩:=h
  refine⟨_,(Zab (Zax (i:=2) Zli.nd rfl (Or.inl rfl) Zak)
   (Zab (ZgE YAp (ZgD (Ze4 hu1 (ZaM Zco (pv 1) (ZaS (pv 2)) Zbc) (pv 0)))
   (Zag (Zky (i:=2) Zli.nd rfl (Or.inl rfl) Zak ZkG)))
   (Zag (Zat (ZaM Zco (pv 1) (ZaS (pv 2)) Zbc))))),?_⟩
  have sz:∀k:Nat,k<=1000->k<=sizeLine:=fun k h=>YAJ h (by rw[sizeLine_eq];decide)
  walk_at "rd"
  refine WhileRun.by (fun U H'=>∃d:Nat,U=[some (.ref p),some (tx u),some (.int d)]/\Same H H'/\d<=u.length/\∀j,j<d->¬Stem ws (u.drop j)) (fun U H'=>match U with | [_,_,some (.int d)]=>u.length-d.toNat | _=>0) ⟨0,rfl,Same.refl _,YAq _,fun j h=>by omega⟩ ?_
  rintro U H1 ⟨d,rfl,s1,hd,nd⟩
  refine⟨!(valV kvs (kTx (u.drop d))).isSome,fun Q' hq=>?_,fun H2 s2=>?_⟩
  .walk_at "rd"
   refine⟨_,rfl,u,rfl,sz _ hu,?_⟩
   rw[ZcH]
   exact⟨p,_,rfl,.inl ⟨kvs,kTx (u.drop d),hp.same s1,rfl,rfl⟩,hq H1 (Same.refl _)⟩
  .cases e:(valV kvs (kTx (u.drop d))).isSome with
   | true=>
    refine iteF ?_
    walk_at "rd"
    refine⟨_,rfl,u,rfl,sz _ hu,?_⟩
    rw[ZcH]
    exact q _ H2 (s1.trans s2) ⟨d,hd,rfl,(sd.iff _).mp e,nd⟩
   | false=>
    refine iteT ?_
    have ns:¬Stem ws (u.drop d):=fun z=>by rw[(sd.iff _).mpr z]at e;cases e
    have lt:d<u.length:=by
     by_cases c:d<u.length
     .exact c
     .exact absurd (.inl (YBI (by omega))) ns
    walk_at "rd"
    refine⟨_,_,rfl,rfl,⟨d+1,rfl,s1.trans s2,lt,fun j hj=>?_⟩,?_⟩
    .by_cases c:j=d
     .subst c;exact ns
     .exact nd j (by omega)
    .show u.length-((d:Int)+1).toNat<u.length-(d:Int).toNat
     omega
theorem ZdQ:FnScope ["ways","sources","left","stem","reached","ended","at"] ["ways"] (Zaj s_LL):=by walk_at "sc"
theorem ZpF (T:TL K mg base a tb):FnOk P w K mg base CX0 1 a.f_LL a.d_LL ["ways"] (Zom K a):=by
 refine T.f_LL.ok ZdQ (fun vs H Q E h=>?_) (fun cdv A outer s H vs Q E hr h=>?_)
 .obtain⟨_,_,_,_,_,_,rfl,_⟩:=h;rfl
 .have hu64:=hr.units
  have hu1:=ZaH hr
  obtain⟨p,kw,ws,ss,l,m,rfl,hp,wl,sl,ok,lk,q⟩:=h
  refine⟨_,(Zab (Zax (i:=1) ZdQ.nd rfl (Or.inl rfl) ZbQ)
   (Zaf (Zab (Zax (i:=2) ZdQ.nd rfl (Or.inr rfl) ZbQ)
   (Zab (Zdu (ZaZ YAp rfl (Zen (pv 0)) (Zam (i:=3) ZdQ.nd rfl (Or.inl rfl))
   (Zaf (Zab (ZbP hu1 (pv 2) (pv 3) (Zan Zjh rfl T.z_len ZaL (Zaa (Zbx hu1 (pv 0) (pv 3) (fun _ _=>rfl)) Zae)) rfl)
   (Zag (Zdu (ZaZ YAp rfl (Zif (Zbx hu1 (pv 0) (pv 3) (fun _ _=>rfl))) (Zam (i:=4) ZdQ.nd rfl (Or.inl rfl))
   (Zaf (Zag (ZaN (ZdS YBN YBl YBk Zbl (ZdR (pv 1) (pv 4) (Zci Zae) ⟨rfl,rfl,rfl,rfl⟩) (Zaa (pv 3) Zae))))))))))))
   (Zab (Zdu (ZfW (i:=5) (N:=["stem","left"]) (ix:=[none,some 2]) rfl ZdQ.nd rfl rfl rfl (ZaJ rfl) rfl (Zen (pv 0)) (fun _ _ _ _=>(Zam (i:=0) (show (["stem","left"]:List Str).Nodup from by decide +kernel) rfl (Or.inl rfl) (Or.inr rfl))) (fun _ _ _ _=>(Zdc (Zau (Za4 (K:=K) rfl hu64) (Zbx hu1 (pv 1) (pv 0) (fun _ _=>rfl)) Zak (ZaA _)))) (fun _ _ _ _=>(pv 0))))
   (Zaf (Zab (Zax (i:=6) ZdQ.nd rfl (Or.inl rfl) Zak)
   (Zaf (Zab (ZgE YAp (Zau Zhj (pv 6) (Zan (Zav (K:=K) rfl) rfl T.z_len ZaL (Zaa (pv 5) Zae)) (ZaA _))
   (Zab (Zax (i:=4) ZdQ.nd rfl (Or.inl rfl) (Zbj (Zcd (K:=K) rfl) (pv 5) (pv 6) (fun _ _=>rfl)))
   (Zaf (Zab (ZaZ YAp rfl (Zaz (K:=K) rfl (ZjI hu1 (pv 1) (pv 4) (Zci Zae) ⟨rfl,rfl,rfl,rfl⟩)) (Zam (i:=3) ZdQ.nd rfl (Or.inl rfl))
   (Zab (Zlt hu1 (pv 2) (pv 3) Zak ZnC (fun _ _ _=>rfl))
   (Zaf (Zag (Za2 (Zau (Za4 (K:=K) rfl hu64) (Zbx hu1 (pv 2) (pv 3) (fun _ _=>rfl)) Zak (ZaA _)) (Zaf (Zag (ZaN (ZdS YBN YBl YBk Zbl (pv 5) (Zaa (pv 3) Zae))))) Zay)))))
   (Zaf (Zag (Zky (i:=6) ZdQ.nd rfl (Or.inl rfl) Zak ZkG)))))))
   (Zag (Zat (pv 5)))))))))))),?_⟩
  have sz:∀k:Nat,k<=100000->k<=sizeLine:=fun k h=>YAJ h (by rw[sizeLine_eq];decide)
  have m4:=ok.m4
  have sl82:=sl.len
  walk_at "rd"
  intro pS nS
  have s1:Same H (upd H pS (.dK [])):=Zap nS
  have l1:upd H pS (.dK []) pS=some (.dK []):=Zad
  generalize upd H pS (.dK [])=H1 at s1 l1
  refine Zai ?_
  walk_at "rd"
  intro pL nL
  have s2:Same H1 (upd H1 pL (.dK [])):=Zap nL
  have l2:upd H1 pL (.dK []) pL=some (.dK []):=Zad
  have nL0:H pL=none:=s1.free nL
  have nSL:pS≠pL:=Zah l1 nL
  generalize upd H1 pL (.dK [])=H2 at s2 l2
  have s02:=s1.trans s2
  have npS:p≠pS:=Zah hp nS
  have npL:p≠pL:=Zah hp nL0
  have hp2:=s02 _ _ hp
  refine⟨p,kw,hp2,p,kw,rfl,hp2,fun o=>ForRun.dict (fun i U H'=>∃v3 v4 kS kL,U=[some (.ref p),some (.ref pS),some (.ref pL),v3,v4,none,none]/\SameX p H H'/\H' p=some (.frz o (.dK kw))/\H' pS=some (.dK kS)/\SrcAt H H' pS pL kS (edges ws m (ss.take i))/\H' pL=some (.dK kL)/\ZfH kL (ss.take i) (fun s=>(outS ws m s).length)/\kL.length<=i) ⟨_,_,[],[],rfl,?_,Zad,?_,?_,?_,?_,?_⟩ (fun i U H' ⟨_,_,_,_,_,_,h,_⟩=>h) ?_ ?_⟩
  .exact(Zpm s02).updX
  .rw[Zac (YAv npS)];exact s2 _ _ l1
  .rw[YCK]
   exact⟨fun r _=>rfl,fun r v h=>(by cases h),fun r r' a h=>(by cases h),YAq _⟩
  .rw[Zac (YAv npL)];exact l2
  .rw[YCK];exact fun s h=>(by cases h)
  .exact YAH _
  .rintro i kv U H3 hkv ⟨v3,v4,kS,kL,rfl,s3,f3,h3,sr,hL3,la,nk⟩
   have il:=(YAK.mp hkv).1
   have il2:i<ss.length:=by rw[<-wl.1];exact il
   obtain⟨u,hu⟩:∃u,ss[i]?=some u:=⟨_,YAG (by rw[<-wl.1];exact il)⟩
   obtain⟨au,ekv,na,hau⟩:=wl.2 i u hu
   rw[hkv]at ekv
   cases ekv
   rw[ZiN]
   walk_at "rd"
   refine Zai ?_
   walk_at "rd"
   have mu:u∈ss:=YAT hu
   have v3:valV kw (kTx u)=some (.ref au):=Zeh (by rw[wl.keys];exact Zb0 sl.nd fun x _ y _ e=>ZaR e) hkv
   have au3:H3 au=some (.dK ((onw ws m u).map wayK)):=s3 _ _ na hau
   have nauS:au≠pS:=Zah hau nS
   have nauL:au≠pL:=Zah hau nL0
   have tk1:ss.take (i+1)=ss.take i++[u]:=ZaY hu
   have nui:u∉ss.take i:=Zbs sl.nd hu
   refine⟨p,.ref au,rfl,.inl ⟨kw,kTx u,.inr ⟨o,f3⟩,rfl,v3.symm⟩,au,_,rfl,au3,pL,_,rfl,DPut.k (k:=kTx u) hL3 (YAb (show _<100000 by omega) (sz 100000 (YAH _))),?_⟩
   have lo:((onw ws m u).map wayK).length=(outS ws m u).length:=by unfold outS;rw[YAB,YAB]
   rw[lo]
   have la4:ZfH (putK kL (kTx u) (.int ((outS ws m u).length:Nat))) (ss.take (i+1)) (fun s=>(outS ws m s).length):=fun s hs=>by
    rw[ZaU]
    by_cases e:s=u
    .rw[YAP (by rw[e]),e]
    .rw[YAL (fun z=>e (ZaR z))]
     rw[tk1]at hs
     rcases YAZ.mp hs with z | z
     .exact la s z
     .exact absurd (YAR.mp z) e
   have nk4:(putK kL (kTx u) (.int ((outS ws m u).length:Nat))).length<=i+1:=by
    have:=ZaK kL (kTx u) (.int ((outS ws m u).length:Nat))
    omega
   have s4:SameX p H (upd H3 pL (.dK (putK kL (kTx u) (.int ((outS ws m u).length:Nat))))):=s3.updN nL0
   have p4:upd H3 pL (.dK (putK kL (kTx u) (.int ((outS ws m u).length:Nat)))) p=some (.frz o (.dK kw)):=by rw[Zac npL];exact f3
   have S4:upd H3 pL (.dK (putK kL (kTx u) (.int ((outS ws m u).length:Nat)))) pS=some (.dK kS):=by rw[Zac nSL];exact h3
   have L4:upd H3 pL (.dK (putK kL (kTx u) (.int ((outS ws m u).length:Nat)))) pL=some (.dK (putK kL (kTx u) (.int ((outS ws m u).length:Nat)))):=Zad
   have sr4:SrcAt H (upd H3 pL (.dK (putK kL (kTx u) (.int ((outS ws m u).length:Nat))))) pS pL kS (edges ws m (ss.take i)):=sr.keep fun a' xs e=>by
    have n':a'≠pL:=fun z=>by rw[z,hL3]at e;cases e
    rw[Zac n'];exact e
   have a4:upd H3 pL (.dK (putK kL (kTx u) (.int ((outS ws m u).length:Nat)))) au=some (.dK ((onw ws m u).map wayK)):=by rw[Zac nauL];exact au3
   generalize upd H3 pL (.dK (putK kL (kTx u) (.int ((outS ws m u).length:Nat))))=H4 at s4 p4 S4 L4 sr4 a4
   generalize putK kL (kTx u) (.int ((outS ws m u).length:Nat))=kL4 at la4 nk4 L4
   refine⟨au,_,a4,p,.ref au,rfl,.inl ⟨kw,kTx u,.inr ⟨o,p4⟩,rfl,v3.symm⟩,au,_,rfl,a4,fun o1=>ZlS (fun j U H'=>∃v4 kS,U=[some (.ref p),some (.ref pS),some (.ref pL),some (tx u),v4,none,none]/\(∀b x,b≠p->b≠au->H b=some x->H' b=some x)/\H' p=some (.frz o (.dK kw))/\H' au=some (.frz o1 (.dK ((onw ws m u).map wayK)))/\H' pS=some (.dK kS)/\SrcAt H H' pS pL kS (edges ws m (ss.take i)++((outS ws m u).take j).map fun r=>(r,u))/\H' pL=some (.dK kL4)) ⟨_,kS,rfl,?_,?_,Zad,?_,?_,?_⟩ (fun j U H' ⟨_,_,_,_,_,h,_⟩=>h) ?_ ?_⟩
   .intro b x n1 n2 e
    rw[Zac n2];exact s4 b x n1 e
   .rw[Zac (YAv na)];exact p4
   .rw[Zac (YAv nauS)];exact S4
   .rw[YCK,YDB,YCF]
    exact sr4.keep fun a' xs e=>by
     have n':a'≠au:=fun z=>by rw[z,a4]at e;cases e
     rw[Zac n'];exact e
   .rw[Zac (YAv nauL)];exact L4
   .rintro j kv U H5 hkv2 ⟨v4,kS5,rfl,s5,p5,a5,S5,sr5,L5⟩
    obtain⟨x,hx,rfl⟩:∃x,(onw ws m u)[j]?=some x/\kv=wayK x:=by
     rw[YAW]at hkv2
     cases e:(onw ws m u)[j]? with
     | none=>rw[e]at hkv2;cases hkv2
     | some x=>rw[e]at hkv2;cases hkv2;exact⟨x,rfl,rfl⟩
    have hr:(outS ws m u)[j]?=some x.2:=by unfold outS;rw[YAW,hx];rfl
    show ZbX 4 (tx x.2) _ _ _
    generalize x.2=r at hr
    walk_at "rd"
    refine Zai ?_
    walk_at "rd"
    have kl5:kS5.length<100000:=by
     have:=sr5.len
     have e1:=Zh0 (ws:=ws) (m:=m) (r:=[]) (ss:=ss.take i) m4 (by rw[YAc];omega)
     rw[YAE,YAB,YAc]at this
     have e2:(outS ws m u).length<=4:=by
      unfold outS onw onwC
      rw[YAB,YAB]
      exact YAJ (YAe _ _) m4
     omega
    have tj:((outS ws m u).take (j+1)).map (fun r=>(r,u))=((outS ws m u).take j).map (fun r=>(r,u))++[(r,u)]:=by rw[ZaY hr,YBA];rfl
    refine⟨pS,rfl,.inl ⟨kS5,.inl S5⟩,YAq _,NewL.of fun z H6 s6 nz z6=>⟨kS5,kTx r,s6 _ _ S5,rfl,YAb kl5 (sz 100000 (YAH _)),fun v hv=>?_,fun hv=>?_⟩⟩
    .obtain⟨a',rfl,na0,naS,naL,ha⟩:=sr5.yes r v hv
     have ha6:=s6 _ _ ha
     have sr6:=(sr5.keep (H'':=H6) fun a xs e=>s6 _ _ e).old (s:=u) hv
     refine⟨.inl ⟨rfl,_,.mk ha6⟩,a',_,tx u,rfl,rfl,ha6,?_,_,kS5,rfl,?_,?_,?_,?_,?_,?_⟩
     .rw[YAB]
      have e0:=Zh1 (edges ws m (ss.take i)++((outS ws m u).take j).map fun r=>(r,u)) r
      have e1:=Zh0 (ws:=ws) (m:=m) (r:=[]) (ss:=ss.take i) m4 (by rw[YAc];omega)
      have e2:(outS ws m u).length<=4:=by
       unfold outS onw onwC
       rw[YAB,YAB]
       exact YAJ (YAe _ _) m4
      rw[YAE,YAB,YAc]at e0
      exact YAb (show _<100000 by omega) (sz 100000 (YAH _))
     .intro b x n1 n2 e
      rw[Zac (Zah e na0)];exact s6 _ _ (s5 b x n1 n2 e)
     .rw[Zac (Zah hp na0)];exact s6 _ _ p5
     .rw[Zac (Zah hau na0)];exact s6 _ _ a5
     .rw[Zac (YAv naS)];exact s6 _ _ S5
     .rw[tj,<-YAt];exact sr6
     .rw[Zac (YAv naL)];exact s6 _ _ L5
    .have nzS:pS≠z:=Zah S5 nz
     have nzL:pL≠z:=Zah L5 nz
     have nzp:p≠z:=Zah p5 nz
     have nza:au≠z:=Zah a5 nz
     have nzH:H z=none:=by
      cases e:H z with
      | none=>rfl
      | some x=>rw[s5 z x (YAv nzp) (YAv nza) e]at nz;cases nz
     have z7:upd H6 pS (.dK (putK kS5 (kTx r) (.ref z))) z=some (.lst []):=by rw[Zac (YAv nzS)];exact z6
     refine⟨.inl ⟨rfl,_,.mk z7⟩,z,[],tx u,rfl,rfl,z7,sz 1 (by decide),_,putK kS5 (kTx r) (.ref z),rfl,?_,?_,?_,?_,?_,?_⟩
     .intro b x n1 n2 e
      rw[Zac (Zah e nzH),Zac (Zah e nS)];exact s6 _ _ (s5 b x n1 n2 e)
     .rw[Zac nzp,Zac npS];exact s6 _ _ p5
     .rw[Zac nza,Zac nauS];exact s6 _ _ a5
     .rw[Zac nzS,Zad]
     .rw[tj,<-YAt]
      refine sr5.new hv nzH nz (YAv nzS) (YAv nzL) (fun a xs n e=>?_) Zad
      have e6:=s6 _ _ e
      have nS':a≠pS:=fun z=>by rw[z,S5]at e;cases e
      rw[Zac n,Zac nS'];exact e6
     .rw[Zac nzL,Zac (YAv nSL)];exact s6 _ _ L5
   .rintro U H5 ⟨v4,kS5,rfl,s5,p5,a5,S5,sr5,L5⟩
    have lo2:((onw ws m u).map wayK).length=(outS ws m u).length:=lo
    rw[lo2,YBJ,<-ZhD,<-tk1]at sr5
    refine⟨o1,_,a5,_,_,kS5,kL4,rfl,?_,?_,?_,?_,?_,la4,nk4⟩
    .intro b x n e
     by_cases c:b=au
     .subst c
      rw[hau]at e
      cases e
      rw[Zad]
     .rw[Zac c];exact s5 b x n c e
    .rw[Zac (YAv na)];exact p5
    .rw[Zac (YAv nauS)];exact S5
    .exact sr5.keep fun a' xs e=>by
      have n':a'≠au:=fun z=>by rw[z,a5]at e;cases e
      rw[Zac n'];exact e
    .rw[Zac (YAv nauL)];exact L5
  .rintro U H3 ⟨v3,v4,kS,kL,rfl,s3,f3,h3,sr,hL3,la,nk⟩
   rw[wl.1,YBJ]at sr la
   refine⟨o,kw,f3,?_⟩
   walk_at "rd"
   have s4:Same H (upd H3 p (.dK kw)):=s3.updX.same hp Zad
   have S4:upd H3 p (.dK kw) pS=some (.dK kS):=by rw[Zac (YAv npS)];exact h3
   have L4:upd H3 p (.dK kw) pL=some (.dK kL):=by rw[Zac (YAv npL)];exact hL3
   have sr4:SrcAt H (upd H3 p (.dK kw)) pS pL kS (edges ws m ss):=sr.keep fun a' xs e=>by
    have n':a'≠p:=fun z=>by rw[z,f3]at e;cases e
    rw[Zac n'];exact e
   have p4:upd H3 p (.dK kw) p=some (.dK kw):=Zad
   generalize upd H3 p (.dK kw)=H4 at s4 S4 L4 sr4 p4
   refine⟨p,kw,p4,p,kw,rfl,p4,fun o2=>CompRun.keys (fun i=>decide ((outS ws m (ss.getD i [])).length=0)) (fun i=>tx (ss.getD i [])) (by rw[wl.1];omega) Zad ?_ ?_ ?_⟩
   .intro i kv H5 Q5 hkv s5 q5
    have il:=(YAK.mp hkv).1
    obtain⟨u,hu⟩:∃u,ss[i]?=some u:=⟨_,YAG (by rw[<-wl.1];exact il)⟩
    obtain⟨au,ekv,_⟩:=wl.2 i u hu
    rw[hkv]at ekv
    cases ekv
    have gd:ss.getD i []=u:=by rw[YAI,hu];rfl
    rw[gd]at q5
    have L5:H5 pL=some (.dK kL):=s5 _ _ (by rw[Zac (YAv npL)];exact L4)
    rw[ZiN]
    walk_at "rd"
    refine⟨pL,_,rfl,.inl ⟨kL,kTx u,.inl L5,rfl,(la u (YAT hu)).symm⟩,ZnR ⟨_,rfl,q5 H5 (Same.refl _)⟩⟩
   .intro i kv H5 Q5 hkv _ s5 q5
    have il:=(YAK.mp hkv).1
    obtain⟨u,hu⟩:∃u,ss[i]?=some u:=⟨_,YAG (by rw[<-wl.1];exact il)⟩
    obtain⟨au,ekv,_⟩:=wl.2 i u hu
    rw[hkv]at ekv
    cases ekv
    have gd:ss.getD i []=u:=by rw[YAI,hu];rfl
    rw[gd]at q5
    rw[ZiN]
    walk_at "rd"
    exact q5 H5 (Same.refl _)
   .intro pe H5 s5 n5 l5
    rw[wl.1,Zi3 [] (fun s=>decide ((outS ws m s).length=0)) tx ss]at l5
    have npe:pe≠p:=fun z=>by rw[z,Zad]at n5;cases n5
    have n4:H4 pe=none:=by rw[Zac npe]at n5;exact n5
    have nH:H pe=none:=s4.free n4
    have npeS:pS≠pe:=Zah S4 n4
    have npeL:pL≠pe:=Zah L4 n4
    have src_ne:∀r a,valV kS (kTx r)=some (.ref a)->a≠pe:=fun r a hv=>by
     obtain⟨a',e,_,_,_,ha⟩:=sr4.yes r _ hv
     cases e
     exact Zah ha n4
    refine⟨o2,kw,s5 _ _ Zad,?_⟩
    have s46:Same H4 (upd H5 p (.dK kw)):=Same.thaw (H1:=H4) p4 s5
    have pe6:upd H5 p (.dK kw) pe=some (.lst ((ss.filter fun s=>decide ((outS ws m s).length=0)).map tx)):=by rw[Zac npe];exact l5
    generalize upd H5 p (.dK kw)=H6 at s46 pe6
    walk_at "rd"
    refine Zai ?_
    walk_at "rd"
    refine Zai ?_
    walk_at "rd"
    have k82:kL.length<=8201:=by rw[wl.1]at nk;omega
    refine WhileRun.by (fun U H'=>∃(v3 v4:Option V) (n:Nat) (es:List Wd) (f:Wd->Nat) (kL:List (Key×V)),U=[some (.ref p),some (.ref pS),some (.ref pL),v3,v4,some (.ref pe),some (.int n)]/\Same H H'/\H' pS=some (.dK kS)/\SrcAt H H' pS pL kS (edges ws m ss)/\H' pL=some (.dK kL)/\ZfH kL ss f/\kL.length<=8201/\H' pe=some (.lst (es.map tx))/\KI ss (outS ws m) n es f) (fun U _=>match U with | [_,_,_,_,_,_,some (.int n)]=>ss.length-n.toNat | _=>0) ⟨_,_,0,_,fun s=>(outS ws m s).length,kL,rfl,s4.trans s46,s46 _ _ S4,sr4.keep fun a xs e=>s46 _ _ e,s46 _ _ L4,la,k82,pe6,KI.start sl.nd fun s _=>rfl⟩ ?_
    rintro U H7 ⟨v3,v4,n,es,f,kL,rfl,s7,S7,sr7,L7,la7,kl7,e7,ki⟩
    have esl:es.length<=ss.length:=Zdd es ss ki.nd ki.sub
    refine⟨decide (n<es.length),fun Q' hq=>?_,fun H8 s8=>?_⟩
    .walk_at "rd"
     refine⟨_,_,rfl,.inl ⟨_,.mk e7,rfl⟩,?_⟩
     rw[YAB]
     have e:decide ((n:Int)<((es.length:Nat):Int))=decide (n<es.length):=by rw[decide_eq_decide];omega
     rw[e]
     exact hq H7 (Same.refl _)
    .by_cases c:n<es.length
     .rw[decide_eq_true c]
      refine iteT ?_
      walk_at "rd"
      obtain⟨r,hr⟩:∃r,es[n]?=some r:=⟨_,YAG c⟩
      refine⟨pe,es.map tx,n,tx r,rfl,rfl,.mk (s8 _ _ e7),Zl5 (by rw[YAW,hr];rfl),?_⟩
      show Zcq _ _ _ _
      refine Zai ?_
      walk_at "rd"
      have s08:=s7.trans s8
      refine⟨pS,rfl,.inl ⟨kS,.inl (s8 _ _ S7)⟩,YAq _,NewL.of fun z H9 s9 nz z9=>⟨_,.inl ⟨kS,kTx r,.inl (s9 _ _ (s8 _ _ S7)),rfl,rfl⟩,?_⟩⟩
      have s89:=s8.trans s9
      have L9:=s89 _ _ L7
      have e9:=s89 _ _ e7
      have sr9:SrcAt H H9 pS pL kS (edges ws m ss):=sr7.keep fun a xs e=>s89 _ _ e
      obtain⟨al,eal,hal,nalL,nalE⟩:∃al,((valV kS (kTx r)).getD (.ref z))=.ref al/\H9 al=some (.lst ((srcOf (edges ws m ss) r).map tx))/\al≠pL/\al≠pe:=by
       cases hv:valV kS (kTx r) with
       | none=>
        refine⟨z,rfl,?_,YAv (Zah (s8 _ _ L7) nz),YAv (Zah (s8 _ _ e7) nz)⟩
        rw[sr9.no r hv];exact z9
       | some v=>
        obtain⟨a',rfl,h1,h2,h3,h4⟩:=sr9.yes r v hv
        exact⟨a',rfl,h4,h3,src_ne r a' hv⟩
      rw[eal]
      have s09:=s7.trans s89
      have kj:=ki.enter (S:=srcOf (edges ws m ss) r) hr (fun s hs=>ZeU sl.nd hs)
      refine⟨al,rfl,⟨_,.mk hal⟩,ForRun.list (xs:=(srcOf (edges ws m ss) r).map tx) (fun j U H'=>∃(v3:Option V) (es:List Wd) (f:Wd->Nat) (kL:List (Key×V)),U=[some (.ref p),some (.ref pS),some (.ref pL),v3,some (tx r),some (.ref pe),some (.int n)]/\Same H H'/\H' al=some (.lst ((srcOf (edges ws m ss) r).map tx))/\H' pS=some (.dK kS)/\SrcAt H H' pS pL kS (edges ws m ss)/\H' pL=some (.dK kL)/\ZfH kL ss f/\kL.length<=8201/\H' pe=some (.lst (es.map tx))/\KJ ss (outS ws m) n r (srcOf (edges ws m ss) r) j es f) ⟨_,es,f,kL,rfl,s09,hal,s89 _ _ S7,sr9,L9,la7,kl7,e9,kj⟩ (fun j U H' _ ⟨_,_,_,_,_,_,h,_⟩=>.mk h) ?_ ?_⟩
      .rintro j x U G1 hx ⟨v3,es,f,kL,rfl,g1,al1,S1,sr1,L1,la1,kl1,e1,kj⟩
       obtain⟨s_,hs,rfl⟩:=Zc2 hx
       have ms:s_∈ss:=ZhZ (YAT hs)
       have fp:=kj.pos hs ms
       have vs:=la1 s_ ms
       walk_at "rd"
       refine⟨pL,_,rfl,.inl ⟨kL,kTx s_,.inl L1,rfl,vs.symm⟩,_,_,rfl,rfl,_,DPut.k (k:=kTx s_) L1 (YAb (show _<100000 by omega) (sz 100000 (YAH _))),?_⟩
       have fe:((f s_:Nat):Int)-1=((f s_-1:Nat):Int):=by omega
       rw[fe]
       have g2:Same H (upd G1 pL (.dK (putK kL (kTx s_) (.int ((f s_-1:Nat):Int))))):=same_upd3 g1 nL0
       have al2:upd G1 pL (.dK (putK kL (kTx s_) (.int ((f s_-1:Nat):Int)))) al=some (.lst ((srcOf (edges ws m ss) r).map tx)):=by rw[Zac nalL];exact al1
       have S2:upd G1 pL (.dK (putK kL (kTx s_) (.int ((f s_-1:Nat):Int)))) pS=some (.dK kS):=by rw[Zac nSL];exact S1
       have sr2:SrcAt H (upd G1 pL (.dK (putK kL (kTx s_) (.int ((f s_-1:Nat):Int))))) pS pL kS (edges ws m ss):=sr1.keep fun a' xs e=>by
        have n':a'≠pL:=fun z=>by rw[z,L1]at e;cases e
        rw[Zac n'];exact e
       have L2:upd G1 pL (.dK (putK kL (kTx s_) (.int ((f s_-1:Nat):Int)))) pL=some (.dK (putK kL (kTx s_) (.int ((f s_-1:Nat):Int)))):=Zad
       have e2:upd G1 pL (.dK (putK kL (kTx s_) (.int ((f s_-1:Nat):Int)))) pe=some (.lst (es.map tx)):=by rw[Zac (YAv npeL)];exact e1
       generalize upd G1 pL (.dK (putK kL (kTx s_) (.int ((f s_-1:Nat):Int))))=G2 at g2 al2 S2 sr2 L2 e2
       have kl2:(putK kL (kTx s_) (.int ((f s_-1:Nat):Int))).length<=8201:=by rw[ZgB vs];exact kl1
       obtain⟨k0,k1⟩:=kj.next hs ms (fun t=>if t=s_ then f s_-1 else f t) (fun t=>rfl)
       have gs:(if s_=s_ then f s_-1 else f s_)=f s_-1:=YAP rfl
       have la2:ZfH (putK kL (kTx s_) (.int ((f s_-1:Nat):Int))) ss (fun t=>if t=s_ then f s_-1 else f t):=fun t ht=>by
        show _=some (V.int ((if t=s_ then f s_-1 else f t:Nat):Int))
        rw[ZaU]
        by_cases e:t=s_
        .rw[YAP (by rw[e]),YAP e]
        .rw[YAL (fun z=>e (ZaR z)),YAL e];exact la1 t ht
       have v2:valV (putK kL (kTx s_) (.int ((f s_-1:Nat):Int))) (kTx s_)=some (.int ((f s_-1:Nat):Int)):=by rw[ZaU,YAP rfl]
       refine Zai ?_
       walk_at "rd"
       refine⟨pL,_,rfl,.inl ⟨_,kTx s_,.inl L2,rfl,v2.symm⟩,ZnR ⟨_,rfl,ite2 (fun h0=>Zai ?_) (fun h0=>?_)⟩⟩
       .have z0:f s_-1=0:=of_decide_eq_true h0
        have kj2:=k0 (gs.trans z0)
        have esl2:=Zdd es ss kj.nd kj.sub
        walk_at "rd"
        refine⟨.inl ⟨rfl,_,.mk e2⟩,pe,_,_,rfl,rfl,e2,by rw[YAB];exact YAb (show _<100000 by omega) (sz 100000 (YAH _)),_,es++[s_],_,_,rfl,same_upd3 g2 nH,by rw[Zac nalE];exact al2,by rw[Zac npeS];exact S2,?_,by rw[Zac npeL];exact L2,la2,kl2,by rw[Zad,YBA];rfl,kj2⟩
        refine⟨sr2.no,fun r v hv=>?_,sr2.inj,sr2.len⟩
        obtain⟨a',rfl,h1,h2,h3,h4⟩:=sr2.yes r v hv
        exact⟨a',rfl,h1,h2,h3,by rw[Zac (src_ne r a' hv)];exact h4⟩
       .have z0:f s_-1≠0:=fun z=>h0 (decide_eq_true z)
        exact⟨_,es,_,_,rfl,g2,al2,S2,sr2,L2,la2,kl2,e2,k1 (by rw[gs];exact z0)⟩
      .rintro U G1 ⟨v3,es,f,kL,rfl,g1,al1,S1,sr1,L1,la1,kl1,e1,kj⟩
       rw[YAB]at kj
       have ki':=kj.leave
       refine Zai ?_
       walk_at "rd"
       refine⟨_,rfl,_,_,rfl,rfl,⟨_,_,n+1,es,f,kL,rfl,g1,S1,sr1,L1,la1,kl1,e1,ki'⟩,?_⟩
       show ss.length-((n:Int)+1).toNat<ss.length-(n:Int).toNat
       omega
     .rw[decide_eq_false c]
      refine iteF ?_
      walk_at "rd"
      have en:n=es.length:=by have:=ki.le;omega
      subst en
      exact q pe es H8 (s7.trans s8) nH (s8 _ _ e7) (ZlV ok lk sl ki)
theorem Zh8:FnScope ["ways","ended","longest","stem","letter","word"] ["ways","ended"] (Zaj s_K8):=by walk_at "sc"
theorem ZpW (T:TL K mg base a tb):FnOk P w K mg base CX0 1 a.f_K8 a.d_K8 ["ways","ended"] (ZoP K a):=by
 refine T.f_K8.ok Zh8 (fun vs H Q E h=>?_) (fun cdv A outer s H vs Q E hr h=>?_)
 .obtain⟨_,_,_,_,_,_,_,_,rfl,_⟩:=h;rfl
 .have hu1:=ZaH hr
  obtain⟨p,pq,kw,ws,ss,es,l,m,rfl,hp,wl,sl,ok,lk,hq,he,q⟩:=h
  refine⟨_,(Zab (Zax (i:=2) Zh8.nd rfl (Or.inl rfl) ZbQ)
   (Zab (ZaZ YAp rfl (Zaz (K:=K) rfl (pv 1)) (Zam (i:=3) Zh8.nd rfl (Or.inl rfl))
   (Zaf (Zab (ZbP hu1 (pv 2) (pv 3) (ZaD (l:=[]) (by decide +kernel)) rfl)
   (Zaf (Zag (Zdu (ZaZ YAp rfl (Zen (Zbx hu1 (pv 0) (pv 3) (fun _ _=>rfl))) (Zam (i:=4) Zh8.nd rfl (Or.inl rfl))
   (Zaf (Zab (Zax (i:=5) Zh8.nd rfl (Or.inl rfl) (ZaI Zbk (pv 4) (Zbx hu1 (pv 2) (Zbx hu1 (Zbx hu1 (pv 0) (pv 3) (fun _ _=>rfl)) (pv 4) (fun _ _=>rfl)) (fun _ _=>rfl))))
   (Zag (Za2 (Zau Zhm (Zan (Zav (K:=K) rfl) rfl T.z_len ZaL (Zaa (pv 5) Zae)) (Zan (Zav (K:=K) rfl) rfl T.z_len ZaL (Zaa (Zbx hu1 (pv 2) (pv 3) (fun _ _=>rfl)) Zae)) (ZaA _)) (Zaf (Zag (ZbP hu1 (pv 2) (pv 3) (pv 5) rfl))) Zay)))))))))))
   (Zaf (Zag (Zat (Zbx hu1 (pv 2) (ZaD (l:=[]) (by decide +kernel)) (fun _ _=>rfl))))))),?_⟩
  have sz:∀k:Nat,k<=100000->k<=sizeLine:=fun k h=>YAJ h (by rw[sizeLine_eq];decide)
  have m4:=ok.m4
  have sl82:=sl.len
  have esl:es.length<=ss.length:=Zdd es ss he.nd he.sub
  walk_at "rd"
  intro pl nl
  have s1:Same H (upd H pl (.dK [])):=Zap nl
  have l1:upd H pl (.dK []) pl=some (.dK []):=Zad
  generalize upd H pl (.dK [])=H1 at s1 l1
  refine⟨pq,rfl,⟨_,.mk (s1 _ _ hq)⟩,ForRun.list (xs:=es.map tx) (fun i U H'=>∃(v3 v4 v5:Option V) (kO:List (Key×V)),U=[some (.ref p),some (.ref pq),some (.ref pl),v3,v4,v5]/\Same H H'/\H' pl=some (.dK kO)/\kO.length<=i/\∀s∈es.take i,∃x,valV kO (kTx s)=some (tx x)/\LW ws m s x) ⟨_,_,_,[],rfl,s1,l1,YAH _,fun s h=>by rw[YCK]at h;cases h⟩ (fun i U H' _ ⟨_,_,_,_,_,s',_⟩=>.mk (s' _ _ hq)) ?_ ?_⟩
  .rintro i x U H2 hx ⟨v3,v4,v5,kO,rfl,s2,l2,n2,la⟩
   obtain⟨s_,hs,rfl⟩:=Zc2 hx
   have il:=(YAK.mp hs).1
   have ms:s_∈ss:=he.sub s_ (YAT hs)
   have hst:=(sl.iff s_).mp ms
   obtain⟨au,va,na,hau⟩:=wl.val sl.nd ms
   have nal:au≠pl:=Zah hau nl
   have npl:p≠pl:=Zah hp nl
   have ni:s_∉es.take i:=Zbs he.nd hs
   walk_at "rd"
   refine Zai ?_
   walk_at "rd"
   refine⟨pl,_,rfl,DPut.k (k:=kTx s_) l2 (YAb (show _<100000 by omega) (sz 100000 (YAH _))),Zai ?_⟩
   have s3:Same H (upd H2 pl (.dK (putK kO (kTx s_) (tx [])))):=same_upd3 s2 nl
   have l3:upd H2 pl (.dK (putK kO (kTx s_) (tx []))) pl=some (.dK (putK kO (kTx s_) (tx []))):=Zad
   have n3:(putK kO (kTx s_) (tx [])).length<=i+1:=by
    have:=ZaK kO (kTx s_) (tx [])
    omega
   have la3:∀s∈es.take i,∃x,valV (putK kO (kTx s_) (tx [])) (kTx s)=some (tx x)/\LW ws m s x:=fun s hs'=>by
    have:s≠s_:=fun z=>ni (z▸hs')
    rw[ZaU,YAL (fun z=>this (ZaR z))];exact la s hs'
   have v3':valV (putK kO (kTx s_) (tx [])) (kTx s_)=some (tx []):=by rw[ZaU,YAP rfl]
   generalize upd H2 pl (.dK (putK kO (kTx s_) (tx [])))=H3 at s3 l3
   generalize putK kO (kTx s_) (tx [])=kO3 at l3 n3 la3 v3'
   walk_at "rd"
   refine⟨au,_,s3 _ _ hau,p,.ref au,rfl,.inl ⟨kw,kTx s_,.inl (s3 _ _ hp),rfl,va.symm⟩,au,_,rfl,s3 _ _ hau,fun o=>ForRun.dict (fun j U H'=>∃(v4 v5:Option V) (kO:List (Key×V)) (x:Q11),U=[some (.ref p),some (.ref pq),some (.ref pl),some (tx s_),v4,v5]/\(∀b y,b≠au->H b=some y->H' b=some y)/\H' au=some (.frz o (.dK ((onw ws m s_).map wayK)))/\H' pl=some (.dK kO)/\kO.length<=i+1/\(∀s∈es.take i,∃x,valV kO (kTx s)=some (tx x)/\LW ws m s x)/\valV kO (kTx s_)=some (tx x)/\PW ws m s_ j x) ⟨_,_,kO3,[],rfl,?_,Zad,?_,n3,la3,v3',PW.start (lk.stemAv hst)⟩ (fun j U H' ⟨_,_,_,_,_,_,h,_⟩=>h) ?_ ?_⟩
   .intro b y n e
    rw[Zac n];exact s3 _ _ e
   .rw[Zac (YAv nal)];exact l3
   .rintro j kv U H4 hkv ⟨v4,v5,kO4,x,rfl,s4,a4,l4,n4,la4,v4',pw⟩
    obtain⟨c,hc,rfl⟩:∃c,(onwC ws m s_)[j]?=some c/\kv=wayK (c,estOf ws (s_++[c])):=by
     unfold onw at hkv
     rw[YBB,YAW]at hkv
     cases e:(onwC ws m s_)[j]? with
     | none=>rw[e]at hkv;cases hkv
     | some c=>rw[e]at hkv;cases hkv;exact⟨c,rfl,rfl⟩
    have eo:estOf ws (s_++[c])∈outS ws m s_:=by
     unfold outS onw
     exact YAo.mpr ⟨_,YAo.mpr ⟨c,YAT hc,rfl⟩,rfl⟩
    have et:=he.ord i s_ hs _ eo
    obtain⟨z,vz,lz⟩:=la4 _ et
    have lz40:=LW.len ok lk (ZgZ (ZcD ws (s_++[c]))) lz
    have vc:valV ((onw ws m s_).map wayK) (kTx [c])=some (tx (estOf ws (s_++[c]))):=Zeh (Zin (ZcC ok.k)) hkv
    have p4:H4 p=some (.dK kw):=s4 _ _ (YAv na) hp
    obtain⟨w1,w2⟩:=pw.next hc lz
    have xl:x.length<=1000:=by
     have hm:∀c∈s_++x,c∈m:=fun c hc=>by
      rcases YAZ.mp hc with z | z
      .exact lk.stem ok hst c z
      .exact pw.mem c z
     have:=((lk.av hm).mp pw.av).len
     rw[YAE]at this
     have:=ok.l40
     omega
    show ZbX 4 (kV (kTx [c])) _ _ _
    rw[ZiN]
    walk_at "rd"
    refine Zai ?_
    walk_at "rd"
    refine⟨p,.ref au,rfl,.inl ⟨kw,kTx s_,.inl p4,rfl,va.symm⟩,au,_,rfl,.inl ⟨_,kTx [c],.inr ⟨o,a4⟩,rfl,vc.symm⟩,pl,_,rfl,.inl ⟨kO4,kTx (estOf ws (s_++[c])),.inl l4,rfl,vz.symm⟩,[c],z,rfl,rfl,sz _ (by rw[YAg];omega),?_⟩
    refine⟨_,_,rfl,Zby (by rw[YAE,YAg];omega),pl,_,rfl,.inl ⟨kO4,kTx s_,.inl l4,rfl,v4'.symm⟩,_,_,rfl,Zby (by omega),ite2 (fun h0=>Zai ?_) (fun h0=>?_)⟩
    .have lt:x.length<(c::z).length:=by
      have:=of_decide_eq_true h0
      rw[YAE,YAg]at this
      rw[YAk];omega
     walk_at "rd"
     refine⟨pl,_,rfl,DPut.k (k:=kTx s_) l4 (YAb (show _<100000 by omega) (sz 100000 (YAH _))),_,_,putK kO4 (kTx s_) (tx (c::z)),c::z,rfl,?_,by rw[Zac nal];exact a4,Zad,by rw[ZgB v4'];exact n4,fun s hs'=>?_,by rw[ZaU,YAP rfl],w1 lt⟩
     .intro b y n e
      rw[Zac (Zah e nl)];exact s4 b y n e
     .have:s≠s_:=fun z=>ni (z▸hs')
      rw[ZaU,YAL (fun z=>this (ZaR z))];exact la4 s hs'
    .have lt:¬x.length<(c::z).length:=fun q=>h0 (decide_eq_true (by rw[YAE,YAg];rw[YAk]at q;omega))
     exact⟨_,_,kO4,x,rfl,s4,a4,l4,n4,la4,v4',w2 lt⟩
   .rintro U H4 ⟨v4,v5,kO4,x,rfl,s4,a4,l4,n4,la4,v4',pw⟩
    have lo:((onw ws m s_).map wayK).length=(onwC ws m s_).length:=by unfold onw;rw[YAB,YAB]
    rw[lo]at pw
    refine⟨o,_,a4,_,_,_,kO4,rfl,?_,by rw[Zac (YAv nal)];exact l4,n4,fun s hs'=>?_⟩
    .intro b y e
     by_cases c:b=au
     .subst c
      rw[hau]at e
      cases e
      rw[Zad]
     .rw[Zac c];exact s4 b y c e
    .rw[ZaY hs]at hs'
     rcases YAZ.mp hs' with z | z
     .exact la4 s z
     .rw[YAR.mp z];exact⟨x,v4',pw.done⟩
  .rintro U H2 ⟨v3,v4,v5,kO,rfl,s2,l2,n2,la⟩
   rw[YAB,YBJ]at la
   obtain⟨x,vx,lx⟩:=la [] he.nil
   have ex:=LW.text ok lk lx
   subst ex
   walk_at "rd"
   refine Zai ?_
   walk_at "rd"
   exact⟨pl,_,rfl,.inl ⟨kO,kTx [],.inl l2,rfl,vx.symm⟩,q H2 s2⟩
theorem Zpf:FnScope ["self"] ["self"] (Zaj s_KD):=by walk_at "sc"
theorem Znc (T:TL K mg base a tb):FnOk P w K mg base CX0 1 a.g_KD a.e_KD ["self"] (ZoM K a):=by
 refine T.fm_KD.ok Zpf (fun vs H Q E h=>?_) (fun cdv A outer s H vs Q E hr h=>?_)
 .obtain⟨_,_,_,_,_,_,rfl,_⟩:=h;rfl
 .obtain⟨p,la,da,l,m,ds,rfl,hp,q⟩:=h
  refine⟨_,(Zag (Zat (Za5 (ZcI (K:=K) rfl) rfl T.z_list ZcW (Zaa (ZaF (K:=K) rfl (pv 0) rfl) Zae)))),?_⟩
  obtain⟨dx,f⟩:=hp.fld
  walk_at "rd"
  exact⟨p,_,dx,_,_,rfl,f,T.cl_LI,T.n_Strip_own_lacking,Zgx,la,_,rfl,.inl (.mk hp.lack),q⟩
theorem Zo6:FnScope ["self","text","kinds"] ["self","text","kinds"] (Zaj s_KV):=by walk_at "sc"
theorem Zm5 (T:TL K mg base a tb):FnOk P w K mg base CX0 1 a.g_KV a.e_KV ["self","text","kinds"] (Zoz K a):=by
 refine T.fm_KV.ok Zo6 (fun vs H Q E h=>?_) (fun cdv A outer s H vs Q E hr h=>?_)
 .obtain⟨_,_,_,_,_,rfl,_⟩:=h;rfl
 .obtain⟨p,dx,C,l,m,rfl,hC,hp,q⟩:=h
  refine⟨_,(Zab (ZdZ (pv 0) (pv 1) rfl)
   (Zag (ZdZ (pv 0) (pv 2) rfl))),?_⟩
  walk_at "rd"
  rcases hC with rfl | rfl
  .exact⟨p,a.c_LH,dx,[],rfl,hp,T.cl_LH,T.n_Plain_own_text,(by show 0<1000;decide),p,a.c_LH,dx,_,rfl,Zad,T.cl_LH,T.n_Plain_own_kinds,(by show 1<1000;decide),q _ Zad (fun b o e ne=>by rw[Zac ne,Zac ne];exact e)⟩
  .exact⟨p,a.c_LI,dx,[],rfl,hp,T.cl_LI,T.n_Strip_own_text,(by show 0<1000;decide),p,a.c_LI,dx,_,rfl,Zad,T.cl_LI,T.n_Strip_own_kinds,(by show 1<1000;decide),q _ Zad (fun b o e ne=>by rw[Zac ne,Zac ne];exact e)⟩
theorem Zpg:FnScope ["self","length"] ["self","length"] (Zaj s_KA):=by walk_at "sc"
theorem ZpU (T:TL K mg base a tb):FnOk P w K mg base CX0 1 a.g_KA a.e_KA ["self","length"] (ZoN K a):=by
 refine T.fm_KA.ok Zpg (fun vs H Q E h=>?_) (fun cdv A outer s H vs Q E hr h=>?_)
 .obtain⟨_,_,_,_,rfl,_⟩:=h;rfl
 .obtain⟨p,l,m,n,rfl,hp,q⟩:=h
  refine⟨_,(Zag (Zat (ZaF (K:=K) rfl (pv 0) rfl))),?_⟩
  obtain⟨dx,hp⟩:=hp
  walk_at "rd"
  exact⟨p,_,dx,_,_,rfl,hp,T.cl_LH,T.n_Plain_own_text,Zfo,q⟩
theorem Zpc:FnScope ["self"] ["self"] (Zaj s_KK):=by walk_at "sc"
theorem ZpR (T:TL K mg base a tb):FnOk P w K mg base CX0 1 a.g_KK a.e_KK ["self"] (ZoG K a):=by
 refine T.fm_KK.ok Zpc (fun vs H Q E h=>?_) (fun cdv A outer s H vs Q E hr h=>?_)
 .obtain⟨_,_,_,rfl,_⟩:=h;rfl
 .obtain⟨p,l,m,rfl,hp,ok,q⟩:=h
  refine⟨_,(Zag (Zat (ZaI ZbW (Zan (Zav (K:=K) rfl) rfl T.z_len ZaL (Zaa (ZaF (K:=K) rfl (pv 0) rfl) Zae)) Zak))),?_⟩
  obtain⟨dx,hp⟩:=hp
  have l40:=ok.l40
  walk_at "rd"
  exact⟨p,_,dx,_,_,rfl,hp,T.cl_LH,T.n_Plain_own_text,Zfo,_,_,rfl,Zby (by omega),q⟩
theorem ZoY:FnScope ["_law_script","_law_k"] ["_law_script","_law_k"] (Zaj s_LO):=by walk_at "sc"
theorem ZmZ (T:TL K mg base a tb):FnOk P w K mg base CX0 1 a.f_LO a.d_LO ["_law_script","_law_k"] (Zoj K a):=by
 refine T.f_LO.ok ZoY (fun vs H Q E h=>?_) (fun cdv A outer s H vs Q E hr h=>?_)
 .obtain⟨_,_,_,rfl,_⟩:=h;rfl
 .obtain⟨b,ns,k,rfl,hS,hk,q⟩:=h
  refine⟨_,(Zab (Za2 (Zau Zhj (pv 1) (Zan (Zav (K:=K) rfl) rfl T.z_len ZaL (Zaa (pv 0) Zae)) (ZaA _)) (Zag (Zat (Zbj (Zcd (K:=K) rfl) (pv 0) (pv 1) (fun _ _=>rfl)))) Zay)
   (Zag (Zat Zak))),?_⟩
  walk_at "rd"
  refine⟨_,_,rfl,.inl ⟨_,hS,rfl⟩,?_⟩
  rw[YAB]
  refine ite2 (fun h=>?_) (fun h=>?_)
  .have h':k<ns.length:=of_decide_eq_true h
   exact⟨b,_,k,_,rfl,rfl,hS,Zl6 hk h',q _⟩
  .exact q _
theorem Zlg:FnScope ["_law_cell","_law_k","_law_number"] ["_law_cell","_law_k"] (Zaj s_LP):=by walk_at "sc"
theorem ZjJ (T:TL K mg base a tb):FnOk P w K mg base CX0 1 a.f_LP a.d_LP ["_law_cell","_law_k"] (Zoi K a):=by
 refine T.f_LP.ok Zlg (fun vs H Q E h=>?_) (fun cdv A outer s H vs Q E hr h=>?_)
 .obtain⟨_,_,rfl,_⟩:=h;rfl
 .obtain⟨c,k,rfl,q⟩:=h
  refine⟨_,(Zab (Zax (i:=2) Zlg.nd rfl (Or.inl rfl) (ZaI ZbV (ZaI ZbW (ZaI ZbW (ZaI Zc1 (ZaI ZbV (pv 0) Zak) Zak) (ZaI Zc1 (pv 1) Zak)) Zak) Zak))
   (Zab (Zax (i:=2) Zlg.nd rfl (Or.inl rfl) (ZaI ZbV (ZaI ZbW (ZaI ZbW (ZaI Zc1 (ZaI ZbV (ZaI Zc1 (pv 2) (pv 2)) Zak) Zak) (ZaI Zc1 (pv 1) Zak)) Zak) Zak))
   (Zag (Zat (ZaI ZbV (ZaI Zc1 (pv 2) (pv 2)) Zak))))),?_⟩
  walk_at "rd"
  exact⟨by decide,.inr ⟨by decide,by decide⟩,.inr ⟨by decide,by decide⟩,by decide,cm (by decide) (by decide),by decide,.inr ⟨by decide,by decide⟩,.inr ⟨by decide,by decide⟩,by decide,cm (by decide) (by decide),by decide,q⟩
theorem Zo0:FnScope ["_law_text","_law_word","_law_place"] ["_law_text","_law_word","_law_place"] (Zaj s_LJ):=by walk_at "sc"
theorem Zm1 (T:TL K mg base a tb):FnOk P w K mg base CX0 1 a.f_LJ a.d_LJ ["_law_text","_law_word","_law_place"] (Zoo K a):=by
 refine T.f_LJ.ok Zo0 (fun vs H Q E h=>?_) (fun cdv A outer s H vs Q E hr h=>?_)
 .obtain⟨_,_,_,rfl,_⟩:=h;rfl
 .have hu64:=hr.units
  obtain⟨L,w_,i,rfl,hL,hw,o,q⟩:=h
  refine⟨_,(Zag (Zat (ZbZ (Za3 (Za4 (K:=K) rfl hu64) (ZgG (K:=K) rfl YCT PySem.F.slot_str_find PySem.F.type_str_find Zeo (pv 0) (Zaa (pv 1) Zae)) (pv 2) (ZaA _)) (Zc0 (Za3 (Za4 (K:=K) rfl hu64) (ZgG (K:=K) rfl YCT PySem.F.slot_str_rfind PySem.F.type_str_rfind ZjP (pv 0) (Zaa (pv 1) Zae)) (pv 2) (ZaA _)))))),?_⟩
  walk_at "rd"
  have one:∀r:Int,((r=-1/\¬Inf w_ L)\/∃j:Nat,r=(j:Int)/\AtW L w_ j)->r=(i:Int):=fun r h=>by
   rcases h with⟨_,n⟩|⟨j,rfl,h⟩
   .exact absurd ⟨i,o.1⟩ n
   .rw[o.2 j h]
  refine⟨rfl,L,w_,rfl,rfl,fun r hr=>?_⟩
  obtain rfl:=one r (hr.imp id fun ⟨j,e,h,_⟩=>⟨j,e,h⟩)
  refine eq_int ⟨true,rfl,iteT ⟨rfl,L,w_,rfl,rfl,fun r hr=>?_⟩⟩
  obtain rfl:=one r (hr.imp id fun ⟨j,e,h,_⟩=>⟨j,e,h⟩)
  exact eq_int q
theorem Zpe:FnScope ["self"] ["self"] (Zaj s_KI):=by walk_at "sc"
theorem ZpT (T:TL K mg base a tb):FnOk P w K mg base CX0 1 a.g_KI a.e_KI ["self"] (ZoI K a):=by
 refine T.fm_KI.ok Zpe (fun vs H Q E h=>?_) (fun cdv A outer s H vs Q E hr h=>?_)
 .obtain⟨_,_,_,_,_,_,rfl,_⟩:=h;rfl
 .obtain⟨p,la,da,l,m,ds,rfl,hp,q⟩:=h
  refine⟨_,(Zag (Zat (Za5 (ZcI (K:=K) rfl) rfl T.z_list ZcW (Zaa (ZaF (K:=K) rfl (pv 0) rfl) Zae)))),?_⟩
  obtain⟨dx,f⟩:=hp.fld
  obtain⟨ts,d1,d2⟩:=hp.deed
  walk_at "rd"
  exact⟨p,_,dx,_,_,rfl,f,T.cl_LI,T.n_Strip_own_deeds,ZbL,da,_,rfl,.inl (.mk d1),fun r hr=>q r ts hr d2⟩
theorem Zo5:FnScope ["self"] ["self"] (Zaj s_KW):=by walk_at "sc"
theorem Zhp (T:TL K mg base a tb):FnOk P w K mg base CX0 1 a.g_KW a.e_KW ["self"] (Zoy K a):=by
 refine T.fm_KW.ok Zo5 (fun vs H Q E h=>?_) (fun cdv A outer s H vs Q E hr h=>?_)
 .obtain⟨_,_,_,_,_,_,rfl,_⟩:=h;rfl
 .obtain⟨p,la,da,l,m,ds,rfl,hp,q⟩:=h
  refine⟨_,(Zag (Zat (ZaF (K:=K) rfl (pv 0) rfl))),?_⟩
  obtain⟨dx,f⟩:=hp.fld
  walk_at "rd"
  exact⟨p,_,dx,_,_,rfl,f,T.cl_LI,T.n_Strip_own_text,Za8,q⟩
theorem ZfV:FnScope ["_law_old","_law_found","_law_kept","_law_word","_law_reason"] ["_law_old","_law_found"] (Zaj s_LD):=by walk_at "sc"
theorem ZpJ (T:TL K mg base a tb):FnOk P w K mg base CX0 1 a.f_LD a.d_LD ["_law_old","_law_found"] (Zos K a):=by
 refine T.f_LD.okC T.cd_LD ZfV (fun vs H Q E h=>?_) (fun A outer s H vs Q E hr h=>?_)
 .obtain⟨_,_,_,_,_,_,_,_,_,_,rfl,_⟩:=h;rfl
 .have hu1:=ZaH hr
  obtain⟨t,c,g,o,ys,zs,old,new,rc,rg,rfl,ho,ht,hc,hg,rwc,rwg,po,pn,ndc,ndg,mc,mg_,lo,lc,lg,wo,wn,tk,q⟩:=h
  refine⟨_,(Zab (Zax (i:=2) ZfV.nd rfl (Or.inl rfl) ZbQ)
   (Zaf (Zab (ZaZ YAp rfl (Zaz (K:=K) rfl (pv 0)) (Zam (i:=3) ZfV.nd rfl (Or.inl rfl))
   (Zag (ZbP hu1 (pv 2) (pv 3) Zcu rfl)))
   (Zaf (Zab (ZaZ YAp rfl (Zaz (K:=K) rfl (Zbj (Za0 (K:=K) rfl) (pv 1) Zak (fun _ _=>rfl))) (Ze3 rfl (Za9 (Zam (i:=3) ZfV.nd rfl (Or.inl rfl)) (Za9 (Zam (i:=4) ZfV.nd rfl (Or.inl rfl)) ZcN)))
   (Zab (Za2 (ZgD (Ze4 hu1 (pv 3) (pv 2))) (Zaf (Zag (Zat Zii))) Zay)
   (Zag (ZaN (ZjH (pv 2) (pv 3) ⟨rfl,rfl,rfl,rfl⟩)))))
   (Zaf (Zab (ZaZ YAp rfl (Zaz (K:=K) rfl (Zbj (Za0 (K:=K) rfl) (pv 1) Zak (fun _ _=>rfl))) (Ze3 rfl (Za9 (Zam (i:=3) ZfV.nd rfl (Or.inl rfl)) (Za9 (Zam (i:=4) ZfV.nd rfl (Or.inl rfl)) ZcN)))
   (Zab (Za2 (ZgD (ZkA hu1 (pv 3) (pv 2))) (Zaf (Zag (Zat Zii))) Zay)
   (Zag (ZbP hu1 (pv 2) (pv 3) Zcu rfl))))
   (Zaf (Zag (Zat (Zih (q:="_law_listed.<locals>.<lambda>") hr rfl T.L_listed rfl rfl T.z_sorted T.z_len (Zaa (pv 2) Zae) rfl rfl (by kernel_rfl) ⟨rfl,rfl,rfl,rfl,rfl,rfl⟩ (fun _ _ _ _ _=>.of_eq rfl)))))))))))),?_⟩
  have sz:∀k:Nat,k<=30000->k<=sizeLine:=fun k h=>YAJ h (by rw[sizeLine_eq];decide)
  have lt:∀k:Nat,k<30000->k<sizeLine:=fun k h=>YAb h (sz _ (YAH _))
  have ndo:old.Nodup:=ZbM po
  walk_at "rd"
  intro p hp
  have s1:Same H (upd H p (.dK [])):=Zap hp
  have h1:upd H p (.dK []) p=some (.dK []):=Zad
  generalize upd H p (.dK [])=H1 at s1 h1
  have sm:∀H',(∀b o,H1 b=some o->b≠p->H' b=some o)->Same H H':=fun H' k b o e=>k b o (s1 _ _ e) (Zah e hp)
  refine Zai ?_
  walk_at "rd"
  refine⟨o,rfl,⟨_,.mk (s1 _ _ ho)⟩,ForRun.list (xs:=old.map tx) (fun i U H'=>∃v3 kvs,U=[some (.ref o),some (.ref t),some (.ref p),v3,none]/\(∀b o,H1 b=some o->b≠p->H' b=some o)/\H' p=some (.dK kvs)/\SetD kvs (old.take i)) ⟨_,[],rfl,fun _ _ e _=>e,h1,⟨rfl,List.nodup_nil⟩⟩ (fun i U H' _ ⟨_,_,_,k,_⟩=>.mk (sm _ k _ _ ho)) ?_ ?_⟩
  .rintro i x U H2 hx ⟨v3,kvs,rfl,k2,h2,sd⟩
   obtain⟨w_,hw,rfl⟩:=Zc2 hx
   have hi:=(YAK.mp hw).1
   have ln:=sd.len
   rw[YAc]at ln
   have nt:=Zbs ndo hw
   walk_at "rd"
   refine⟨p,_,rfl,DPut.k (k:=kTx w_) h2 (lt _ (by omega)),_,putK kvs (kTx w_) (.bl true),rfl,fun b o e n=>by rw[Zac n];exact k2 b o e n,Zad,?_⟩
   rw[YCP,hw]
   exact sd.put nt _
  .rintro U H2 ⟨v3,kvs,rfl,k2,h2,sd⟩
   rw[YAB,YBJ]at sd
   have s2:=sm _ k2
   walk_at "rd?"
   refine Zai ?_
   walk_at "rd"
   refine⟨t,_,1,_,rfl,rfl,.mk (s2 _ _ ht),rfl,g,rfl,⟨_,.mk (s2 _ _ hg)⟩,ForRun.list (xs:=zs) (fun i U H'=>∃v3 v4 kvs ws,U=[some (.ref o),some (.ref t),some (.ref p),v3,v4]/\(∀b o,H1 b=some o->b≠p->H' b=some o)/\H' p=some (.dK kvs)/\SetD kvs ws/\ws.length<=9000/\∀w,w∈ws↔w∈old/\w∉(rg.map (·.1)).take i) ⟨_,_,kvs,old,rfl,k2,h2,sd,lo,fun w=>by simp⟩ (fun i U H' _ ⟨_,_,_,_,_,k,_⟩=>.mk (sm _ k _ _ hg)) ?_ ?_⟩
   .rintro i x U H3 hx ⟨v3,v4,kvs,ws,rfl,k3,h3,sd,lw,mw⟩
    obtain⟨r,hr,a1,b1,rfl,ha,hb⟩:=rwg.2 i x hx
    have hr1:(rg.map (·.1))[i]?=some r.1:=by rw[YAW,hr];rfl
    have nt:=Zbs ndg hr1
    have s3:=sm _ k3
    have mo:=(mg_ r.1).mp (YAT hr1)
    have mr:r.1∈ws:=(mw _).mpr ⟨mo.1,nt⟩
    obtain⟨v,hv⟩:=sd.some mr
    refine⟨a1,_,rfl,.mk (s3 _ _ ha),rfl,_,_,rfl,_,_,rfl,rfl,?_⟩
    walk_at "rd"
    refine⟨p,_,rfl,DGet.k (k:=kTx r.1) h3,?_⟩
    rw[hv]
    refine iteN rfl ⟨p,rfl,.inl ⟨_,.inl h3⟩,kvs,kTx r.1,v,h3,rfl,hv,_,_,ZeF kvs (kTx r.1),ws.filter fun u=>decide (u≠r.1),rfl,fun b o e n=>by rw[Zac n];exact k3 b o e n,Zad,sd.drop r.1,YAJ (YAe _ _) lw,fun w=>?_⟩
    rw[YBP,mw,YCP,hr1]
    simp[and_assoc]
   .rintro U H3 ⟨v3,v4,kvs,ws,rfl,k3,h3,sd,lw,mw⟩
    have s3:=sm _ k3
    have e3:(rg.map (·.1)).take zs.length=rg.map (·.1):=by rw[rwg.1];exact YAm (by rw[YAB];exact YAH _)
    rw[e3]at mw
    walk_at "rd?"
    refine Zai ?_
    walk_at "rd"
    refine⟨t,_,0,_,rfl,rfl,.mk (s3 _ _ ht),rfl,c,rfl,⟨_,.mk (s3 _ _ hc)⟩,ForRun.list (xs:=ys) (fun i U H'=>∃v3 v4 kvs ws,U=[some (.ref o),some (.ref t),some (.ref p),v3,v4]/\(∀b o,H1 b=some o->b≠p->H' b=some o)/\H' p=some (.dK kvs)/\SetD kvs ws/\ws.length<=9000+i/\∀w,w∈ws↔(w∈old/\w∉rg.map (·.1))\/w∈(rc.map (·.1)).take i) ⟨_,_,kvs,ws,rfl,k3,h3,sd,lw,fun w=>by rw[mw w];simp⟩ (fun i U H' _ ⟨_,_,_,_,_,k,_⟩=>.mk (sm _ k _ _ hc)) ?_ ?_⟩
    .clear mw sd h3 k3 s3
     rintro i x U H3 hx ⟨v3,v4,kvs,ws,rfl,k3,h3,sd,lw,mw⟩
     have hi:=(YAK.mp hx).1
     rw[rwc.1]at hi
     obtain⟨r,hr,a1,b1,rfl,ha,hb⟩:=rwc.2 i x hx
     have hr1:(rc.map (·.1))[i]?=some r.1:=by rw[YAW,hr];rfl
     have nt:=Zbs ndc hr1
     have s3:=sm _ k3
     have mo:=(mc r.1).mp (YAT hr1)
     have mr:r.1∉ws:=fun z=>((mw _).mp z).elim (fun k=>mo.2 k.1) nt
     have ln:=sd.len
     refine⟨a1,_,rfl,.mk (s3 _ _ ha),rfl,_,_,rfl,_,_,rfl,rfl,?_⟩
     walk_at "rd"
     refine⟨p,_,rfl,DGet.k (k:=kTx r.1) h3,?_⟩
     rw[sd.none mr]
     refine iteN rfl ⟨p,_,rfl,DPut.k (k:=kTx r.1) h3 (lt _ (by omega)),_,_,putK kvs (kTx r.1) (.bl true),ws++[r.1],rfl,fun b o e n=>by rw[Zac n];exact k3 b o e n,Zad,sd.put mr _,by rw[YAE];show ws.length+1<=_;omega,fun w=>?_⟩
     rw[YAZ,mw,YCP,hr1]
     simp[or_assoc]
    .clear mw sd h3 k3 s3
     rintro U H3 ⟨v3,v4,kvs,ws,rfl,k3,h3,sd,lw,mw⟩
     have s3:=sm _ k3
     have e3:(rc.map (·.1)).take ys.length=rc.map (·.1):=by rw[rwc.1];exact YAm (by rw[YAB];exact YAH _)
     rw[e3]at mw
     have mn:∀w,w∈ws↔w∈new:=fun w=>by
      rw[mw,mc,mg_]
      by_cases z:w∈old<;>simp[z]
     walk_at "rd?"
     refine Zai ?_
     walk_at "rd"
     refine⟨p,kvs,ws,rfl,h3,sd.keys,fun w hw=>sz _ (by have:=wn w ((mn w).mp hw);omega),tk.2.same s3,fun ws' r H5 pm pw s5 t5 n5 l5=>?_⟩
     have e5:ws'=new:=Zbw (ZbT pm pw sd.nd) pn fun w=>by rw[pm.mem_iff];exact mn w
     rw[e5]at l5
     exact q r H5 (s3.l.trans s5.1) ⟨s5.2 _ _ _ (by decide) (tk.1.same s3),t5⟩ (Nw.of (s3.free n5)) l5
theorem Zpi:FnScope ["thing"] ["thing"] (Zaj s_K4):=by walk_at "sc"
theorem ZpZ (T:TL K mg base a tb):FnOk P w K mg base CX0 2 a.f_K4 a.d_K4 ["thing"] (ZoT K a):=by
 refine T.f_K4.ok Zpi (fun vs H Q E h=>?_) (fun cdv A outer s H vs Q E hr h=>?_)
 .obtain⟨_,rfl,_⟩:=h;rfl
 .have hu64:=hr.units
  obtain⟨l,rfl,hl,q⟩:=h
  refine⟨_,(Zab (Za2 (Zdt (Zch (Zan (Zb5 (K:=K) rfl) rfl T.z_isinstance ZbS (Zaa (pv 0) (Zaa (ZfY (v:=.ty "str") rfl T.z_str ZkT rfl) Zae))))) (Zag (Zat Zcu)) Zay)
   (Zab (Za2 (PW.pt (Zc6 (Zau Zhj (Zan (Zav (K:=K) rfl) rfl T.z_len ZaL (Zaa (pv 0) Zae)) Zak (ZaA _)) (Zcg (Zau Zhm (Zan (Zav (K:=K) rfl) rfl T.z_len ZaL (Zaa (pv 0) Zae)) (Zb8 rfl T.c_KN) (ZaA _))))) (Zag (Zat Zcu)) Zay)
   (Zag (Zat (ZbZ (Zal (Znd T) (hr.mono (by decide)) rfl T.m_K2 T.f_K2.kp T.b_K2 .nil Zaw (Zaa (pv 0) (Zaa (ZjG rfl T.c_KC) Zae))) (Zc0 (Za3 (Za4 (K:=K) rfl hu64) (Za5 (Zc3 rfl) rfl T.z_list ZcW (Zaa (pv 0) Zae)) (Zan (Zb4 rfl) rfl T.z_sorted ZdN (Zaa (Za5 (Zcp rfl) rfl T.z_set Zjk (Zaa (pv 0) Zae)) Zae)) (ZaA _)))))))),?_⟩
  walk_at "rd"
  refine⟨_,_,_,_,true,rfl,rfl,.ty (.pl (.str _)),ZiJ,iteF ?_⟩
  refine⟨_,_,rfl,Zby hl,?_⟩
  refine ite2 (fun h=>iteT' ?_) (fun h=>?_)
  .have h1:¬1<=l.length:=by have:=of_decide_eq_true h;omega
   have e:=q H (Same.refl _)
   unfold isk at e
   rw[decide_eq_false h1,YBn,YBn,YBn]at e
   exact e
  .have h1:1<=l.length:=by have:¬((l.length:Nat):Int)<1:=fun z=>h (decide_eq_true z);omega
   refine⟨_,_,rfl,Zby hl,?_⟩
   refine ite2 (fun h'=>?_) (fun h'=>?_)
   .have h4:¬l.length<=4:=by have:=of_decide_eq_true h';omega
    have e:=q H (Same.refl _)
    unfold isk at e
    rw[decide_eq_false h4,YCw,YBn,YBn]at e
    exact e
   .have h4:l.length<=4:=by have:¬4<((l.length:Nat):Int):=fun z=>h' (decide_eq_true z);omega
    refine⟨l,LET,by rw[ZlG],hl,fun H2 s2=>⟨_,rfl,?_⟩⟩
    refine ite2 (fun ha=>?_) (fun ha=>?_)
    .refine⟨l,rfl,hl,NewL.of fun p1 H3 s3 n3 l3=>?_⟩
     refine⟨signs l,by rw[signs_length];exact hl,.inl ⟨l,rfl,rfl⟩,fun p4 n4=>?_⟩
     refine⟨p4,ddl (signs l),rfl,Zad,YCn (ZlW l) (by omega),NewL.of fun p5 H5 s5 n5 l5=>?_⟩
     refine ZkO (.mk ((Zap n4).trans s5 _ _ l3)) (.mk l5) ?_
     have e:=q H5 (s2.trans (s3.trans ((Zap n4).trans s5)))
     unfold isk at e
     rw[decide_eq_true h1,decide_eq_true h4,ha,YCd,YCd,YCd]at e
     exact e
    .have e:=q H2 s2
     unfold isk at e
     rw[YCD.mpr ha,YCw,YBn]at e
     exact e
theorem Zph:FnScope ["thing","kinds","most"] ["thing","kinds","most"] (Zaj s_K7):=by walk_at "sc"
theorem ZlA (T:TL K mg base a tb):FnOk P w K mg base CX0 2 a.f_K7 a.d_K7 ["thing","kinds","most"] (ZoQ K a):=by
 refine T.f_K7.ok Zph (fun vs H Q E h=>?_) (fun cdv A outer s H vs Q E hr h=>?_)
 .obtain⟨_,_,_,rfl,_⟩:=h;rfl
 .obtain⟨l,m,most,rfl,hl,q⟩:=h
  refine⟨_,(Zag (Zat (ZbZ (Zan (Zb5 (K:=K) rfl) rfl T.z_isinstance ZbS (Zaa (pv 0) (Zaa (ZfY (v:=.ty "str") rfl T.z_str ZkT rfl) Zae))) (ZbZ (Za3 ZmV (Zan (Zav (K:=K) rfl) rfl T.z_len ZaL (Zaa (pv 0) Zae)) (pv 2) (ZaA _)) (Zc0 (Zal (Znd T) (hr.mono (by decide)) rfl T.m_K2 T.f_K2.kp T.b_K2 .nil Zaw (Zaa (pv 0) (Zaa (pv 1) Zae)))))))),?_⟩
  walk_at "rd"
  refine⟨_,_,_,_,true,rfl,rfl,.ty (.pl (.str _)),ZiJ,iteT ?_⟩
  refine⟨_,_,rfl,Zby hl,?_⟩
  refine ite2 (fun h=>?_) (fun h=>?_)
  .refine⟨l,m,rfl,hl,fun H2 s2=>?_⟩
   have e:=q H2 s2
   unfold isw at e
   rw[h,YCd]at e
   exact e
  .have e:=q H (Same.refl _)
   unfold isw at e
   rw[YCD.mpr h,YBn]at e
   exact e
theorem Zlh:FnScope ["lesser","longer","edges","size"] ["lesser","longer"] (Zaj s_LM):=by walk_at "sc"
theorem Zm0 (T:TL K mg base a tb):FnOk P w K mg base CX0 2 a.f_LM a.d_LM ["lesser","longer"] (Zol K a):=by
 refine T.f_LM.ok Zlh (fun vs H Q E h=>?_) (fun cdv A outer s H vs Q E hr h=>?_)
 .obtain⟨_,_,rfl,_⟩:=h;rfl
 .obtain⟨s_,L,rfl,hL,ex,tk,q⟩:=h
  refine⟨_,(Zab (Zax (i:=2) Zlh.nd rfl (Or.inl rfl) (Zci Zae))
   (Zaf (Zab (ZaZ YAp rfl (Zdv rfl T.z_range (Zaa Zak (Zaa (ZaI ZbW (Zan (Zav (K:=K) rfl) rfl T.z_len ZaL (Zaa (pv 1) Zae)) Zak) Zae))) (Zam (i:=3) Zlh.nd rfl (Or.inl rfl))
   (Zab (ZaN (ZdS YBN YBl YBk Zbl (pv 2) (Zaa (ZaM Zco (pv 1) Zbc (ZaS (pv 3))) Zae)))
   (Zag (ZaN (ZdS YBN YBl YBk Zbl (pv 2) (Zaa (ZaM Zco (pv 1) (ZaS (ZaI ZgI (Zan (Zav (K:=K) rfl) rfl T.z_len ZaL (Zaa (pv 1) Zae)) (pv 3))) Zbc) Zae))))))
   (Zaf (Zag (Zat (Zal (ZjK T) (hr.mono (by decide)) rfl T.m_K3 T.f_K3.kp T.b_K3 .nil Zaw (Zaa (Zan (Zc8 rfl) rfl T.z_sorted ZdN (Zaa (Za5 (Zcp rfl) rfl T.z_set Zjk (Zaa (Zba (N:=["word","lesser"]) (ix:=[none,some 0]) rfl (ZaJ rfl) rfl (Zaz (K:=K) rfl (pv 2)) (fun _ _ _ _=>(Zam (i:=0) (show (["word","lesser"]:List Str).Nodup from by decide +kernel) rfl (Or.inl rfl) (Or.inr rfl))) (fun _ _ _ _=>(Zdc (Zau Zdw (pv 0) (pv 1) rfl))) (fun _ _ _ _=>(pv 0))) Zae)) Zae)) Zae)))))))),?_⟩
  have sz:∀k:Nat,k<=9000->k<=sizeLine:=fun k h=>YAJ h (by rw[sizeLine_eq];decide)
  walk_at "rd"
  refine⟨YAq _,NewL.of fun pe H1 s1 ne le=>?_⟩
  refine Zai ?_
  walk_at "rd"
  refine⟨_,_,rfl,Zby (by omega),_,_,rfl,⟨by decide,by decide,by omega,by omega⟩,?_⟩
  have ej:((L.length:Int)+1-1).toNat=L.length:=by omega
  rw[ej]
  refine ForRun.range (fun i U H'=>∃v3,U=[some (tx s_),some (tx L),some (.ref pe),v3]/\Same H H'/\H' pe=some (.lst ((ZaT L i).map tx))) ⟨_,rfl,s1,le⟩ ?_ ?_
  .rintro i U H2 hi ⟨v3,rfl,s2,h2⟩
   have el:=ZcF L i
   have e1:(1+(i:Int))=((i+1:Nat):Int):=by omega
   have e2:(L.length:Int)-(1+(i:Int))=((L.length-(i+1):Nat):Int):=by omega
   walk_at "rd"
   refine⟨.inl ⟨rfl,_,.mk h2⟩,_,rfl,L,rfl,sz _ (by omega),pe,_,_,rfl,rfl,h2,by rw[YAB];exact sz _ (by omega),.inl ⟨rfl,_,.mk Zad⟩,_,_,rfl,Zby (by omega),_,rfl,L,rfl,sz _ (by omega),pe,_,_,rfl,rfl,Zad,by rw[YAE,YAB];exact sz _ (by rw[YAg];omega),_,rfl,?_,?_⟩
   .exact same_upd3 (same_upd3 s2 ne) ne
   .rw[Zad,e1,Zje,<-e1,e2,ZcH,Zd9,YBA,YAt]
    rfl
  .rintro U H2 ⟨v3,rfl,s2,h2⟩
   walk_at "rd?"
   refine Zai ?_
   walk_at "rd"
   have el:=ZcF L L.length
   refine⟨pe,rfl,⟨_,.mk h2⟩,CompRun.listL (xs:=(ZaT L L.length).map tx) (fun i=>!infB ((ZaT L L.length).getD i []) s_) (fun i=>tx ((ZaT L L.length).getD i [])) (by rw[YAB];omega) (.mk h2) ?_ ?_ ?_⟩
   .intro i H3 Q3 hi s3 q3
    rw[YAB]at hi
    rw[ZcR hi]
    walk_at "rd"
    exact⟨_,_,rfl,rfl,q3 H3 (Same.refl _)⟩
   .intro i H3 Q3 hi _ s3 q3
    rw[YAB]at hi
    rw[ZcR hi]
    walk_at "rd"
    exact q3 H3 (Same.refl _)
   .intro p3 H3 s3 n3 l3
    have eh:((List.range ((ZaT L L.length).map tx).length).filter fun i=>!infB ((ZaT L L.length).getD i []) s_).map (fun i=>tx ((ZaT L L.length).getD i []))=((ZaT L L.length).filter fun v=>!infB v s_).map tx:=by
     rw[YAB,<-Zd8 (fun v=>!infB v s_) [] (ZaT L L.length),YBB]
     rfl
    rw[eh]at l3
    have fl:=YAe (fun v=>!infB v s_) (ZaT L L.length)
    generalize hF:(ZaT L L.length).filter (fun v=>!infB v s_)=F0 at l3 fl
    have mF:∀w,w∈F0↔Frs s_ L w:=fun w=>by
     rw[<-hF,YBP,Zfa,ZiZ ex,Bool.not_eq_true',Zce]
    have dl:=ZnU F0
    refine⟨F0,by omega,.inr ⟨p3,rfl,.mk l3⟩,fun p4 n4=>⟨p4,_,rfl,Zad,sz _ (by omega),NewL.of fun p5 H5 s5 n5 l5=>?_⟩⟩
    have s25:Same H H5:=s2.trans (s3.trans ((Zap n4).trans s5))
    have pm0:=Za1 (ddl F0)
    refine⟨p5,_,rfl,l5,fun w hw=>?_,tk.same s25,fun ws r H6 pm pw sl tk6 nr lr=>?_⟩
    .have:=((mF w).mp (Zf3.mp (pm0.mem_iff.mp hw))).1.len
     omega
    .refine q ws r H6 (ZbT pm pw (pm0.nodup_iff.mpr (Zis F0))) (fun w=>?_) (fun b o e t=>sl _ _ (s25 _ _ e) t) tk6 ((Nw.of nr).same s25) lr
     rw[pm.mem_iff,pm0.mem_iff,Zf3,mF]
theorem Zh4:FnScope ["words","kinds","stems","ways","stem","onward"] ["words","kinds"] (Zaj s_LU):=by walk_at "sc"
theorem ZpA (T:TL K mg base a tb):FnOk P w K mg base CX0 2 a.f_LU a.d_LU ["words","kinds"] (Zoe K a):=by
 refine T.f_LU.ok Zh4 (fun vs H Q E h=>?_) (fun cdv A outer s H vs Q E hr h=>?_)
 .obtain⟨_,_,_,_,rfl,_⟩:=h;rfl
 .have hu1:=ZaH hr
  obtain⟨b,ws,l,m,rfl,hb,ok,lk,q⟩:=h
  refine⟨_,(Zab (Zax (i:=2) Zh4.nd rfl (Or.inr rfl) (Zal (ZpD T) (hr.mono (by decide)) rfl T.m_LQ T.f_LQ.kp T.b_LQ .nil Zaw (Zaa (pv 0) Zae)))
   (Zaf (Zab (Zax (i:=3) Zh4.nd rfl (Or.inl rfl) ZbQ)
   (Zaf (Zab (Zdu (ZaZ YAp rfl (Zen (pv 2)) (Zam (i:=4) Zh4.nd rfl (Or.inr rfl))
   (Zab (ZfW (i:=5) (N:=["letter","stem","words"]) (ix:=[none,some 4,some 0]) rfl Zh4.nd rfl rfl rfl (ZaJ rfl) rfl (Zem (pv 1)) (fun _ _ _ _=>(Zam (i:=0) (show (["letter","stem","words"]:List Str).Nodup from by decide +kernel) rfl (Or.inl rfl) (Or.inr rfl))) (fun _ _ _ _=>(Zdc (Zch (Zal (Zm4 T) (hr.mono (by decide)) rfl T.m_LA T.f_LA.kp T.b_LA .nil Zaw (Zaa (pv 2) (Zaa (ZaI Zbk (pv 1) (pv 0)) Zae)))))) (fun _ _ _ _=>(pv 0)))
   (Zaf (Zag (ZbP hu1 (pv 3) (pv 4) (Za5 (Zkj rfl) rfl T.z_dict Zl2 (Zaa (Zba (N:=["letter","stem","stems"]) (ix:=[none,some 4,some 2]) rfl (ZaJ rfl) rfl (Zaz (K:=K) rfl (pv 5)) (fun _ _ _ _=>(Zam (i:=0) (show (["letter","stem","stems"]:List Str).Nodup from by decide +kernel) rfl (Or.inl rfl) (Or.inr rfl))) (fun _ _ _ _=>ZaV) (fun _ _ _ _=>(Zbp (Zaa (pv 0) (Zaa (Zal (ZpK T) (hr.mono (by decide)) rfl T.m_LB T.f_LB.kp T.b_LB .nil Zaw (Zaa (pv 2) (Zaa (ZaI Zbk (pv 1) (pv 0)) Zae))) Zae))))) Zae)) rfl))))))
   (Zaf (Zag (Zat (pv 3))))))))),?_⟩
  have sz:∀k:Nat,k<=9000->k<=sizeLine:=fun k h=>YAJ h (by rw[sizeLine_eq];decide)
  have ln:=lk.len ok
  have m4:=ok.m4
  have l40:=ok.l40
  walk_at "rd"
  refine⟨b,ws,rfl,hb,ln,fun w hw=>lk.w41 ok hw,fun p0 kvs H1 s1 n0 h0 sd=>?_⟩
  show Zcq _ _ _ _
  refine Zai ?_
  walk_at "rd"
  intro pw npw
  have s2:Same H1 (upd H1 pw (.dK [])):=Zap npw
  have l2:upd H1 pw (.dK []) pw=some (.dK []):=Zad
  have nw:H pw=none:=s1.free npw
  have ne:p0≠pw:=Zah h0 npw
  generalize upd H1 pw (.dK [])=H2 at s2 l2
  refine Zai ?_
  walk_at "rd"
  refine⟨p0,kvs,s2 _ _ h0,p0,kvs,rfl,s2 _ _ h0,fun o=>ForRun.dict (fun i U H'=>∃v4 v5 kw ss,U=[some (.ref b),some (tx m),some (.ref p0),some (.ref pw),v4,v5]/\Same H H'/\H' p0=some (.frz o (.dK kvs))/\H' pw=some (.dK kw)/\WaysL H' pw kw ws m ss/\ss.map kTx=(kvs.map (·.1)).take i) ⟨_,_,[],[],rfl,same_upd3 (s1.trans s2) n0,Zad,by rw[Zac (YAv ne)];exact l2,⟨rfl,fun i u h=>by simp at h⟩,by simp⟩ (fun i U H' ⟨_,_,_,_,_,_,h,_⟩=>h) ?_ ?_⟩
  .rintro i kv U H3 hkv ⟨v4,v5,kw,ss,rfl,s3,f3,w3,wl,e3⟩
   obtain⟨u,ek,hu⟩:=sd.key kv (YAT hkv)
   have ul:u.length<=41:=by
    rcases hu with rfl | ⟨v,hv,k,hk,rfl⟩
    .exact YAq _
    .have:=lk.w41 ok hv
     rw[YAc];omega
   rw[ek,ZiN]
   walk_at "rd"
   refine⟨m,rfl,CompRun.text (fun i=>avB ws (u++[m.getD i 0])) (fun i=>tx [m.getD i 0]) (by omega) ?_ ?_ ?_⟩
   .intro j H4 Q4 hj s4 q4
    have sl:(u++[m.getD j 0]).length<=42:=by rw[YAE,YAg];omega
    walk_at "rd"
    exact⟨sz _ (by omega),b,ws,_,rfl,s4 _ _ (s3 _ _ hb),by omega,by omega,fun H5 s5=>q4 H5 s5⟩
   .intro j H4 Q4 hj _ s4 q4
    walk_at "rd"
    exact q4 H4 (Same.refl _)
   .intro p1 H4 s4 n4 l4
    rw[Zi4 (fun c=>avB ws (u++[c])) (fun c=>tx [c]) m]at l4
    refine Zai ?_
    walk_at "rd"
    have ol:(onwC ws m u).length<=4:=YAJ (YAe _ _) m4
    refine⟨p1,rfl,⟨_,.mk l4⟩,CompRun.tups (xs:=(onwC ws m u).map fun c=>tx [c]) (fun j vs=>∃c,(onwC ws m u)[j]?=some c/\vs=[tx [c],tx (estOf ws (u++[c]))]) (by rw[YAB];omega) (.mk l4) ?_ ?_⟩
    .intro j H5 Q5 hj s5 q5
     rw[YAB]at hj
     have hc:(onwC ws m u)[j]?=some ((onwC ws m u).getD j 0):=by rw[YAI,YAG hj];rfl
     have eg:((onwC ws m u).map fun c=>tx [c]).getD j .non=tx [(onwC ws m u).getD j 0]:=by simp[YAI,hj]
     rw[eg]
     generalize (onwC ws m u).getD j 0=c at hc
     have sl:(u++[c]).length<=42:=by rw[YAE,YAg];omega
     walk_at "rd"
     refine⟨sz _ (by omega),p0,kvs,ws,u++[c],rfl,.inr ⟨o,s5 _ _ (s4 _ _ f3)⟩,sd,by omega,fun e H6 s6 he=>?_⟩
     refine⟨sz _ (by decide),NewT.of fun pt H7 s7 n7 l7=>q5 pt _ H7 (s6.trans s7) l7 ⟨c,hc,?_⟩⟩
     rw[ZiR he (ZcD _ _)]
    .intro p2 ys H5 s5 n5 l5 yl hy
     refine⟨p2,ys,(onw ws m u).map wayK,rfl,l5,⟨by unfold onw;rw[yl,YAB,YAB,YAB],fun j y hj=>?_⟩,fun d hd=>?_⟩
     .obtain⟨t,vs,rfl,ht,c,hc,rfl⟩:=hy j y hj
      refine⟨wayK (c,estOf ws (u++[c])),t,?_,rfl,ht⟩
      unfold onw
      rw[YBB,YAW,hc]
      rfl
     .rw[ZgN _ [] (by rw[YCo];exact Zin (ZcC ok.k)),YCo]
      have w5:=s5 _ _ (s4 _ _ w3)
      have dn:d≠pw:=YAv (Zah w5 hd)
      have ki:(kvs.map (·.1))[i]?=some (kTx u):=by rw[YAW,hkv,<-ek];rfl
      have nk:valV kw (kTx u)=none:=ZhP (by rw[wl.keys,e3];exact Znf sd.nd ki)
      have kl:kw.length<=i:=by
       have:=congrArg List.length e3
       rw[YAB,YAc]at this
       rw[wl.1];omega
      have il:=(YAK.mp hkv).1
      have sl:=sd.len
      have s45:=s4.trans s5
      have s6:Same H5 (upd H5 d (.dK ((onw ws m u).map wayK))):=Zap hd
      have d6:upd H5 d (.dK ((onw ws m u).map wayK)) d=some (.dK ((onw ws m u).map wayK)):=Zad
      generalize upd H5 d (.dK ((onw ws m u).map wayK))=H6 at s6 d6
      refine⟨pw,_,rfl,DPut.k (k:=kTx u) (s6 _ _ w5) (YAb (show _<9000 by omega) (sz 9000 (YAH _))),_,_,kw++[(kTx u,.ref d)],ss++[u],rfl,same_upd3 (s3.trans (s45.trans s6)) nw,by rw[Zac ne];exact s6 _ _ (s45 _ _ f3),by rw[Zad,Zcs _ nk],?_,?_⟩
      .refine WaysL.snoc ((wl.same (s45.trans s6)).chg fun b o n e=>by rw[Zac n];exact e) dn ?_
       rw[Zac dn];exact d6
      .rw[YBA,e3,YCP,ki];rfl
  .rintro U H3 ⟨v4,v5,kw,ss,rfl,s3,f3,w3,wl,e3⟩
   refine⟨o,kvs,f3,?_⟩
   walk_at "rd"
   refine Zai ?_
   walk_at "rd"
   have e4:ss.map kTx=kvs.map (·.1):=by rw[e3,YAm (by rw[YAB];exact YAH _)]
   have hm:∀v,v∈ss↔Stem ws v:=fun v=>by
    constructor
    .intro hv
     have:kTx v∈kvs.map (·.1):=by rw[<-e4];exact YBj hv
     obtain⟨kv,hk,ek⟩:=YAo.mp this
     obtain⟨u,eu,hu⟩:=sd.key kv hk
     rw[ZaR (ek.symm.trans eu)];exact hu
    .intro hv
     obtain⟨kv,hk,ek⟩:=Zc9 (sd.has v hv)
     have:kTx v∈ss.map kTx:=by rw[e4,<-ek];exact YBj hk
     obtain⟨x,hx,ex⟩:=YAo.mp this
     rw[<-ZaR ex];exact hx
   refine q pw kw ss (upd H3 p0 (.dK kvs)) (same_upd3 s3 n0) nw (by rw[Zac (YAv ne)];exact w3) ⟨wl.1,fun i u hu=>?_⟩ ⟨?_,hm,?_⟩
   .obtain⟨a',h1,h2,h3⟩:=wl.2 i u hu
    have n3:a'≠p0:=by
     rintro rfl
     have z:=h3.symm.trans f3
     exact nomatch z
    refine⟨a',h1,h2,?_⟩
    rw[Zac n3];exact h3
   .have:=sd.nd
    rw[<-e4]at this
    exact List.Pairwise.imp (fun h e=>h (by rw[e])) (YBm.mp this)
   .have:=congrArg List.length e4
    rw[YAB,YAB]at this
    have:=sd.len
    omega
theorem Zpb:FnScope ["self","length"] ["self","length"] (Zaj s_KL):=by walk_at "sc"
theorem Zm8 (T:TL K mg base a tb):FnOk P w K mg base CX0 2 a.g_KL a.e_KL ["self","length"] (ZoF K a):=by
 refine T.fm_KL.ok Zpb (fun vs H Q E h=>?_) (fun cdv A outer s H vs Q E hr h=>?_)
 .obtain⟨_,_,_,_,rfl,_⟩:=h;rfl
 .obtain⟨p,l,m,n,rfl,hp,ok,hn,q⟩:=h
  refine⟨_,(Zag (Zat (Zal (ZpH T) (hr.mono (by decide)) rfl T.m_LG T.f_LG.kp T.b_LG .nil Zaw (Zaa (ZbF (pv 0) T.cl_LH T.me_Plain_laid_out (ZpU T) (hr.mono (by decide)) T.b_KA .nil Zaw (Zaa (pv 1) Zae)) (Zaa (pv 1) Zae))))),?_⟩
  obtain⟨dx,hp⟩:=hp
  have l40:=ok.l40
  walk_at "rd"
  exact⟨p,dx,_,rfl,hp,ZcS (by decide +kernel) (by decide +kernel),p,l,m,n,rfl,⟨dx,hp⟩,l,n,rfl,by omega,by omega,by omega,q⟩
theorem Zjz:FnScope ["_law_cell","_law_letters","_law_step_here","_law_first"] ["_law_cell"] (Zaj s_LE):=by walk_at "sc"
theorem ZpI (T:TL K mg base a tb):FnOk P w K mg base CX0 2 a.f_LE a.d_LE ["_law_cell"] (Zor K a):=by
 refine T.f_LE.ok Zjz (fun vs H Q E h=>?_) (fun cdv A outer s H vs Q E hr h=>?_)
 .obtain⟨_,rfl,_⟩:=h;rfl
 .obtain⟨c,rfl,q⟩:=h
  refine⟨_,(Zab (Zax (i:=1) Zjz.nd rfl (Or.inr rfl) (ZaD (l:=[97,98,99,100,101,102,103,104,105,106,107,108,109,110,111,112,113,114,115,116,117,118,119,120,121,122]) (by decide +kernel)))
   (Zab (Zax (i:=2) Zjz.nd rfl (Or.inr rfl) (ZaI ZbW Zak (ZaI ZbV (Zal (ZjJ T) (hr.mono (by decide)) rfl T.m_LP T.f_LP.kp T.b_LP .nil Zaw (Zaa (pv 0) (Zaa Zak Zae))) Zak)))
   (Zab (Zax (i:=3) Zjz.nd rfl (Or.inr rfl) (ZaI ZbV (Zal (ZjJ T) (hr.mono (by decide)) rfl T.m_LP T.f_LP.kp T.b_LP .nil Zaw (Zaa (pv 0) (Zaa Zak Zae))) (ZaI ZgI Zak (ZaI Zc1 Zak (pv 2)))))
   (Zag (Zat (ZdS YCT PySem.F.slot_str_join PySem.F.type_str_join ZlC (ZaD (l:=[]) (by decide +kernel)) (Zaa (Zba (N:=["_law_k","_law_first","_law_letters","_law_step_here"]) (ix:=[none,some 3,some 1,some 2]) rfl (ZaJ rfl) rfl (Ze2 rfl T.z_range (Zaa (ZaI ZbW Zak (ZaI ZbV (Zal (ZjJ T) (hr.mono (by decide)) rfl T.m_LP T.f_LP.kp T.b_LP .nil Zaw (Zaa (pv 0) (Zaa Zak Zae))) Zak)) Zae)) (fun _ _ _ _=>(Zam (i:=0) (show (["_law_k","_law_first","_law_letters","_law_step_here"]:List Str).Nodup from by decide +kernel) rfl (Or.inl rfl) (Or.inr rfl))) (fun _ _ _ _=>ZaV) (fun _ _ _ _=>(Zbj ZlJ (pv 2) (ZaI ZbW (pv 1) (ZaI Zc1 (pv 3) (pv 0))) (fun _ _=>rfl)))) Zae))))))),?_⟩
  walk_at "rd"
  refine⟨_,_,rfl,?_⟩
  have hr0:=Ziw c 1
  generalize mixV c 1=r at hr0
  walk_at "rd"
  refine⟨by decide,_,_,rfl,?_⟩
  have hr1:=Ziw c 2
  generalize mixV c 2=r1 at hr1
  walk_at "rd"
  have b1:=YCr r (show (8:Int)≠0 by decide)
  have b2:=YCs r (show (0:Int)<8 by decide)
  generalize r % 8=st at b1 b2
  have p3:0<26-3*(1+st):=by omega
  refine⟨.inl ⟨by decide,by decide⟩,p3,?_⟩
  have b3:=YCr r1 (show 26-3*(1+st)≠0 by omega)
  have b4:=YCs r1 p3
  generalize r1 % (26-3*(1+st))=fi at b3 b4
  refine⟨rfl,_,_,rfl,?_⟩
  have hr2:=Ziw c 3
  generalize mixV c 3=r2 at hr2
  walk_at "rd"
  have b5:=YCr r2 (show (4:Int)≠0 by decide)
  have b6:=YCs r2 (show (0:Int)<4 by decide)
  generalize r2 % 4=t at b5 b6
  have hix:∀i:Nat,i<(1+t).toNat->0<=fi+(1+st)*(i:Int)/\(fi+(1+st)*(i:Int)).toNat<26:=fun i hi=>by
   have hi':(i:Int)<=3:=by omega
   have hm:0<=(1+st)*(i:Int):=Int.mul_nonneg (by omega) (by omega)
   have hM:(1+st)*(i:Int)<=(1+st)*3:=Int.mul_le_mul_of_nonneg_left hi' (by omega)
   constructor<;>omega
  refine⟨by decide,_,rfl,by omega,by omega,CompRun.rangeA (fun i=>tx [LET.getD (fi+(1+st)*i).toNat 0]) (by omega) ?_ ?_⟩
  .intro i H1 Q1 hi s1 q1
   walk_at "rd"
   have hh:=hix i hi
   have hi':(i:Int)<=3:=by omega
   have hm:0<=(1+st)*(i:Int):=Int.mul_nonneg (by omega) (by omega)
   have hM:(1+st)*(i:Int)<=(1+st)*3:=Int.mul_le_mul_of_nonneg_left hi' (by omega)
   refine⟨.inl ⟨by omega,by omega⟩,LET,_,LET.getD (fi+(1+st)*i).toNat 0,rfl,rfl,by rw[sizeLine_eq];decide,?_,q1 H1 (Same.refl _)⟩
   rw[Int.zero_add]
   have h26:(fi+(1+st)*(i:Int)).toNat<LET.length:=by show _<26;omega
   unfold atI ixN
   rw[YAP (by omega),YAP (show fi+(1+st)*(i:Int)<(LET.length:Int) by show _<(26:Int);omega),YDE,YAI,YAG h26]
   rfl
  .intro p H1 s1 n1 l1
   have ef:((List.range (1+t).toNat).map fun i:Nat=>[LET.getD (fi+(1+st)*i).toNat 0]).flatten=(List.range (1+t).toNat).map fun i:Nat=>LET.getD (fi+(1+st)*i).toNat 0:=by rw[<-List.flatMap_def,<-List.map_eq_flatMap]
   refine⟨[],p,(List.range (1+t).toNat).map (fun i:Nat=>[LET.getD (fi+(1+st)*i).toNat 0]),rfl,rfl,?_,?_,?_⟩
   .rw[l1,YBB];rfl
   .rw[<-List.length_flatten,ef];simp;omega
   .rw[ZgU,ef]
    have hl:((List.range (1+t).toNat).map fun i:Nat=>LET.getD (fi+(1+st)*i).toNat 0).length=(1+t).toNat:=by rw[YAB,YBD]
    refine q _ H1 (ZnA (by rw[hl];omega) (by rw[hl];omega) ?_ ?_) (by rw[hl];omega) (by rw[hl];omega) s1
    .intro x hx
     obtain⟨i,hi,rfl⟩:=YAo.mp hx
     have hh:=hix i (YAu.mp hi)
     rw[Zf5 _ hh.2]
     exact ZjV (by omega) (by omega)
    .rw[YBm]
     refine YDb ?_ List.pairwise_lt_range
     intro i j hi hj hij
     have h1:=hix i (YAu.mp hi)
     have h2:=hix j (YAu.mp hj)
     rw[Zf5 _ h1.2,Zf5 _ h2.2]
     have:(1+st)*(i:Int)<(1+st)*(j:Int):=Int.mul_lt_mul_of_pos_left (by omega) (by omega)
     omega
theorem ZjA:FnScope ["_law_row","_law_small","_law_great","_law_word_in","_law_word","_law_reason","_law_shorter"] ["_law_row","_law_small","_law_great","_law_word_in"] (Zaj s_K1):=by walk_at "sc"
theorem Zne (T:TL K mg base a tb):FnOk P w K mg base CX0 2 a.f_K1 a.d_K1 ["_law_row","_law_small","_law_great","_law_word_in"] (ZoW K a):=by
 refine T.f_K1.ok ZjA (fun vs H Q E h=>?_) (fun cdv A outer s H vs Q E hr h=>?_)
 .obtain⟨_,_,_,_,_,_,_,_,rfl,_⟩:=h;rfl
 .have hu64:=hr.units
  obtain⟨t,b,wi,s_,L,A,B,r,rfl,hwi,ht,hb,hs,hL,gr,q⟩:=h
  refine⟨_,(Zab (Zkz (pv 0) (Ze3 rfl (Za9 (Zam (i:=4) ZjA.nd rfl (Or.inl rfl)) (Za9 (Zam (i:=5) ZjA.nd rfl (Or.inl rfl)) ZcN))))
   (Zaf (Zab (Za2 (Zau Zbr (pv 4) (pv 1) rfl) (Zag (Zat Zcu)) Zay)
   (Zaf (Zab (Za2 (Zau (Za4 (K:=K) rfl hu64) (Zbj (Za0 (K:=K) rfl) (pv 5) Zak (fun _ _=>rfl)) (Zbj (Za0 (K:=K) rfl) (pv 3) Zak (fun _ _=>rfl)) (ZaA _)) (Zag (Zat (ZbZ (Za3 (Za4 (K:=K) rfl hu64) (Zan (Zav (K:=K) rfl) rfl T.z_len ZaL (Zaa (pv 5) Zae)) Zak (ZaA _)) (Zc0 (Zal (Zm1 T) (hr.mono (by decide)) rfl T.m_LJ T.f_LJ.kp T.b_LJ .nil Zaw (Zaa (pv 2) (Zaa (pv 4) (Zaa (Zbj (Za0 (K:=K) rfl) (pv 5) Zak (fun _ _=>rfl)) Zae)))))))) Zay)
   (Zaf (Zab (Za2 (PW.pt (Zc6 (Zau (Zbo (K:=K) rfl hu64) (Zbj (Za0 (K:=K) rfl) (pv 5) Zak (fun _ _=>rfl)) (Zbj (Za0 (K:=K) rfl) (pv 3) Zak (fun _ _=>rfl)) (ZaA _)) (Zc6 (Zau (Zbo (K:=K) rfl hu64) (Zan (Zav (K:=K) rfl) rfl T.z_len ZaL (Zaa (pv 5) Zae)) Zak (ZaA _)) (Zcg (Zau Zbr (pv 4) (pv 2) rfl))))) (Zag (Zat Zcu)) Zay)
   (Zaf (Zab (Zax (i:=6) ZjA.nd rfl (Or.inl rfl) (Zbj (Za0 (K:=K) rfl) (pv 5) Zak (fun _ _=>rfl)))
   (Zaf (Zab (Za2 (PW.pt (Zc6 (PW.pt (ZeZ (Zau (Zbo (K:=K) rfl hu64) (pv 6) (ZaM Zco (pv 4) (ZaS Zak) Zbc) (ZaA _)) (Zds (Zau (Zbo (K:=K) rfl hu64) (pv 6) (ZaM Zco (pv 4) Zbc (ZaS (ZjE Zgp Zak))) (ZaA _))))) (Zcg (Zau Zbr (pv 6) (pv 1) rfl)))) (Zag (Zat Zcu)) Zay)
   (Zaf (Zag (Zat (ZbZ (Zal (Zm1 T) (hr.mono (by decide)) rfl T.m_LJ T.f_LJ.kp T.b_LJ .nil Zaw (Zaa (pv 2) (Zaa (pv 6) (Zaa (Zbj (Za0 (K:=K) rfl) (pv 5) Zak (fun _ _=>rfl)) Zae)))) (ZbZ (Za3 Zbr (ZaM Zco (pv 4) (ZaS Zak) Zbc) (pv 2) rfl) (Zc0 (Za3 Zbr (ZaM Zco (pv 4) Zbc (ZaS (ZjE Zgp Zak))) (pv 2) rfl)))))))))))))))))),?_⟩
  have sz:∀k:Nat,k<=9000->k<=sizeLine:=fun k h=>YAJ h (by rw[sizeLine_eq];decide)
  obtain⟨w_,rv⟩:=r
  obtain⟨hw,hns,gr⟩:=gr
  have hw:w_.length<=100:=hw
  have hns:¬Inf w_ s_:=hns
  have ht:H t=some (.tup [tx w_,.ref b]):=ht
  have hb:H b=some (.tup rv):=hb
  walk_at "rd"
  refine⟨t,_,rfl,.mk ht,rfl,_,_,rfl,_,_,rfl,rfl,Zai ?_⟩
  walk_at "rd"
  refine⟨w_,s_,rfl,rfl,iteN (Zce.mpr hns) (Zai ?_)⟩
  walk_at "rd"
  rcases gr with⟨i,e,o⟩|⟨sh,i,e,ab,hnL,hsh,hnsh,o,it,id_⟩
  .have e:rv=[tx A,.int i]:=e
   subst e
   exact⟨b,_,0,_,rfl,rfl,.mk hb,rfl,wi,_,0,_,rfl,rfl,.mk hwi,rfl,ZnQ ⟨true,rfl,iteT ⟨_,_,rfl,.inr ⟨_,.mk hb,rfl⟩,eq_int ⟨true,rfl,iteT ⟨b,_,1,_,rfl,rfl,.mk hb,rfl,L,w_,i,rfl,by omega,by omega,o,q H (Same.refl _)⟩⟩⟩⟩⟩
  .have e:rv=[tx B,tx sh,.int i]:=e
   subst e
   have hsl:sh.length<=100:=by
    rcases hsh with z | z
    .rw[z,YCh];show w_.length-1<=100;omega
    .rw[z,YAx];show w_.length-1<=100;omega
   have hnL:¬Inf w_ L:=hnL
   refine⟨b,_,0,_,rfl,rfl,.mk hb,rfl,wi,_,0,_,rfl,rfl,.mk hwi,rfl,ZnS (YAv ab) ⟨false,rfl,iteF (Zai ?_)⟩⟩
   walk_at "rd"
   refine⟨b,_,0,_,rfl,rfl,.mk hb,rfl,wi,_,1,_,rfl,rfl,.mk hwi,rfl,Zit ⟨false,rfl,iteF ⟨_,_,rfl,.inr ⟨_,.mk hb,rfl⟩,ne_int ⟨false,rfl,iteF ⟨w_,L,rfl,rfl,iteN (Zce.mpr hnL) (Zai ?_)⟩⟩⟩⟩⟩
   walk_at "rd"
   refine⟨b,_,1,_,rfl,rfl,.mk hb,rfl,Zai ?_⟩
   walk_at "rd"
   refine⟨_,rfl,w_,rfl,sz _ (by omega),?_⟩
   rw[ZcV]
   apply Zg7 (C:=fun H'=>H'=H)
   .intro tail
    by_cases e1:sh=w_.tail
    .have e1':=congrArg tx e1
     rw[<-e1]
     exact Zit ⟨false,rfl,iteF (iteF ⟨sh,s_,rfl,rfl,iteN (Zce.mpr hnsh) (tail H rfl)⟩)⟩
    .have e2:sh=w_.dropLast:=hsh.resolve_left e1
     refine Znh e1 ⟨true,rfl,iteT ⟨_,rfl,w_,rfl,sz _ (by omega),?_⟩⟩
     rw[ZeI,<-e2]
     exact Zit ⟨false,rfl,iteF ⟨sh,s_,rfl,rfl,iteN (Zce.mpr hnsh) (tail H rfl)⟩⟩
   .rintro H' rfl
    refine Zai ?_
    walk_at "rd"
    refine⟨b,_,2,_,rfl,rfl,.mk hb,rfl,L,sh,i,rfl,by omega,by omega,o,true,rfl,iteT ⟨_,rfl,w_,rfl,sz _ (by omega),_,_,rfl,rfl,?_⟩⟩
    rw[ZcV,Zbu.mpr it]
    refine iteT ⟨_,rfl,w_,rfl,sz _ (by omega),_,_,rfl,rfl,?_⟩
    rw[ZeI,Zbu.mpr id_]
    exact q _ (Same.refl _)
theorem Zlm:FnScope ["self","text","came","went","gone","kept"] ["self","text","came","went"] (Zaj s_KG):=by walk_at "sc"
theorem Zna (T:TL K mg base a tb):FnOk P w K mg base CX0 2 a.g_KG a.e_KG ["self","text","came","went"] (ZoK K a):=by
 refine T.fm_KG.ok Zlm (fun vs H Q E h=>?_) (fun cdv A outer s H vs Q E hr h=>?_)
 .obtain⟨_,_,_,_,_,_,_,_,_,_,_,_,_,_,rfl,_⟩:=h;rfl
 .obtain⟨p,la,da,c,g,l,l2,m,old,new,ys,zs,rc,rg,rfl,hp,hla,hc,rwc,hg,rwg,ho,hn,nd,mc,mg_,lo,lc,lg,wo,wn,tk,q⟩:=h
  refine⟨_,(Zaf (Zab (Zax (i:=4) Zlm.nd rfl (Or.inr rfl) (Zba (N:=["told"]) (ix:=[none]) rfl (ZaJ rfl) rfl (Zaz (K:=K) rfl (pv 3)) (fun _ _ _ _=>(Zam (i:=0) (show (["told"]:List Str).Nodup from by decide +kernel) rfl (Or.inl rfl) (Or.inr rfl))) (fun _ _ _ _=>ZaV) (fun _ _ _ _=>(Zbj (Za0 (K:=K) rfl) (pv 0) Zak (fun _ _=>rfl)))))
   (Zaf (Zab (ZfW (i:=5) (N:=["word","gone"]) (ix:=[none,some 4]) rfl Zlm.nd rfl rfl rfl (ZaJ rfl) rfl (Zaz (K:=K) rfl (ZaF (K:=K) rfl (pv 0) rfl)) (fun _ _ _ _=>(Zam (i:=0) (show (["word","gone"]:List Str).Nodup from by decide +kernel) rfl (Or.inl rfl) (Or.inr rfl))) (fun _ _ _ _=>(Zdc (Zau (ZbR (K:=K) rfl) (pv 0) (pv 1) rfl))) (fun _ _ _ _=>(pv 0)))
   (Zaf (Zab (ZdZ (pv 0) (Zal (ZjK T) (hr.mono (by decide)) rfl T.m_K3 T.f_K3.kp T.b_K3 .nil Zaw (Zaa (ZaI Zim (pv 5) (Zba (N:=["told"]) (ix:=[none]) rfl (ZaJ rfl) rfl (Zaz (K:=K) rfl (pv 2)) (fun _ _ _ _=>(Zam (i:=0) (show (["told"]:List Str).Nodup from by decide +kernel) rfl (Or.inl rfl) (Or.inr rfl))) (fun _ _ _ _=>ZaV) (fun _ _ _ _=>(Zbj (Za0 (K:=K) rfl) (pv 0) Zak (fun _ _=>rfl))))) Zae)) rfl)
   (Zaf (Zab (ZdZ (pv 0) (pv 1) rfl)
   (Zag (Zat (Zbp (Zaa (pv 2) (Zaa (pv 3) Zae))))))))))))),?_⟩
  have sz:∀k:Nat,k<=30000->k<=sizeLine:=fun k h=>YAJ h (by rw[sizeLine_eq];decide)
  obtain⟨dx,f⟩:=hp
  walk_at "rd"
  refine Zai ?_
  walk_at "rd"
  have zl:=rwg.1
  have yl:=rwc.1
  refine⟨g,rfl,⟨_,.mk hg⟩,CompRun.listL (xs:=zs) (fun _=>true) (fun i=>tx ((rg.map (·.1)).getD i [])) (by omega) (.mk hg) (fun i H' Q' _ _ q=>q H' (Same.refl _)) ?_ ?_⟩
  .intro i H1 Q1 hi _ s1 q1
   obtain⟨t,u,e1,e2⟩:=Zgz rwg hi
   rw[e1]
   walk_at "rd"
   exact⟨t,_,_,_,rfl,rfl,.mk (s1 _ _ e2),atI0,q1 H1 (Same.refl _)⟩
  .intro pg H1 s1 n1 l1
   rw[Zjg zl]at l1
   refine Zai ?_
   walk_at "rd"
   refine⟨p,_,dx,_,_,rfl,s1 _ _ f,T.cl_LI,T.n_Strip_own_lacking,Zgx,la,rfl,⟨_,.mk (s1 _ _ hla)⟩,CompRun.listL (xs:=old.map tx) (fun i=>!decide (old.getD i []∈rg.map (·.1))) (fun i=>tx (old.getD i [])) (by rw[YAB];omega) (.mk (s1 _ _ hla)) ?_ ?_ ?_⟩
   .intro i H2 Q2 hi s2 q2
    rw[YAB]at hi
    rw[ZcR hi]
    walk_at "rd"
    refine⟨pg,_,rfl,.inl (.mk (s2 _ _ l1)),rfl,ZbH _,_,rfl,?_⟩
    rw[YAP rfl,ZgS]
    exact q2 H2 (Same.refl _)
   .intro i H2 Q2 hi _ s2 q2
    rw[YAB]at hi
    rw[ZcR hi]
    walk_at "rd"
    exact q2 H2 (Same.refl _)
   .intro pk H2 s2 n2 l2k
    have eh:((List.range (old.map tx).length).filter fun i=>!decide (old.getD i []∈rg.map (·.1))).map (fun i=>tx (old.getD i []))=(old.filter fun v=>!decide (v∈rg.map (·.1))).map tx:=by
     rw[YAB,<-Zd8 (fun v=>!decide (v∈rg.map (·.1))) [] old,YBB]
     rfl
    have e2:(old.filter fun v=>!decide (v∈rg.map (·.1)))=old.filter fun v=>decide (v∉rg.map (·.1)):=by
     congr 1
     funext v
     rw[decide_not]
    rw[eh,e2]at l2k
    have fl:=YAe (fun v=>decide (v∉rg.map (·.1))) old
    generalize hk:old.filter (fun v=>decide (v∉rg.map (·.1)))=kept at l2k fl
    have s02:=s1.trans s2
    refine Zai ?_
    walk_at "rd"
    refine⟨c,rfl,⟨_,.mk (s02 _ _ hc)⟩,CompRun.listL (xs:=ys) (fun _=>true) (fun i=>tx ((rc.map (·.1)).getD i [])) (by omega) (.mk (s02 _ _ hc)) (fun i H' Q' _ _ q=>q H' (Same.refl _)) ?_ ?_⟩
    .intro i H3 Q3 hi _ s3 q3
     obtain⟨t,u,e1,e2⟩:=Zgz rwc hi
     rw[e1]
     walk_at "rd"
     exact⟨t,_,_,_,rfl,rfl,.mk ((s02.trans s3) _ _ e2),atI0,q3 H3 (Same.refl _)⟩
    .intro pc H3 s3 n3 l3
     rw[Zjg yl]at l3
     rw[ZmN]
     refine⟨_,_,s3 _ _ l2k,l3,by rw[YAB,YAB,YAB];exact sz _ (by omega),NewL.of fun pw H4 s4 n4 l4=>?_⟩
     have s04:Same H H4:=s02.trans (s3.trans s4)
     rw[<-YBA]at l4
     refine⟨pw,_,rfl,l4,fun w hw=>?_,tk.same s04,fun ws r H5 pm pw5 sl tk5 nr lr=>?_⟩
     .rcases YAZ.mp hw with h | h
      .rw[<-hk]at h
       exact wo w (YBP.mp h).1
      .exact wn w ((mc w).mp h).1
     .rw[<-hk]at pm
      have en:=ZlI ho hn mc nd mg_ pm pw5
      rw[en]at lr
      have f5:=sl _ _ (s04 _ _ f) rfl
      refine⟨p,_,dx,_,rfl,f5,T.cl_LI,T.n_Strip_own_lacking,(by show 4<1000;decide),?_⟩
      rw[show putF (Str.ofString "own_lacking") (.ref r) (sF l m la da)=sF l m r da from Zlq]
      refine Zai ?_
      walk_at "rd"
      refine⟨p,_,dx,_,rfl,Zad,T.cl_LI,T.n_Strip_own_text,(by show 4<1000;decide),sz _ (by decide),NewT.of fun t H7 s7 n7 l7=>?_⟩
      rw[show putF (Str.ofString "own_text") (tx l2) (sF l m r da)=sF l2 m r da from Zlp]at s7
      have nrp:p≠r:=Zah (s04 _ _ f) nr
      refine q t r H7 ?_ ⟨dx,s7 _ _ Zad⟩ ((Nw.of nr).same s04) (s7 _ _ (by rw[Zac (YAv nrp),Zac (YAv nrp)];exact lr)) l7 ?_
      .exact s04.chg.trans (sl.chg.trans ((Chg.upd (by simp)).trans ((Chg.upd (by simp)).trans s7.chg)))
      .exact((tk5.upd f5 rfl rfl).upd Zad rfl rfl).same s7
theorem Zo3:FnScope ["thing","kinds"] ["thing","kinds"] (Zaj s_KY):=by walk_at "sc"
theorem ZpM (T:TL K mg base a tb):FnOk P w K mg base CX0 3 a.f_KY a.d_KY ["thing","kinds"] (Zox K a):=by
 refine T.f_KY.ok Zo3 (fun vs H Q E h=>?_) (fun cdv A outer s H vs Q E hr h=>?_)
 .obtain⟨_,_,rfl,_⟩:=h;rfl
 .have hu64:=hr.units
  obtain⟨l,m,rfl,hl,q⟩:=h
  refine⟨_,(Zag (Zat (ZbZ (Zal (ZlA T) (hr.mono (by decide)) rfl T.m_K7 T.f_K7.kp T.b_K7 .nil Zaw (Zaa (pv 0) (Zaa (pv 1) (Zaa Zak Zae)))) (Zc0 (Za3 (Za4 (K:=K) rfl hu64) (Zan (Zav (K:=K) rfl) rfl T.z_len ZaL (Zaa (pv 0) Zae)) Zak (ZaA _)))))),?_⟩
  walk_at "rd"
  refine⟨l,m,1,rfl,hl,fun H1 s1=>⟨_,rfl,ite2 (fun h=>?_) (fun h=>?_)⟩⟩
  .refine⟨_,_,rfl,Zby hl,.inl ⟨rfl,?_⟩⟩
   have e:=q H1 s1
   unfold isl at e
   rw[h,YCd]at e
   rw[YAL YAD]
   simpa using e
  .have e:=q H1 s1
   unfold isl at e
   rw[YCD.mpr h,YBn]at e
   exact e
theorem Zo7:FnScope ["thing"] ["thing"] (Zaj s_KU):=by walk_at "sc"
theorem Zlz (T:TL K mg base a tb):FnOk P w K mg base CX0 3 a.f_KU a.d_KU ["thing"] (ZoA K a):=by
 refine T.f_KU.ok Zo7 (fun vs H Q E h=>?_) (fun cdv A outer s H vs Q E hr h=>?_)
 .obtain⟨_,rfl,_⟩:=h;rfl
 .obtain⟨l,rfl,hl,hk,q⟩:=h
  refine⟨_,(Zag (Za2 (Zdt (Zch (Zal (ZpZ T) (hr.mono (by decide)) rfl T.m_K4 T.f_K4.kp T.b_K4 .nil Zaw (Zaa (pv 0) Zae)))) (Zag Zc7) Zay)),?_⟩
  walk_at "rd"
  refine⟨l,rfl,hl,fun H2 s2=>⟨_,rfl,?_⟩⟩
  rw[hk,Bool.not_true]
  exact iteF (q H2 s2)
theorem Zpl:FnScope ["thing","kinds","most"] ["thing","kinds","most"] (Zaj s_K0):=by walk_at "sc"
theorem Zp0 (T:TL K mg base a tb):FnOk P w K mg base CX0 3 a.f_K0 a.d_K0 ["thing","kinds","most"] (ZoX K a):=by
 refine T.f_K0.ok Zpl (fun vs H Q E h=>?_) (fun cdv A outer s H vs Q E hr h=>?_)
 .obtain⟨_,_,_,rfl,_⟩:=h;rfl
 .obtain⟨l,m,most,rfl,hl,hk,q⟩:=h
  refine⟨_,(Zag (Za2 (Zdt (Zch (Zal (ZlA T) (hr.mono (by decide)) rfl T.m_K7 T.f_K7.kp T.b_K7 .nil Zaw (Zaa (pv 0) (Zaa (pv 1) (Zaa (pv 2) Zae)))))) (Zag Zc7) Zay)),?_⟩
  walk_at "rd"
  refine⟨l,m,most,rfl,hl,fun H2 s2=>⟨_,rfl,?_⟩⟩
  rw[hk,Bool.not_true]
  exact iteF (q H2 s2)
theorem Zmx:FnScope ["lesser","longer","reason","word"] ["lesser","longer","reason"] (Zaj s_LC):=by walk_at "sc"
theorem Zm3 (T:TL K mg base a tb):FnOk P w K mg base CX0 3 a.f_LC a.d_LC ["lesser","longer","reason"] (Zot K a):=by
 refine T.f_LC.ok Zmx (fun vs H Q E h=>?_) (fun cdv A outer s H vs Q E hr h=>?_)
 .obtain⟨_,_,_,_,rfl,_⟩:=h;rfl
 .obtain⟨s_,L,rs,m,rfl,hL,ex,hm,hrise,tk,q⟩:=h
  refine⟨_,(Zab (Zax (i:=3) Zmx.nd rfl (Or.inl rfl) (Zbj (Zcd (K:=K) rfl) (Zal (Zm0 T) (hr.mono (by decide)) rfl T.m_LM T.f_LM.kp T.b_LM .nil Zaw (Zaa (pv 0) (Zaa (pv 1) Zae))) Zak (fun _ _=>rfl)))
   (Zag (Zat (Zci (Zaa (Zbp (Zaa (pv 3) (Zaa (Zbp (Zaa (pv 2) (Zaa (ZgG (K:=K) rfl YCT PySem.F.slot_str_find PySem.F.type_str_find Zeo (pv 1) (Zaa (pv 3) Zae)) Zae))) Zae))) Zae))))),?_⟩
  have sz:∀k:Nat,k<=9000->k<=sizeLine:=fun k h=>YAJ h (by rw[sizeLine_eq];decide)
  walk_at "rd"
  refine⟨s_,L,rfl,hL,ex,tk,fun F r H1 pw mF sl tk1 nr lr=>?_⟩
  walk_at "rd?"
  obtain⟨w0,F',rfl⟩:∃w0 F',F=w0::F':=by
   have:L∈F:=(mF L).mpr ⟨Inf.refl L,fun z=>by have:=z.len;have:=ex.len;omega⟩
   cases F with
   | nil=>cases this
   | cons x F'=>exact⟨x,F',rfl⟩
  have f0:=(mF w0).mp YAi
  have hmn:∀w,Frs s_ L w->¬BefW w w0:=fun w hw hb=>by
   rcases YAU.mp ((mF w).mpr hw) with rfl | h
   .exact ZcJ hb
   .exact ZfF hb ((YBU.mp pw).1 w h)
  have eF:=ZgY ex hm hrise f0 hmn
  refine⟨r,_,_,_,rfl,rfl,.mk lr,atI0,rfl,L,w0,rfl,rfl,fun k hk=>⟨sz _ (by decide),NewT.of fun t1 H2 s2 n2 l2=>⟨sz _ (by decide),NewT.of fun t2 H3 s3 n3 l3=>⟨sz _ (by decide),NewL.of fun p4 H4 s4 n4 l4=>?_⟩⟩⟩⟩
  have ek:k=((fpl L w0:Nat):Int):=by
   rcases hk with⟨_,no⟩|⟨i,rfl,at_,mn⟩
   .exact absurd f0.1 no
   .rw[Zi0 at_ mn]
  have s14:=s2.trans (s3.trans s4)
  refine q [.ref t2] p4 H4 (sl.trans s14.l) (tk1.same s14) ((((Nw.of n4).same s3).same s2).l sl) l4 ?_
  subst ek
  unfold Zbn
  rw[eF]
  refine⟨rfl,fun i y hy=>?_⟩
  match i,hy with
  | 0,hy=>
   cases hy
   exact⟨_,rfl,t2,t1,rfl,s4 _ _ l3,(s3.trans s4) _ _ l2⟩
theorem Zhg:FnScope ["lesser","longer","kinds","reason","found","shorter","told","letter","word"] ["lesser","longer","kinds","reason"] (Zaj s_LF):=by walk_at "sc"
theorem Zm2 (T:TL K mg base a tb):FnOk P w K mg base CX0 3 a.f_LF a.d_LF ["lesser","longer","kinds","reason"] (Zoq K a):=by
 refine T.f_LF.ok Zhg (fun vs H Q E h=>?_) (fun cdv A outer s H vs Q E hr h=>?_)
 .obtain⟨_,_,_,_,rfl,_⟩:=h;rfl
 .have hu1:=ZaH hr
  obtain⟨s_,L,rs,m,rfl,hL,ex,hm,hrise,m4,tk,q⟩:=h
  refine⟨_,(Zab (Zax (i:=4) Zhg.nd rfl (Or.inr rfl) ZbQ)
   (Zaf (Zab (ZaZ YAp rfl (Zaz (K:=K) rfl (Zal (Zm0 T) (hr.mono (by decide)) rfl T.m_LM T.f_LM.kp T.b_LM .nil Zaw (Zaa (pv 0) (Zaa (pv 1) Zae)))) (Zam (i:=5) Zhg.nd rfl (Or.inl rfl))
   (Zab (Zax (i:=6) Zhg.nd rfl (Or.inl rfl) (Zbp (Zaa (pv 3) (Zaa (pv 5) (Zaa (ZgG (K:=K) rfl YCT PySem.F.slot_str_find PySem.F.type_str_find Zeo (pv 1) (Zaa (pv 5) Zae)) Zae)))))
   (Zag (ZaZ YAp rfl (Zem (pv 2)) (Zam (i:=7) Zhg.nd rfl (Or.inl rfl))
   (Zag (ZaZ YAp rfl (Zaz (K:=K) rfl (Zci (Zaa (ZaI Zbk (pv 5) (pv 7)) (Zaa (ZaI Zbk (pv 7) (pv 5)) Zae)))) (Zam (i:=8) Zhg.nd rfl (Or.inl rfl))
   (Zag (Za2 (Zch (Zal (ZpE T) (hr.mono (by decide)) rfl T.m_LN T.f_LN.kp T.b_LN .nil Zaw (Zaa (pv 1) (Zaa (pv 8) Zae)))) (Zaf (Zag (ZbP hu1 (pv 4) (pv 8) (pv 6) rfl))) Zay))))))))
   (Zag (Zat (Zba (N:=["word","found"]) (ix:=[none,some 4]) rfl (ZaJ rfl) rfl (Zaz (K:=K) rfl (Zal (ZjK T) (hr.mono (by decide)) rfl T.m_K3 T.f_K3.kp T.b_K3 .nil Zaw (Zaa (Za5 (ZhJ rfl) rfl T.z_list ZcW (Zaa (pv 4) Zae)) Zae))) (fun _ _ _ _=>(Zam (i:=0) (show (["word","found"]:List Str).Nodup from by decide +kernel) rfl (Or.inl rfl) (Or.inr rfl))) (fun _ _ _ _=>ZaV) (fun _ _ _ _=>(Zbp (Zaa (pv 0) (Zaa (Zbx hu1 (pv 1) (pv 0) (fun _ _=>rfl)) Zae)))))))))),?_⟩
  have sz:∀k:Nat,k<=9000->k<=sizeLine:=fun k h=>YAJ h (by rw[sizeLine_eq];decide)
  walk_at "rd"
  intro pd hpd
  refine Zai ?_
  walk_at "rd"
  have s0:Same H (upd H pd (.dK [])):=Zap hpd
  have h0:upd H pd (.dK []) pd=some (.dK []):=Zad
  generalize upd H pd (.dK [])=H0 at s0 h0
  refine⟨s_,L,rfl,hL,ex,tk.same s0,fun F pF H1 pw mF sl tk1 nF lF=>?_⟩
  have d1:=sl _ _ h0 rfl
  have nFd:pd≠pF:=fun z=>by rw[z,lF]at d1;cases d1
  have FL:F.length<=82:=by
   have nd:F.Nodup:=ZbM pw
   have hs:∀w∈F,w∈ZaT L L.length:=fun w hw=>Zfa.mpr ((ZiZ ex).mp ((mF w).mp hw)).1
   have:=Zdx F _ nd hs
   rw[ZcF]at this
   omega
  refine⟨pF,rfl,⟨_,.mk lF⟩,ForRun.list (xs:=F.map tx) (fun i U H'=>∃v5 v6 v7 v8 kvs ws,U=[some (tx s_),some (tx L),some (tx m),some (tx rs),some (.ref pd),v5,v6,v7,v8]/\(∀b o,H1 b=some o->b≠pd->H' b=some o)/\H' pd=some (.dK kvs)/\DI H' s_ L rs (fun w=>∃sh∈F.take i,∃c∈m,w=sh++[c]\/w=c::sh) kvs ws/\kvs.length<=i*8) ⟨_,_,_,_,[],[],rfl,fun b o e _=>e,d1,⟨rfl,by simp,fun w=>by simp,by simp⟩,by simp⟩ (fun i U H' _ ⟨_,_,_,_,_,_,_,k',_⟩=>.mk (k' _ _ lF (YAv nFd))) ?_ ?_⟩
  .rintro i x U H2 hx ⟨v5,v6,v7,v8,kvs,ws,rfl,k2,d2,i2,n2⟩
   obtain⟨sh,hsh,rfl⟩:∃sh,F[i]?=some sh/\x=tx sh:=by
    rw[YAW]at hx
    cases e:F[i]? with
    | none=>rw[e]at hx;cases hx
    | some sh=>rw[e]at hx;exact⟨sh,rfl,(Option.some.inj hx).symm⟩
   have fsh:=(mF sh).mp (YAT hsh)
   have shl:=fsh.1.len
   have hi:i<F.length:=(YAK.mp hsh).1
   walk_at "rd"
   refine⟨rfl,L,sh,rfl,rfl,fun r hr=>⟨sz _ (by decide),NewT.of fun t1 H3 s3 n3 l3=>?_⟩⟩
   have er:r=((fpl L sh:Nat):Int):=by
    rcases hr with⟨_,no⟩|⟨i,rfl,at_,mn⟩
    .exact absurd fsh.1 no
    .rw[Zi0 at_ mn]
   subst er
   have d3:=s3 _ _ d2
   refine⟨m,rfl,ForRun.text (fun j U H'=>∃v7 v8 kvs ws,U=[some (tx s_),some (tx L),some (tx m),some (tx rs),some (.ref pd),some (tx sh),some (.ref t1),v7,v8]/\(∀b o,H1 b=some o->b≠pd->H' b=some o)/\H' t1=some (.tup [tx rs,tx sh,.int ((fpl L sh:Nat):Int)])/\H' pd=some (.dK kvs)/\DI H' s_ L rs (fun w=>(∃sh∈F.take i,∃c∈m,w=sh++[c]\/w=c::sh)\/∃c∈m.take j,w=sh++[c]\/w=c::sh) kvs ws/\kvs.length<=i*8+2*j) ⟨_,_,_,_,rfl,fun b o e nb=>s3 _ _ (k2 b o e nb),l3,d3,i2.grow (fun b us e=>s3 _ _ e) (fun w _=>by simp),by omega⟩ ?_ ?_⟩
   .rintro j c U H4 hc ⟨v7,v8,kvs,ws,rfl,k4,t4,d4,i4,n4⟩
    have hcm:c∈m:=YAT hc
    have hj:j<m.length:=(YAK.mp hc).1
    walk_at "rd"
    refine⟨sz _ (by omega),sz _ (by omega),sz _ (by decide),NewL.of fun pl H5 s5 n5 l5=>?_⟩
    have nl:pd≠pl:=Zah d4 n5
    refine⟨pl,rfl,⟨_,.mk l5⟩,ForRun.list (xs:=[tx (sh++[c]),tx (c::sh)]) (fun k U H'=>∃v8 kvs ws,U=[some (tx s_),some (tx L),some (tx m),some (tx rs),some (.ref pd),some (tx sh),some (.ref t1),some (tx [c]),v8]/\(∀b o,H1 b=some o->b≠pd->H' b=some o)/\H' t1=some (.tup [tx rs,tx sh,.int ((fpl L sh:Nat):Int)])/\H' pl=some (.lst [tx (sh++[c]),tx (c::sh)])/\H' pd=some (.dK kvs)/\DI H' s_ L rs (fun w=>((∃sh∈F.take i,∃c∈m,w=sh++[c]\/w=c::sh)\/∃c∈m.take j,w=sh++[c]\/w=c::sh)\/w∈[sh++[c],c::sh].take k) kvs ws/\kvs.length<=i*8+2*j+k) ⟨_,_,_,rfl,fun b o e nb=>s5 _ _ (k4 b o e nb),s5 _ _ t4,l5,s5 _ _ d4,i4.grow (fun b us e=>s5 _ _ e) (fun w _=>by simp),by omega⟩ (fun k U H' _ ⟨_,_,_,_,_,_,l',_⟩=>.mk l') ?_ ?_⟩
    .rintro k y U H6 hy ⟨v8,kvs,ws,rfl,k6,t6,l6,d6,i6,n6⟩
     obtain⟨z,hz,rfl,ez⟩:∃z,[sh++[c],c::sh][k]?=some z/\y=tx z/\(z=sh++[c]\/z=c::sh):=by
      match k,hy with
      | 0,hy=>cases hy;exact⟨_,rfl,rfl,.inl rfl⟩
      | 1,hy=>cases hy;exact⟨_,rfl,rfl,.inr rfl⟩
     have zl:z.length=sh.length+1:=by rcases ez with rfl | rfl<;>simp
     have zne:z≠[]:=fun e=>by rw[e]at zl;simp at zl
     have hk:k<2:=(YAK.mp hz).1
     walk_at "rd"
     refine⟨L,z,rfl,by omega,by omega,_,rfl,?_⟩
     have tkS:∀w,w∈[sh++[c],c::sh].take (k+1)↔(w∈[sh++[c],c::sh].take k\/w=z):=fun w=>by
      rw[ZbY hz,YAZ,YAR]
     cases hb:ZiH L z with
     | false=>
      have nm:¬Miss L z:=fun h=>by rw[(Zfh zne).mpr h]at hb;cases hb
      refine iteF ⟨_,kvs,ws,rfl,k6,t6,l6,d6,i6.grow (fun _ _ e=>e) (fun w mw=>?_),by omega⟩
      rw[tkS]
      constructor
      .rintro (h | h)
       .exact .inl h
       .exact .inr (.inl h)
      .rintro (h | h | h)
       .exact .inl h
       .exact .inr h
       .exact absurd (h▸mw) nm
     | true=>
      have mz:=(Zfh zne).mp hb
      refine iteT ?_
      refine Zai ?_
      walk_at "rd"
      have es:shOf s_ z=sh:=ZkB ex fsh ez mz
      obtain⟨ws',i7⟩:=i6.put (x:=z) (b:=t1) mz (by rw[es];exact t6)
      have np:pd≠pl:=fun e=>by rw[e,l6]at d6;cases d6
      have nt:t1≠pd:=fun e=>by rw[e,d6]at t6;cases t6
      have lp:=ZaK kvs (kTx z) (.ref t1)
      refine⟨pd,_,rfl,DPut.k (k:=kTx z) d6 (YAb (show _<9000 by omega) (sz 9000 (YAH _))),_,putK kvs (kTx z) (.ref t1),ws',rfl,fun b o e nb=>by rw[Zac nb];exact k6 b o e nb,by rw[Zac nt];exact t6,by rw[Zac (YAv np)];exact l6,Zad,i7.grow (fun b us e=>?_) (fun w _=>?_),by omega⟩
      .rw[Zac (fun e2=>by rw[e2,d6]at e;cases e)];exact e
      .rw[tkS]
       constructor
       .rintro ((h | h) | h)
        .exact .inl h
        .exact .inr (.inl h)
        .exact .inr (.inr h)
       .rintro (h | h | h)
        .exact .inl (.inl h)
        .exact .inl (.inr h)
        .exact .inr h
    .rintro U H6 ⟨v8,kvs,ws,rfl,k6,t6,l6,d6,i6,n6⟩
     refine⟨_,_,kvs,ws,rfl,k6,t6,d6,i6.grow (fun _ _ e=>e) (fun w _=>?_),by simp at n6;omega⟩
     rw[ZbY hc]
     simp only[YAZ,YAR]
     constructor
     .rintro ((h | ⟨d,hd,h⟩) | h)
      .exact .inl h
      .exact .inr ⟨d,.inl hd,h⟩
      .exact .inr ⟨c,.inr rfl,by simpa using h⟩
     .rintro (h | ⟨d,hd | rfl,h⟩)
      .exact .inl (.inl h)
      .exact .inl (.inr ⟨d,hd,h⟩)
      .exact .inr (by simpa using h)
   .rintro U H4 ⟨v7,v8,kvs,ws,rfl,k4,t4,d4,i4,n4⟩
    refine⟨_,_,_,_,kvs,ws,rfl,k4,d4,i4.grow (fun _ _ e=>e) (fun w _=>?_),by omega⟩
    rw[YBJ,ZbY hsh]
    simp only[YAZ,YAR]
    constructor
    .rintro (⟨s',hs,h⟩ | h)
     .exact⟨s',.inl hs,h⟩
     .exact⟨sh,.inr rfl,h⟩
    .rintro⟨s',hs | rfl,h⟩
     .exact .inl ⟨s',hs,h⟩
     .exact .inr h
  .rintro U H2 ⟨v5,v6,v7,v8,kvs,ws,rfl,k2,d2,i2,n2⟩
   walk_at "rd"
   rw[YAB,YBJ]at i2
   have e3:kvs.map (fun p=>kV p.1)=ws.map tx:=by
    have:kvs.map (fun p=>kV p.1)=(kvs.map (·.1)).map kV:=by rw[YBB];rfl
    rw[this,i2.keys,YBB]
    rfl
   refine⟨pd,kvs,rfl,.inl d2,NewL.of fun p3 H3 s3 n3 l3=>?_⟩
   rw[e3]at l3
   have mws:∀w,w∈ws↔w∈opnL s_ L m:=fun w=>by
    rw[i2.mem,Zca,<-Zik ex hm]
    constructor
    .rintro⟨ms,sh,h1,c,h2,h3⟩;exact⟨sh,c,(mF sh).mp h1,h2,h3,ms⟩
    .rintro⟨sh,c,h1,h2,h3,ms⟩;exact⟨ms,sh,(mF sh).mpr h1,c,h2,h3⟩
   have tk2:=ZkY tk1 k2 d1 rfl rfl
   refine⟨p3,ws,rfl,l3,fun w hw=>?_,tk2.same s3,fun ws' r H4 pm pw4 sl4 tk4 nr lr=>?_⟩
   .have:=((i2.mem w).mp hw).1.init.len
    rw[YAx]at this
    omega
   .have ew:ws'=opnL s_ L m:=Zbw (ZbT pm pw4 i2.nd) ((ZaE hrise).filter _) fun w=>by rw[pm.mem_iff,mws]
    subst ew
    have d4:=sl4 _ _ (s3 _ _ d2) rfl
    have ol:(opnL s_ L m).length<=9000:=by
     have:=pm.length_eq
     have e5:=congrArg List.length e3
     rw[YAB,YAB]at e5
     rw[YAB]at n2
     omega
    refine⟨r,rfl,⟨_,.mk lr⟩,CompRun.tups (xs:=(opnL s_ L m).map tx) (fun i vs=>∃w b,(opnL s_ L m)[i]?=some w/\vs=[tx w,.ref b]/\valV kvs (kTx w)=some (.ref b)) (by rw[YAB];omega) (.mk lr) ?_ ?_⟩
    .intro i H5 Q5 hi s5 q5
     rw[YAB]at hi
     rw[ZcR hi]
     have hw:(opnL s_ L m)[i]?=some ((opnL s_ L m).getD i []):=by rw[YAI,YAG hi];rfl
     obtain⟨b,hv,_⟩:=i2.val _ ((mws _).mpr (YAT hw))
     walk_at "rd"
     have dg:=DGet.k (k:=kTx ((opnL s_ L m).getD i [])) (s5 _ _ d4)
     rw[hv]at dg
     refine⟨pd,_,rfl,dg,sz _ (by decide),NewT.of fun t6 H6 s6 n6 l6=>q5 t6 _ H6 s6 l6 ⟨_,b,hw,rfl,hv⟩⟩
    .intro p5 ys H5 s5 n5 l5 yl hys
     have n4':Nw H p5:=((((Nw.of n5).l sl4).same s3).chg (S:=[pd]) (H:=H1) (fun b o e nb _=>k2 b o e (by simpa using nb)) (fun b hb=>by obtain rfl:=YAR.mp hb;exact⟨_,d2,rfl⟩)).l (s0.l.trans sl)
     refine q ys p5 H5 (fun b o e t=>?_) (tk4.same s5) n4' l5 ⟨?_,fun i y hy=>?_⟩
     .have nb:b≠pd:=Zah e hpd
      exact s5 _ _ (sl4 _ _ (s3 _ _ (k2 _ _ (sl _ _ (s0 _ _ e) t) nb)) t)
     .unfold Zbq
      rw[YAB,yl,YAB]
     .obtain⟨t,vs,rfl,ht,w,b,hw,rfl,hv⟩:=hys i y hy
      obtain⟨b',hv',hb'⟩:=i2.val w ((mws w).mpr (YAT hw))
      obtain rfl:b=b':=by rw[hv]at hv';injection hv' with e;injection e
      refine⟨_,by unfold Zbq;rw[YAW,hw];rfl,t,b,rfl,ht,s5 _ _ (sl4 _ _ (s3 _ _ hb') rfl)⟩
theorem Zhh:FnScope ["self","found","shorter","length","standing"] ["self"] (Zaj s_KE):=by walk_at "sc"
theorem Znb (T:TL K mg base a tb):FnOk P w K mg base CX0 3 a.g_KE a.e_KE ["self"] (ZoL K a):=by
 refine T.fm_KE.ok Zhh (fun vs H Q E h=>?_) (fun cdv A outer s H vs Q E hr h=>?_)
 .obtain⟨_,_,_,rfl,_⟩:=h;rfl
 .obtain⟨p,l,m,rfl,hp,ok,q⟩:=h
  refine⟨_,(Zab (Zax (i:=1) Zhh.nd rfl (Or.inl rfl) (Zci Zae))
   (Zab (Zax (i:=2) Zhh.nd rfl (Or.inl rfl) (ZbF (pv 0) T.cl_LH T.me_Plain_words (Zm8 T) (hr.mono (by decide)) T.b_KL .nil Zaw (Zaa Zak Zae)))
   (Zab (ZaZ YAp rfl (Zdv rfl T.z_range (Zaa Zak (Zaa (ZaI ZbW (ZaW (pv 0) T.cl_LH T.me_Plain_reach (ZpR T) (hr.mono (by decide)) T.b_KK .nil Zaw) Zak) Zae))) (Zam (i:=3) Zhh.nd rfl (Or.inl rfl))
   (Zab (Zax (i:=4) Zhh.nd rfl (Or.inl rfl) (ZbF (pv 0) T.cl_LH T.me_Plain_words (Zm8 T) (hr.mono (by decide)) T.b_KL .nil Zaw (Zaa (pv 3) Zae)))
   (Zab (ZaN (ZdS YBN PySem.F.slot_list_extend PySem.F.type_list_extend Ziv (pv 1) (Zaa (Zal (ZpG T) (hr.mono (by decide)) rfl T.m_LK T.f_LK.kp T.b_LK .nil Zaw (Zaa (pv 2) (Zaa (pv 4) (Zaa (ZaF (K:=K) rfl (pv 0) rfl) Zae)))) Zae)))
   (Zag (Zax (i:=2) Zhh.nd rfl (Or.inl rfl) (pv 4))))))
   (Zag (Zat (pv 1)))))),?_⟩
  obtain⟨dx,hp⟩:=hp
  have l40:=ok.l40
  have m4:=ok.m4
  walk_at "rd"
  refine⟨YAq _,NewL.of fun pf H1 s1 nf lf=>?_⟩
  refine⟨p,dx,_,rfl,s1 _ _ hp,ZcS (by decide +kernel) (by decide +kernel),p,l,m,0,rfl,⟨dx,s1 _ _ hp⟩,ok,YAq _,fun q0 H2 s2 n2 e2=>?_⟩
  refine⟨p,dx,_,rfl,(s1.trans s2) _ _ hp,ZcS (by decide +kernel) (by decide +kernel),p,l,m,rfl,⟨dx,(s1.trans s2) _ _ hp⟩,ok,?_⟩
  walk_at "rd"
  have ej:((l.length:Nat)+1+1-1:Int).toNat=l.length+1:=by omega
  refine⟨_,_,rfl,⟨by omega,by omega,by omega,by omega⟩,?_⟩
  rw[ej]
  refine ForRun.range (fun i U H'=>∃(v3 v4:Option V) (q0:Addr),U=[some (.ref p),some (.ref pf),some (.ref q0),v3,v4]/\Same H H'/\H' pf=some (.lst ((ZcA l m i).map tx))/\H' q0=some (.lst ((wordsOf l i).map tx))/\pf≠q0) ⟨_,_,q0,rfl,s1.trans s2,s2 _ _ lf,e2,Zah lf n2⟩ ?_ ?_
  .rintro i U H3 hi ⟨v3,v4,q0,rfl,s3,h3,h4,ne0⟩
   have e1:(1+(i:Int))=((i+1:Nat):Int):=by omega
   have ll:=ZcP (l:=l) (m:=m) (i:=i) m4 l40 (by omega)
   have la:=ZcP (l:=l) (m:=m) (i:=i+1) m4 l40 (by omega)
   rw[ZdC,YAE]at la
   rw[e1]
   walk_at "rd"
   refine⟨p,dx,_,rfl,s3 _ _ hp,ZcS (by decide +kernel) (by decide +kernel),p,l,m,i+1,rfl,⟨dx,s3 _ _ hp⟩,ok,by omega,fun q1 H4 s4 n4 e4=>?_⟩
   have h3':=s4 _ _ h3
   have ne1:pf≠q1:=Zah h3 n4
   refine⟨.inl ⟨rfl,_,.mk h3'⟩,p,_,dx,_,_,rfl,(s3.trans s4) _ _ hp,T.cl_LH,T.n_Plain_own_kinds,Zhz,?_⟩
   refine⟨q0,q1,wordsOf l i,wordsOf l (i+1),m,rfl,s4 _ _ h4,e4,by have:=Zdh l i;omega,m4,fun w hw=>by have:=(ZaP (l:=l) (by omega)).mp hw;omega,fun r H5 s5 n5 e5=>?_⟩
   refine⟨pf,r,_,_,rfl,rfl,s5 _ _ h3',e5,by rw[YAB,YAB,sizeLine_eq];omega,_,_,q1,rfl,same_upd3 (s3.trans (s4.trans s5)) nf,?_,?_,ne1⟩
   .rw[Zad,ZdC,YBA]
   .rw[Zac (YAv ne1)]
    exact s5 _ _ e4
  .rintro U H3 ⟨v3,v4,q0,rfl,s3,h3,h4,ne0⟩
   walk_at "rd"
   exact q pf H3 s3 h3
theorem Zh6:FnScope ["_law_before","_law_now","_law_found","_law_came","_law_went","_law_rows"] ["_law_before","_law_now","_law_found"] (Zaj s_LS):=by walk_at "sc"
theorem ZpC (T:TL K mg base a tb):FnOk P w K mg base CX0 3 a.f_LS a.d_LS ["_law_before","_law_now","_law_found"] (Zog K a):=by
 refine T.f_LS.ok Zh6 (fun vs H Q E h=>?_) (fun cdv A outer s H vs Q E hr h=>?_)
 .obtain⟨_,_,_,_,_,_,_,_,_,_,rfl,_⟩:=h;rfl
 .have hu64:=hr.units
  obtain⟨t,c,g,ys,zs,l,l2,m,rc,rg,rfl,ht,hc,hg,rwc,rwg,ok,lm,lm2,l40,l240,mv,q⟩:=h
  refine⟨_,(Zab (Zkz (pv 2) (Ze3 rfl (Za9 (Zam (i:=3) Zh6.nd rfl (Or.inl rfl)) (Za9 (Zam (i:=4) Zh6.nd rfl (Or.inl rfl)) ZcN))))
   (Zaf (Zab (Za2 (Zau Zhm (Zan (Zav (K:=K) rfl) rfl T.z_len ZaL (Zaa (pv 1) Zae)) (Zan (Zav (K:=K) rfl) rfl T.z_len ZaL (Zaa (pv 0) Zae)) (ZaA _)) (Zaf (Zab (Za2 (PW.pt (Zc6 (Zau (Zbo (K:=K) rfl hu64) (Zan (Zav (K:=K) rfl) rfl T.z_len ZaL (Zaa (pv 4) Zae)) Zak (ZaA _)) (Zcg (Zau (Zbo (K:=K) rfl hu64) (Zbj (Za0 (K:=K) rfl) (Zbj (Za0 (K:=K) rfl) (Zbj (Zcd (K:=K) rfl) (pv 4) Zak (fun _ _=>rfl)) Zak (fun _ _=>rfl)) Zak (fun _ _=>rfl)) (ZaD (l:=[115,116,97,110,100,115]) (by decide +kernel)) (ZaA _))))) (Zag (Zat Zcu)) Zay)
   (Zaf (Zab (Zax (i:=5) Zh6.nd rfl (Or.inl rfl) (ZaI Zim (Zba (N:=["_law_row"]) (ix:=[none]) rfl (ZaJ rfl) rfl (Zaz (K:=K) rfl (pv 3)) (fun _ _ _ _=>(Zam (i:=0) (show (["_law_row"]:List Str).Nodup from by decide +kernel) rfl (Or.inl rfl) (Or.inr rfl))) (fun _ _ _ _=>ZaV) (fun _ _ _ _=>(Zbp (Zaa (pv 0) (Zaa (Zbp (Zaa (ZaD (l:=[110,111,110,101]) (by decide +kernel)) (Zaa (ZaD (l:=[102,105,114,115,116]) (by decide +kernel)) Zae))) Zae))))) (Zba (N:=["_law_row"]) (ix:=[none]) rfl (ZaJ rfl) rfl (Zaz (K:=K) rfl (pv 4)) (fun _ _ _ _=>(Zam (i:=0) (show (["_law_row"]:List Str).Nodup from by decide +kernel) rfl (Or.inl rfl) (Or.inr rfl))) (fun _ _ _ _=>ZaV) (fun _ _ _ _=>(Zbp (Zaa (pv 0) (Zaa (Zbp (Zaa (ZaD (l:=[115,116,97,110,100,115]) (by decide +kernel)) (Zaa (ZaD (l:=[110,111,110,101]) (by decide +kernel)) Zae))) Zae)))))))
   (Zaf (Zag (Zat (Zan (ZdM rfl) rfl T.z_all Zjl (Zaa (Zba (N:=["_law_row","_law_words","_law_before","_law_now"]) (ix:=[none,none,some 0,some 1]) rfl (ZaJ rfl) rfl (Zaz (K:=K) rfl (pv 5)) (fun _ _ _ _=>(Zig (K:=K) 2 rfl rfl (Za9 (Zam (i:=0) (show (["_law_row","_law_words","_law_before","_law_now"]:List Str).Nodup from by decide +kernel) rfl (Or.inl rfl) (Or.inr rfl)) (Za9 (Zam (i:=1) (show (["_law_row","_law_words","_law_before","_law_now"]:List Str).Nodup from by decide +kernel) rfl (Or.inl rfl) (Or.inr rfl)) ZcN)))) (fun _ _ _ _=>ZaV) (fun _ _ _ _=>(Zal (Zne T) (hr.mono (by decide)) rfl T.m_K1 T.f_K1.kp T.b_K1 .nil Zaw (Zaa (pv 0) (Zaa (pv 2) (Zaa (pv 3) (Zaa (pv 1) Zae))))))) Zae))))))))) Zay)
   (Zab (Za2 (PW.pt (Zc6 (Zau (Zbo (K:=K) rfl hu64) (Zan (Zav (K:=K) rfl) rfl T.z_len ZaL (Zaa (pv 3) Zae)) Zak (ZaA _)) (Zcg (Zau (Zbo (K:=K) rfl hu64) (Zbj (Za0 (K:=K) rfl) (Zbj (Za0 (K:=K) rfl) (Zbj (Zcd (K:=K) rfl) (pv 3) Zak (fun _ _=>rfl)) Zak (fun _ _=>rfl)) Zak (fun _ _=>rfl)) (ZaD (l:=[115,116,111,111,100]) (by decide +kernel)) (ZaA _))))) (Zaf (Zag (Zat Zcu))) Zay)
   (Zaf (Zab (Zax (i:=5) Zh6.nd rfl (Or.inl rfl) (ZaI Zim (Zba (N:=["_law_row"]) (ix:=[none]) rfl (ZaJ rfl) rfl (Zaz (K:=K) rfl (pv 3)) (fun _ _ _ _=>(Zam (i:=0) (show (["_law_row"]:List Str).Nodup from by decide +kernel) rfl (Or.inl rfl) (Or.inr rfl))) (fun _ _ _ _=>ZaV) (fun _ _ _ _=>(Zbp (Zaa (pv 0) (Zaa (Zbp (Zaa (ZaD (l:=[115,116,111,111,100]) (by decide +kernel)) (Zaa (ZaD (l:=[110,111,110,101]) (by decide +kernel)) Zae))) Zae))))) (Zba (N:=["_law_row"]) (ix:=[none]) rfl (ZaJ rfl) rfl (Zaz (K:=K) rfl (pv 4)) (fun _ _ _ _=>(Zam (i:=0) (show (["_law_row"]:List Str).Nodup from by decide +kernel) rfl (Or.inl rfl) (Or.inr rfl))) (fun _ _ _ _=>ZaV) (fun _ _ _ _=>(Zbp (Zaa (pv 0) (Zaa (Zbp (Zaa (ZaD (l:=[110,111,110,101]) (by decide +kernel)) (Zaa (ZaD (l:=[108,97,115,116]) (by decide +kernel)) Zae))) Zae)))))))
   (Zag (Zat (Zan (ZdM rfl) rfl T.z_all Zjl (Zaa (Zba (N:=["_law_row","_law_words","_law_before","_law_now"]) (ix:=[none,none,some 0,some 1]) rfl (ZaJ rfl) rfl (Zaz (K:=K) rfl (pv 5)) (fun _ _ _ _=>(Zig (K:=K) 2 rfl rfl (Za9 (Zam (i:=0) (show (["_law_row","_law_words","_law_before","_law_now"]:List Str).Nodup from by decide +kernel) rfl (Or.inl rfl) (Or.inr rfl)) (Za9 (Zam (i:=1) (show (["_law_row","_law_words","_law_before","_law_now"]:List Str).Nodup from by decide +kernel) rfl (Or.inl rfl) (Or.inr rfl)) ZcN)))) (fun _ _ _ _=>ZaV) (fun _ _ _ _=>(Zal (Zne T) (hr.mono (by decide)) rfl T.m_K1 T.f_K1.kp T.b_K1 .nil Zaw (Zaa (pv 0) (Zaa (pv 3) (Zaa (pv 2) (Zaa (pv 1) Zae))))))) Zae)))))))))),?_⟩
  have sz:∀k:Nat,k<=20000->k<=sizeLine:=fun k h=>YAJ h (by rw[sizeLine_eq];decide)
  have m4:=ok.m4
  have nm:∀ {α:Type} {y:α} {xs:List α} {i:Nat},xs[i]?=some y->y∈xs:=fun h=>YAT h
  have gd:∀ {xs:List V} {i:Nat},i<xs.length->xs[i]?=some (xs.getD i .non):=fun h=>by rw[YAI,YAG h];rfl
  walk_at "rd"
  refine⟨t,_,rfl,.mk ht,rfl,_,_,rfl,_,_,rfl,rfl,Zai ?_⟩
  walk_at "rd"
  rcases mv with⟨c0,e,rfl,rfl⟩|⟨c0,e,rfl,rfl⟩
  .have ex:Ext l l2:=e.imp (fun z=>⟨c0,z⟩) (fun z=>⟨c0,z⟩)
   have el:=ex.len
   refine⟨_,_,rfl,Zby (by omega),_,_,rfl,Zby (by omega),?_⟩
   rw[decide_eq_true (by omega)]
   refine iteT (Zai ?_)
   walk_at "rd"
   obtain⟨w0,ew⟩:=ZeX (rs:=[115,116,97,110,100,115]) (m:=m) ex lm2 ok.rise
   have rz:=rwg
   rw[ew]at rz
   obtain⟨a1,b1,ez,ha1,hb1⟩:=ZeY rz
   have hz:=hg
   rw[ez]at hz
   have lo:(Zbq [102,105,114,115,116] l l2 m).length<=9000:=ZjW m4 (by omega)
   have lf:(Zbn [115,116,97,110,100,115] l l2 m).length<=9000:=ZjX m4 (by omega)
   have l1:=rwc.1
   have l2_:=rwg.1
   refine⟨_,_,rfl,.inl ⟨_,.mk hz,rfl⟩,ne_int ⟨false,rfl,iteF ⟨g,_,0,_,rfl,rfl,.mk hz,rfl,a1,_,1,_,rfl,rfl,.mk ha1,rfl,b1,_,0,_,rfl,rfl,.mk hb1,rfl,Zit ⟨false,rfl,iteF (Zai ?_)⟩⟩⟩⟩
   walk_at "rd"
   refine⟨c,rfl,⟨_,.mk hc⟩,CompRun.dataF (fun _=>true) (fun H y _=>GoodP l l2 H y) (fun _ _ _ _ k h=>h.mono k) (by omega) (.mk hc) (fun i H' Q' h s' q'=>q' _ (Same.refl _)) (fun i H' Q' h _ s' q'=>?_) (fun p1 ys1 H1 s1 n1 h1 e1 al1=>?_)⟩
   .walk_at "rd"
    refine⟨sz 2 (by decide),NewT.of fun wi H7 s7 n7 l7=>⟨sz 2 (by decide),NewT.of fun t8 H8 s8 n8 l8=>q' _ _ (s7.trans s8) ?_⟩⟩
    obtain⟨r,hr,r1,r2,e3,h3,h4⟩:=rwc.2 i _ (gd h)
    have sx:=s'.trans (s7.trans s8)
    refine⟨t8,r1,r2,wi,_,_,r,rfl,?_,sx _ _ h3,sx _ _ h4,s8 _ _ l7,ZnK ex lm2 (by omega) (by decide) (nm hr)⟩
    rw[l8,e3]
   refine⟨g,rfl,⟨_,.mk (s1 _ _ hg)⟩,CompRun.dataF (fun _=>true) (fun H y _=>GoodP l l2 H y) (fun _ _ _ _ k h=>h.mono k) (by omega) (.mk (s1 _ _ hg)) (fun i H' Q' h s' q'=>q' _ (Same.refl _)) (fun i H' Q' h _ s' q'=>?_) (fun p2 ys2 H2 s2 n2 h2 e2 al2=>?_)⟩
   .walk_at "rd"
    refine⟨sz 2 (by decide),NewT.of fun wi H7 s7 n7 l7=>⟨sz 2 (by decide),NewT.of fun t8 H8 s8 n8 l8=>q' _ _ (s7.trans s8) ?_⟩⟩
    obtain⟨r,hr,r1,r2,e3,h3,h4⟩:=rwg.2 i _ (gd h)
    have sx:=s1.trans (s'.trans (s7.trans s8))
    refine⟨t8,r1,r2,wi,_,_,r,rfl,?_,sx _ _ h3,sx _ _ h4,s8 _ _ l7,ZnL ex (by omega) (nm hr)⟩
    rw[l8,e3]
   rw[YDU.mpr (fun _ _=>rfl),YBD]at e1 e2
   refine⟨p1,p2,ys1,ys2,rfl,rfl,s2 _ _ h1,h2,sz _ (by omega),fun p3 n3=>Zai ?_⟩
   walk_at "rd"
   have s3:Same H2 (upd H2 p3 (.lst (ys1++ys2))):=Zap n3
   have h3:upd H2 p3 (.lst (ys1++ys2)) p3=some (.lst (ys1++ys2)):=Zad
   generalize upd H2 p3 (.lst (ys1++ys2))=H3 at s3 h3
   have al:∀i,i<(ys1++ys2).length->∃u v,∃(t r b wi:Addr) (A B:Q11) (row:Q11×List V),(ys1++ys2)[i]?=some (.ref t)/\u=.ref r/\v=.ref wi/\H3 t=some (.tup [u,v])/\H3 r=some (.tup [tx row.1,.ref b])/\H3 b=some (.tup row.2)/\H3 wi=some (.tup [tx A,tx B])/\ZhL l l2 A B row:=fun i hi=>by
    have g3:GoodP l l2 H3 ((ys1++ys2).getD i .non):=by
     rcases YAZ.mp (nm (gd hi)) with z | z
     .obtain⟨j,hj⟩:=YDA.mp z
      obtain⟨_,_,g1⟩:=al1 j _ hj
      exact g1.mono fun _ _ z=>s3 _ _ (s2 _ _ z)
     .obtain⟨j,hj⟩:=YDA.mp z
      obtain⟨_,_,g1⟩:=al2 j _ hj
      exact g1.mono fun _ _ z=>s3 _ _ z
    obtain⟨t,r,b,wi,A,B,row,e,k1,k2,k3,k4,gr⟩:=g3
    exact⟨_,_,t,r,b,wi,A,B,row,by rw[gd hi,e],rfl,rfl,k1,k2,k3,k4,gr⟩
   obtain⟨u,v,uv⟩:=ZmO al
   have len:(ys1++ys2).length<=18000:=by rw[YAE];omega
   refine⟨p3,rfl,⟨_,.mk h3⟩,CompRun.pairs u v (fun _=>.bl true) (by omega) (.mk h3) (fun i hi=>let ⟨t,_,_,_,_,_,_,k1,_,_,k2,_⟩:=uv i hi;⟨t,k1,k2⟩) (fun i H' Q' h s' q'=>?_) (fun p4 H4 s4 n4 h4=>?_)⟩
   .obtain⟨t,r,b,wi,A,B,row,_,e3,e4,_,k2,k3,k4,gr⟩:=uv i h
    rw[e3,e4]
    walk_at "rd"
    exact⟨r,b,wi,l,l2,A,B,row,rfl,s' _ _ k4,s' _ _ k2,s' _ _ k3,by omega,by omega,gr,fun H5 s5=>q' H5 s5⟩
   .refine⟨p4,(List.range (ys1++ys2).length).map fun _=>true,rfl,by rw[YBB];exact h4,?_⟩
    rw[show ((List.range (ys1++ys2).length).map fun _=>true).all id=true by simp]
    exact q H4 (s1.trans (s2.trans (s3.trans s4)))
  .have ex:Ext l2 l:=e.elim (fun z=>.inr ⟨c0,z⟩) (fun z=>.inl ⟨c0,z⟩)
   have el:=ex.len
   refine⟨_,_,rfl,Zby (by omega),_,_,rfl,Zby (by omega),?_⟩
   rw[decide_eq_false (by omega)]
   refine iteF ?_
   obtain⟨w0,ew⟩:=ZeX (rs:=[115,116,111,111,100]) (m:=m) ex lm ok.rise
   have rz:=rwc
   rw[ew]at rz
   obtain⟨a1,b1,ez,ha1,hb1⟩:=ZeY rz
   have hz:=hc
   rw[ez]at hz
   have lo:(Zbq [108,97,115,116] l2 l m).length<=9000:=ZjW m4 (by omega)
   have lf:(Zbn [115,116,111,111,100] l2 l m).length<=9000:=ZjX m4 (by omega)
   have l1:=rwc.1
   have l2_:=rwg.1
   refine⟨_,_,rfl,.inl ⟨_,.mk hz,rfl⟩,ne_int ⟨false,rfl,iteF ⟨c,_,0,_,rfl,rfl,.mk hz,rfl,a1,_,1,_,rfl,rfl,.mk ha1,rfl,b1,_,0,_,rfl,rfl,.mk hb1,rfl,Zit ⟨false,rfl,iteF (Zai ?_)⟩⟩⟩⟩
   walk_at "rd"
   refine⟨c,rfl,⟨_,.mk hc⟩,CompRun.dataF (fun _=>true) (fun H y _=>GoodP l2 l H y) (fun _ _ _ _ k h=>h.mono k) (by omega) (.mk hc) (fun i H' Q' h s' q'=>q' _ (Same.refl _)) (fun i H' Q' h _ s' q'=>?_) (fun p1 ys1 H1 s1 n1 h1 e1 al1=>?_)⟩
   .walk_at "rd"
    refine⟨sz 2 (by decide),NewT.of fun wi H7 s7 n7 l7=>⟨sz 2 (by decide),NewT.of fun t8 H8 s8 n8 l8=>q' _ _ (s7.trans s8) ?_⟩⟩
    obtain⟨r,hr,r1,r2,e3,h3,h4⟩:=rwc.2 i _ (gd h)
    have sx:=s'.trans (s7.trans s8)
    refine⟨t8,r1,r2,wi,_,_,r,rfl,?_,sx _ _ h3,sx _ _ h4,s8 _ _ l7,ZnL ex (by omega) (nm hr)⟩
    rw[l8,e3]
   refine⟨g,rfl,⟨_,.mk (s1 _ _ hg)⟩,CompRun.dataF (fun _=>true) (fun H y _=>GoodP l2 l H y) (fun _ _ _ _ k h=>h.mono k) (by omega) (.mk (s1 _ _ hg)) (fun i H' Q' h s' q'=>q' _ (Same.refl _)) (fun i H' Q' h _ s' q'=>?_) (fun p2 ys2 H2 s2 n2 h2 e2 al2=>?_)⟩
   .walk_at "rd"
    refine⟨sz 2 (by decide),NewT.of fun wi H7 s7 n7 l7=>⟨sz 2 (by decide),NewT.of fun t8 H8 s8 n8 l8=>q' _ _ (s7.trans s8) ?_⟩⟩
    obtain⟨r,hr,r1,r2,e3,h3,h4⟩:=rwg.2 i _ (gd h)
    have sx:=s1.trans (s'.trans (s7.trans s8))
    refine⟨t8,r1,r2,wi,_,_,r,rfl,?_,sx _ _ h3,sx _ _ h4,s8 _ _ l7,ZnK ex lm (by omega) (by decide) (nm hr)⟩
    rw[l8,e3]
   rw[YDU.mpr (fun _ _=>rfl),YBD]at e1 e2
   refine⟨p1,p2,ys1,ys2,rfl,rfl,s2 _ _ h1,h2,sz _ (by omega),fun p3 n3=>?_⟩
   have s3:Same H2 (upd H2 p3 (.lst (ys1++ys2))):=Zap n3
   have h3:upd H2 p3 (.lst (ys1++ys2)) p3=some (.lst (ys1++ys2)):=Zad
   generalize upd H2 p3 (.lst (ys1++ys2))=H3 at s3 h3
   have al:∀i,i<(ys1++ys2).length->∃u v,∃(t r b wi:Addr) (A B:Q11) (row:Q11×List V),(ys1++ys2)[i]?=some (.ref t)/\u=.ref r/\v=.ref wi/\H3 t=some (.tup [u,v])/\H3 r=some (.tup [tx row.1,.ref b])/\H3 b=some (.tup row.2)/\H3 wi=some (.tup [tx A,tx B])/\ZhL l2 l A B row:=fun i hi=>by
    have g3:GoodP l2 l H3 ((ys1++ys2).getD i .non):=by
     rcases YAZ.mp (nm (gd hi)) with z | z
     .obtain⟨j,hj⟩:=YDA.mp z
      obtain⟨_,_,g1⟩:=al1 j _ hj
      exact g1.mono fun _ _ z=>s3 _ _ (s2 _ _ z)
     .obtain⟨j,hj⟩:=YDA.mp z
      obtain⟨_,_,g1⟩:=al2 j _ hj
      exact g1.mono fun _ _ z=>s3 _ _ z
    obtain⟨t,r,b,wi,A,B,row,e,k1,k2,k3,k4,gr⟩:=g3
    exact⟨_,_,t,r,b,wi,A,B,row,by rw[gd hi,e],rfl,rfl,k1,k2,k3,k4,gr⟩
   obtain⟨u,v,uv⟩:=ZmO al
   have len:(ys1++ys2).length<=18000:=by rw[YAE];omega
   refine⟨p3,rfl,⟨_,.mk h3⟩,CompRun.pairs u v (fun _=>.bl true) (by omega) (.mk h3) (fun i hi=>let ⟨t,_,_,_,_,_,_,k1,_,_,k2,_⟩:=uv i hi;⟨t,k1,k2⟩) (fun i H' Q' h s' q'=>?_) (fun p4 H4 s4 n4 h4=>?_)⟩
   .obtain⟨t,r,b,wi,A,B,row,_,e3,e4,_,k2,k3,k4,gr⟩:=uv i h
    rw[e3,e4]
    walk_at "rd"
    exact⟨r,b,wi,l2,l,A,B,row,rfl,s' _ _ k4,s' _ _ k2,s' _ _ k3,by omega,by omega,gr,fun H5 s5=>q' H5 s5⟩
   .refine⟨p4,(List.range (ys1++ys2).length).map fun _=>true,rfl,by rw[YBB];exact h4,?_⟩
    rw[show ((List.range (ys1++ys2).length).map fun _=>true).all id=true by simp]
    exact q H4 (s1.trans (s2.trans (s3.trans s4)))
theorem Zpd:FnScope ["thing","kinds"] ["thing","kinds"] (Zaj s_KJ):=by walk_at "sc"
theorem ZpS (T:TL K mg base a tb):FnOk P w K mg base CX0 4 a.f_KJ a.d_KJ ["thing","kinds"] (ZoH K a):=by
 refine T.f_KJ.ok Zpd (fun vs H Q E h=>?_) (fun cdv A outer s H vs Q E hr h=>?_)
 .obtain⟨_,_,rfl,_⟩:=h;rfl
 .obtain⟨l,m,rfl,hl,hk,q⟩:=h
  refine⟨_,(Zag (Za2 (Zdt (Zch (Zal (ZpM T) (hr.mono (by decide)) rfl T.m_KY T.f_KY.kp T.b_KY .nil Zaw (Zaa (pv 0) (Zaa (pv 1) Zae))))) (Zag Zc7) Zay)),?_⟩
  walk_at "rd"
  refine⟨l,m,rfl,hl,fun H2 s2=>⟨_,rfl,?_⟩⟩
  rw[hk,Bool.not_true]
  exact iteF (q H2 s2)
theorem Zlj:FnScope ["words","kinds","ahead","word"] ["words","kinds"] (Zaj s_KZ):=by walk_at "sc"
theorem ZpL (T:TL K mg base a tb):FnOk P w K mg base CX0 4 a.f_KZ a.d_KZ ["words","kinds"] (Zow K a):=by
 refine T.f_KZ.ok Zlj (fun vs H Q E h=>?_) (fun cdv A outer s H vs Q E hr h=>?_)
 .obtain⟨_,_,_,_,rfl,_⟩:=h;rfl
 .have hu64:=hr.units
  have hu1:=ZaH hr
  obtain⟨b,ws,l,m,rfl,hb,ok,lk,q⟩:=h
  refine⟨_,(Zab (ZaN (Zal (Zlz T) (hr.mono (by decide)) rfl T.m_KU T.f_KU.kp T.b_KU .nil Zaw (Zaa (pv 1) Zae)))
   (Zaf (Zab (Za2 (PW.pt (Zc6 (Zdt (Zch (Zan (Zb5 (K:=K) rfl) rfl T.z_isinstance ZbS (Zaa (pv 0) (Zaa (ZfY (v:=.ty "list") rfl T.z_list ZcW rfl) Zae))))) (Zcg (Zau Zhm (Zan (Zav (K:=K) rfl) rfl T.z_len ZaL (Zaa (pv 0) Zae)) (Zb8 rfl T.c_KO) (ZaA _))))) (Zag Zc7) Zay)
   (Zaf (Zab (Zax (i:=2) Zlj.nd rfl (Or.inl rfl) ZbQ)
   (Zaf (Zag (ZaZ YAp rfl (Zaz (K:=K) rfl (pv 0)) (Zam (i:=3) Zlj.nd rfl (Or.inl rfl))
   (Zab (Za2 (PW.pt (Zc6 (Zdt (Zch (Zal (ZlA T) (hr.mono (by decide)) rfl T.m_K7 T.f_K7.kp T.b_K7 .nil Zaw (Zaa (pv 3) (Zaa (pv 1) (Zaa (Zb8 rfl T.c_KF) Zae)))))) (Zc6 (Zau (Za4 (K:=K) rfl hu64) (pv 3) (ZaD (l:=[]) (by decide +kernel)) (ZaA _)) (Zcg (ZgD (ZkA hu1 (pv 3) (pv 2))))))) (Zag Zc7) Zay)
   (Zag (ZbP hu1 (pv 2) (pv 3) Zcu rfl))))))))))),?_⟩
  have sz:∀k:Nat,k<=1000->k<=sizeLine:=fun k h=>YAJ h (by rw[sizeLine_eq];decide)
  have ln:=lk.len ok
  have m4:=ok.m4
  walk_at "rd"
  refine⟨m,rfl,by omega,ok.k,fun H1 s1=>?_⟩
  have h1:=s1 _ _ hb
  show Zcq _ _ _ _
  refine Zai ?_
  walk_at "rd"
  refine⟨_,_,_,_,true,rfl,rfl,.ty (.seqL (.mk h1)),ZiJ,iteF ⟨_,_,rfl,.inl ⟨_,.mk h1,rfl⟩,ite2 (fun h=>absurd (of_decide_eq_true h) (by rw[YAB];omega)) (fun _=>Zai ?_)⟩⟩
  walk_at "rd"
  intro pd npd
  have s2:Same H1 (upd H1 pd (.dK [])):=Zap npd
  have l2:upd H1 pd (.dK []) pd=some (.dK []):=Zad
  generalize upd H1 pd (.dK [])=H2 at s2 l2
  refine Zai ?_
  walk_at "rd"
  refine⟨b,rfl,⟨_,.mk (s2 _ _ h1)⟩,ForRun.list (xs:=ws.map tx) (fun i U H'=>∃v3 kvs,U=[some (.ref b),some (tx m),some (.ref pd),v3]/\Same H1 H'/\H' pd=some (.dK kvs)/\kvs.length<=i/\∀w,(valV kvs (kTx w)).isSome=true↔w∈ws.take i) ⟨_,[],rfl,s2,l2,YAH _,fun w=>by rw[YCK];exact Iff.intro (fun z=>Bool.noConfusion z) (fun z=>nomatch z)⟩ (fun i U H' _ ⟨_,_,_,s,_⟩=>.mk (s _ _ h1)) ?_ ?_⟩
  .rintro i x U H3 hx ⟨v3,kvs,rfl,s3,h3,nk,hv⟩
   obtain⟨w_,hw,rfl⟩:=Zc2 hx
   have hlt:=(YAK.mp hw).1
   have mw:=YAT hw
   have w41:=lk.w41 ok mw
   have ni:w_∉ws.take i:=Zbs (lk.nd ok) hw
   walk_at "rd"
   refine⟨w_,m,41,rfl,by omega,fun H4 s4=>⟨_,rfl,?_⟩⟩
   rw[ZiP (by omega) (lk.wm ok mw)]
   refine iteF (.inl ⟨rfl,_,rfl,?_⟩)
   rw[YAL YAD,Zcm,decide_eq_false (lk.ne mw)]
   have h4:=s4 _ _ h3
   refine iteF ⟨pd,_,rfl,DGet.k (k:=kTx w_) h4,?_⟩
   have ev:(valV kvs (kTx w_)).isSome=false:=YCD.mpr fun z=>ni ((hv w_).mp z)
   rw[ev]
   refine iteF ⟨pd,_,rfl,DPut.k (k:=kTx w_) h4 (YAb (show _<1000 by omega) (sz 1000 (YAH _))),_,putK kvs (kTx w_) (.bl true),rfl,same_upd3 (s3.trans s4) npd,Zad,?_,fun w'=>?_⟩
   .have:=ZaK kvs (kTx w_) (.bl true);omega
   .rw[ZaU,ZaY hw,YAZ,YAR]
    by_cases e:w'=w_
    .rw[YAP (by rw[e])];exact Iff.intro (fun _=>.inr e) (fun _=>rfl)
    .rw[YAL (fun z=>e (ZaR z)),hv];exact Iff.intro .inl (fun z=>z.elim id (fun z=>absurd z e))
  .rintro U H3 ⟨v3,kvs,rfl,s3,h3,nk,hv⟩
   exact q H3 (s1.trans s3)
theorem Zpa:FnScope ["self","text","kinds"] ["self","text","kinds"] (Zaj s_KP):=by walk_at "sc"
theorem Zm7 (T:TL K mg base a tb):FnOk P w K mg base CX0 4 a.g_KP a.e_KP ["self","text","kinds"] (ZoE K a):=by
 refine T.fm_KP.ok Zpa (fun vs H Q E h=>?_) (fun cdv A outer s H vs Q E hr h=>?_)
 .obtain⟨_,_,_,_,rfl,_⟩:=h;rfl
 .obtain⟨p,dx,l,m,rfl,hp,ok,q⟩:=h
  refine⟨_,(Zab (ZaN (Zal (Zlz T) (hr.mono (by decide)) rfl T.m_KU T.f_KU.kp T.b_KU .nil Zaw (Zaa (pv 2) Zae)))
   (Zab (ZaN (Zal (Zp0 T) (hr.mono (by decide)) rfl T.m_K0 T.f_K0.kp T.b_K0 .nil Zaw (Zaa (pv 1) (Zaa (pv 2) (Zaa (Zb8 rfl T.c_KB) Zae)))))
   (Zag (ZaN (ZgF rfl T.m_LR T.cr_LR (Zm5 T) (hr.mono (by decide)) T.kp_KV T.b_KV .nil Zaw (Zaa (pv 0) (Zaa (pv 1) (Zaa (pv 2) Zae)))))))),?_⟩
  walk_at "rd"
  have m4:=ok.m4
  have l40:=ok.l40
  refine⟨m,rfl,by omega,ok.k,fun H1 s1=>?_⟩
  walk_at "rd?"
  refine⟨l,m,40,rfl,by omega,Znz ok,fun H2 s2=>?_⟩
  walk_at "rd?"
  exact⟨p,dx,_,l,m,rfl,.inl rfl,s1.trans s2 _ _ hp,fun H3 r k=>q H3 ⟨dx,r⟩ fun b o e ne=>k b o (s1.trans s2 _ _ e) ne⟩
theorem Zlk:FnScope ["self","longer","came","went"] ["self","longer"] (Zaj s_KS):=by walk_at "sc"
theorem Zm6 (T:TL K mg base a tb):FnOk P w K mg base CX0 4 a.g_KS a.e_KS ["self","longer"] (ZoC K a):=by
 refine T.fm_KS.ok Zlk (fun vs H Q E h=>?_) (fun cdv A outer s H vs Q E hr h=>?_)
 .obtain⟨_,_,_,_,_,_,rfl,_⟩:=h;rfl
 .obtain⟨p,la,da,s_,L,m,rfl,hp,hla,hL,ex,hm,ok,tk,q⟩:=h
  refine⟨_,(Zaf (Zab (Zax (i:=2) Zlk.nd rfl (Or.inl rfl) (Zal (Zm2 T) (hr.mono (by decide)) rfl T.m_LF T.f_LF.kp T.b_LF .nil Zaw (Zaa (ZaF (K:=K) rfl (pv 0) rfl) (Zaa (pv 1) (Zaa (ZaF (K:=K) rfl (pv 0) rfl) (Zaa (ZaD (l:=[102,105,114,115,116]) (by decide +kernel)) Zae))))))
   (Zaf (Zab (Zax (i:=3) Zlk.nd rfl (Or.inl rfl) (Zal (Zm3 T) (hr.mono (by decide)) rfl T.m_LC T.f_LC.kp T.b_LC .nil Zaw (Zaa (ZaF (K:=K) rfl (pv 0) rfl) (Zaa (pv 1) (Zaa (ZaD (l:=[115,116,97,110,100,115]) (by decide +kernel)) Zae)))))
   (Zaf (Zag (Zat (ZbF (pv 0) T.cl_LI T.me_KG (Zna T) (hr.mono (by decide)) T.b_KG .nil Zaw (Zaa (pv 1) (Zaa (pv 2) (Zaa (pv 3) Zae))))))))))),?_⟩
  obtain⟨dx,f⟩:=hp
  have m4:=ok.m4
  walk_at "rd"
  refine Zai ?_
  walk_at "rd"
  refine⟨p,_,dx,_,_,rfl,f,T.cl_LI,T.n_Strip_own_text,Za8,p,_,dx,_,_,rfl,f,T.cl_LI,T.n_Strip_own_kinds,Zdp,?_⟩
  refine⟨s_,L,_,m,rfl,by omega,ex,hm,ok.rise,m4,tk,fun ys c H1 sl1 tk1 n1 l1 r1=>?_⟩
  refine Zai ?_
  walk_at "rd"
  have f1:=sl1 _ _ f rfl
  refine⟨p,_,dx,_,_,rfl,f1,T.cl_LI,T.n_Strip_own_text,Za8,?_⟩
  refine⟨s_,L,_,m,rfl,by omega,ex,hm,ok.rise,tk1,fun zs g H2 sl2 tk2 n2 l2 r2=>?_⟩
  refine Zai ?_
  walk_at "rd"
  have f2:=sl2 _ _ f1 rfl
  have l12:=sl2 _ _ l1 rfl
  have la2:=sl2 _ _ (sl1 _ _ hla rfl) rfl
  have sl02:=sl1.trans sl2
  have ncg:c≠g:=n2.ne l1 rfl
  refine⟨p,dx,_,rfl,f2,sN (by decide +kernel),p,la,da,c,g,s_,L,m,Zar s_ m,Zar L m,ys,zs,_,_,rfl,⟨dx,f2⟩,la2,l12,r1.l sl2,l2,r2,ZaE ok.rise,ZaE ok.rise,?_,?_,?_,?_,?_,?_,?_,?_,tk2,?_⟩
  .rw[Zbg];exact ZbM ((ZaE ok.rise).filter _)
  .intro w;rw[Zbg,Zca]
  .intro w;rw[Zbh,Zcb]
  .exact YAJ (Zbd m4 (by have:=ex.len;omega)) (by decide)
  .rw[<-YAB (f:=(·.1)),Zbg]
   exact YAJ (YAe _ _) (YAJ (Zbd m4 (by omega)) (by decide))
  .rw[<-YAB (f:=(·.1)),Zbh]
   exact YAJ (YAe _ _) (YAJ (Zbd m4 (by have:=ex.len;omega)) (by decide))
  .intro w hw;have:=Zcz (by have:=ex.len;omega) hw;omega
  .intro w hw;have:=Zcz hL hw;omega
  .intro t la3 H3 ch3 f3 nl3 e3 t3 tk3
   have np:∀us,H2 p≠some (.tup us):=fun us z=>by rw[f2]at z;cases z
   have ncp:p≠c:=n1.ne f rfl
   have ngp:p≠g:=n2.ne f1 rfl
   refine q t c g la3 H3 (sl02.chg.trans ch3) f3 e3 ⟨t3,⟨ys,ch3 _ _ l12 (by simpa using YAv ncp) rfl,(r1.l sl2).chg ch3 (fun b hb us=>by rw[YAR.mp hb];exact np us)⟩,⟨zs,ch3 _ _ l2 (by simpa using YAv ngp) rfl,r2.chg ch3 (fun b hb us=>by rw[YAR.mp hb];exact np us)⟩,n1,n2.l sl1,nl3.l sl02,ncg,nl3.ne l12 rfl,nl3.ne l2 rfl⟩ tk3
theorem Zll:FnScope ["self","lesser","came","went"] ["self","lesser"] (Zaj s_KH):=by walk_at "sc"
theorem Zm9 (T:TL K mg base a tb):FnOk P w K mg base CX0 4 a.g_KH a.e_KH ["self","lesser"] (ZoJ K a):=by
 refine T.fm_KH.ok Zll (fun vs H Q E h=>?_) (fun cdv A outer s H vs Q E hr h=>?_)
 .obtain⟨_,_,_,_,_,_,rfl,_⟩:=h;rfl
 .obtain⟨p,la,da,s_,L,m,rfl,hp,hla,hL,ex,hm,ok,tk,q⟩:=h
  refine⟨_,(Zab (Zax (i:=2) Zll.nd rfl (Or.inl rfl) (Zal (Zm3 T) (hr.mono (by decide)) rfl T.m_LC T.f_LC.kp T.b_LC .nil Zaw (Zaa (pv 1) (Zaa (ZaF (K:=K) rfl (pv 0) rfl) (Zaa (ZaD (l:=[115,116,111,111,100]) (by decide +kernel)) Zae)))))
   (Zab (Zax (i:=3) Zll.nd rfl (Or.inl rfl) (Zal (Zm2 T) (hr.mono (by decide)) rfl T.m_LF T.f_LF.kp T.b_LF .nil Zaw (Zaa (pv 1) (Zaa (ZaF (K:=K) rfl (pv 0) rfl) (Zaa (ZaF (K:=K) rfl (pv 0) rfl) (Zaa (ZaD (l:=[108,97,115,116]) (by decide +kernel)) Zae))))))
   (Zag (Zat (ZbF (pv 0) T.cl_LI T.me_KG (Zna T) (hr.mono (by decide)) T.b_KG .nil Zaw (Zaa (pv 1) (Zaa (pv 2) (Zaa (pv 3) Zae)))))))),?_⟩
  obtain⟨dx,f⟩:=hp
  have m4:=ok.m4
  walk_at "rd"
  refine⟨p,_,dx,_,_,rfl,f,T.cl_LI,T.n_Strip_own_text,Za8,?_⟩
  refine⟨s_,L,_,m,rfl,by omega,ex,hm,ok.rise,tk,fun ys c H1 sl1 tk1 n1 l1 r1=>?_⟩
  walk_at "rd?"
  have f1:=sl1 _ _ f rfl
  refine⟨p,_,dx,_,_,rfl,f1,T.cl_LI,T.n_Strip_own_text,Za8,p,_,dx,_,_,rfl,f1,T.cl_LI,T.n_Strip_own_kinds,Zdp,?_⟩
  refine⟨s_,L,_,m,rfl,by omega,ex,hm,ok.rise,m4,tk1,fun zs g H2 sl2 tk2 n2 l2 r2=>?_⟩
  walk_at "rd?"
  have f2:=sl2 _ _ f1 rfl
  have l12:=sl2 _ _ l1 rfl
  have la2:=sl2 _ _ (sl1 _ _ hla rfl) rfl
  have sl02:=sl1.trans sl2
  have ncg:c≠g:=n2.ne l1 rfl
  refine⟨p,dx,_,rfl,f2,sN (by decide +kernel),p,la,da,c,g,L,s_,m,Zar L m,Zar s_ m,ys,zs,_,_,rfl,⟨dx,f2⟩,la2,l12,r1.l sl2,l2,r2,ZaE ok.rise,ZaE ok.rise,?_,?_,?_,?_,?_,?_,?_,?_,tk2,?_⟩
  .rw[Zbh];exact ZbM ((ZaE ok.rise).filter _)
  .intro w;rw[Zbh,Zcb]
  .intro w;rw[Zbg,Zca]
  .exact YAJ (Zbd m4 (by omega)) (by decide)
  .rw[<-YAB (f:=(·.1)),Zbh]
   exact YAJ (YAe _ _) (YAJ (Zbd m4 (by have:=ex.len;omega)) (by decide))
  .rw[<-YAB (f:=(·.1)),Zbg]
   exact YAJ (YAe _ _) (YAJ (Zbd m4 (by omega)) (by decide))
  .intro w hw;have:=Zcz hL hw;omega
  .intro w hw;have:=Zcz (by have:=ex.len;omega) hw;omega
  .intro t la3 H3 ch3 f3 nl3 e3 t3 tk3
   have np:∀us,H2 p≠some (.tup us):=fun us z=>by rw[f2]at z;cases z
   have ncp:p≠c:=n1.ne f rfl
   have ngp:p≠g:=n2.ne f1 rfl
   refine q t c g la3 H3 (sl02.chg.trans ch3) f3 e3 ⟨t3,⟨ys,ch3 _ _ l12 (by simpa using YAv ncp) rfl,(r1.l sl2).chg ch3 (fun b hb us=>by rw[YAR.mp hb];exact np us)⟩,⟨zs,ch3 _ _ l2 (by simpa using YAv ngp) rfl,r2.chg ch3 (fun b hb us=>by rw[YAR.mp hb];exact np us)⟩,n1,n2.l sl1,nl3.l sl02,ncg,nl3.ne l12 rfl,nl3.ne l2 rfl⟩ tk3
theorem Zo8:FnScope ["self","kinds"] ["self","kinds"] (Zaj s_KT):=by walk_at "sc"
theorem ZpO (T:TL K mg base a tb):FnOk P w K mg base CX0 4 a.g_KT a.e_KT ["self","kinds"] (ZoB K a):=by
 refine T.fm_KT.ok Zo8 (fun vs H Q E h=>?_) (fun cdv A outer s H vs Q E hr h=>?_)
 .obtain⟨_,_,_,rfl,_⟩:=h;rfl
 .obtain⟨p,dx,m,rfl,hp,kok,q⟩:=h
  refine⟨_,(Zab (ZaN (Zal (Zlz T) (hr.mono (by decide)) rfl T.m_KU T.f_KU.kp T.b_KU .nil Zaw (Zaa (pv 1) Zae)))
   (Zaf (Zab (ZaN (ZgF rfl T.m_LR T.cr_LR (Zm5 T) (hr.mono (by decide)) T.kp_KV T.b_KV .nil Zaw (Zaa (pv 0) (Zaa (ZaD (l:=[]) (by decide +kernel)) (Zaa (pv 1) Zae)))))
   (Zaf (Zab (ZdZ (pv 0) (Za5 (Zc3 rfl) rfl T.z_list ZcW (Zaa (pv 1) Zae)) rfl)
   (Zaf (Zag (ZdZ (pv 0) (Zci Zae) rfl)))))))),?_⟩
  walk_at "rd"
  have m4:=kok.m4
  refine⟨m,rfl,by omega,kok.k,fun H1 s1=>?_⟩
  show Zcq _ _ _ _
  refine Zai ?_
  walk_at "rd"
  refine⟨p,dx,_,[],m,rfl,.inr rfl,s1 _ _ hp,fun H2 f2 k2=>?_⟩
  show Zcq _ _ _ _
  refine Zai ?_
  walk_at "rd"
  refine⟨m,rfl,by omega,NewL.of fun la H3 s3 n3 l3=>?_⟩
  have f3:=s3 _ _ f2
  refine⟨p,_,dx,_,rfl,f3,T.cl_LI,T.n_Strip_own_lacking,(by show 2<1000;decide),?_⟩
  refine Zai ?_
  walk_at "rd"
  refine⟨YAq _,NewL.of fun da H4 s4 n4 l4=>?_⟩
  have nla:p≠la:=Zah f2 n3
  have kr:=kok.kinds
  have f4:=s4 _ _ (Zad (H:=H3) (a:=p) (o:=.ins a.c_LI dx (putF (Str.ofString "own_lacking") (.ref la) (putF "own_kinds" (tx m) (putF "own_text" (tx []) [])))))
  have l4':upd H3 p (.ins a.c_LI dx (putF (Str.ofString "own_lacking") (.ref la) (putF "own_kinds" (tx m) (putF "own_text" (tx []) [])))) la=some (.lst ((signs m).map tx)):=by rw[Zac (YAv nla)];exact l3
  have nda:p≠da:=Zah Zad n4
  have ned:la≠da:=Zah l4' n4
  have n3':H3 da=none:=by rw[Zac (YAv nda)]at n4;exact n4
  have back:∀b,b≠p->H2 b=none->H b=none:=fun b hb e=>by
   cases z:H1 b with
   | none=>exact s1.free z
   | some o=>rw[k2 b o z hb]at e;cases e
  refine⟨p,_,dx,_,rfl,f4,T.cl_LI,T.n_Strip_own_deeds,(by show 3<1000;decide),q la da _ ⟨⟨dx,?_⟩,?_,⟨[],?_,rfl,fun i y h=>by simp at h⟩,.nil,kr,ned⟩ (back la (YAv nla) n3) (back da (YAv nda) (s3.free n3')) fun b o hb nb=>?_⟩
  .rw[Zad];exact congrArg (fun z=>some (HO.ins a.c_LI dx z)) Zkw
  .rw[Zac (YAv nla),ZjZ kr.rise];exact s4 _ _ l4'
  .rw[Zac (YAv nda)];exact l4
  .rw[Zac nb];exact s4 _ _ (by rw[Zac nb];exact s3 _ _ (k2 _ _ (s1 _ _ hb) nb))
theorem Zo4:FnScope ["self","letter"] ["self","letter"] (Zaj s_KX):=by walk_at "sc"
theorem ZpN (T:TL K mg base a tb):FnOk P w K mg base CX0 5 a.g_KX a.e_KX ["self","letter"] (Zmv K a):=by
 refine T.fm_KX.ok Zo4 (fun vs H Q E h=>?_) (fun cdv A outer s H vs Q E hr h=>?_)
 .obtain⟨_,_,_,_,_,_,_,rfl,_⟩:=h;rfl
 .obtain⟨p,la,da,l,m,ds,c0,rfl,hp,hd,tk,hc,hl,q⟩:=h
  refine⟨_,(Zaf (Zab (ZaN (Zal (ZpS T) (hr.mono (by decide)) rfl T.m_KJ T.f_KJ.kp T.b_KJ .nil Zaw (Zaa (pv 1) (Zaa (ZaF (K:=K) rfl (pv 0) rfl) Zae))))
   (Zab (Za2 (Zau Zpy (Zan (Zav (K:=K) rfl) rfl T.z_len ZaL (Zaa (ZaF (K:=K) rfl (pv 0) rfl) Zae)) (Zb8 rfl T.c_KB) (ZaA _)) (Zaf (Zag Zc7)) Zay)
   (Zaf (Zab (ZaN (ZdS YBN YBl YBk Zbl (ZaF (K:=K) rfl (pv 0) rfl) (Zaa (Zbp (Zaa (ZaD (l:=[112,117,116]) (by decide +kernel)) (Zaa (pv 1) Zae))) Zae)))
   (Zag (Zat (ZbF (pv 0) T.cl_LI T.me_KS (Zm6 T) (hr.mono (by decide)) T.b_KS .nil Zaw (Zaa (ZaI Zbk (ZaF (K:=K) rfl (pv 0) rfl) (pv 1)) Zae))))))))),?_⟩
  have sz:∀k:Nat,k<=30000->k<=sizeLine:=fun k h=>YAJ h (by rw[sizeLine_eq];decide)
  obtain⟨⟨dx,f⟩,hk,⟨ts,d1,d2⟩,run,ok,nld⟩:=id hp
  have m4:=ok.m4
  have l40:=run.len
  have tl:=d2.1
  have npd:p≠da:=fun z=>by rw[z,d1]at f;cases f
  walk_at "rd"
  refine Zai ?_
  walk_at "rd"
  refine⟨p,_,dx,_,_,rfl,f,T.cl_LI,T.n_Strip_own_kinds,Zdp,?_⟩
  refine⟨[c0],m,rfl,by simp,ZlM hc,fun H1 s1=>?_⟩
  walk_at "rd?"
  refine⟨p,_,dx,_,_,rfl,s1 _ _ f,T.cl_LI,T.n_Strip_own_text,Za8,_,_,rfl,Zby (by omega),?_⟩
  rw[decide_eq_false (by omega)]
  refine iteF ?_
  refine Zai ?_
  walk_at "rd"
  refine⟨p,_,dx,_,_,rfl,s1 _ _ f,T.cl_LI,T.n_Strip_own_deeds,ZbL,.inl ⟨rfl,_,.mk (s1 _ _ d1)⟩,sz _ (by decide),NewT.of fun td H2 s2 n2 l2=>?_⟩
  have s02:=s1.trans s2
  refine⟨da,_,_,rfl,rfl,s02 _ _ d1,by rw[tl];exact sz _ (by omega),?_⟩
  have c3:Chg [da] H (upd H2 da (.lst (ts++[.ref td]))):=s02.chg.trans (Chg.upd (by simp))
  have d3:upd H2 da (.lst (ts++[.ref td])) da=some (.lst (ts++[.ref td])):=Zad
  have t3:upd H2 da (.lst (ts++[.ref td])) td=some (.tup (Zfu (true,c0))):=by
   rw[Zac (fun z=>by rw[z,s02 _ _ d1]at l2;cases l2)]
   exact l2
  have tk3:=(tk.same s02).upd (o':=.lst (ts++[.ref td])) (s02 _ _ d1) rfl rfl
  generalize upd H2 da (.lst (ts++[.ref td]))=H3 at c3 d3 t3 tk3
  have e3:DeedsA H3 (ts++[.ref td]) (ds++[(true,c0)]):=(d2.chg c3 (fun b hb us z=>by rw[YAR.mp hb,d1]at z;cases z)).snoc t3
  have f3:=c3 _ _ f (by simpa using npd) rfl
  have k3:=c3 _ _ hk (by simpa using nld) rfl
  have r3:=run.put hc hl
  refine⟨p,dx,_,rfl,f3,sN (by decide +kernel),p,_,dx,_,_,rfl,f3,T.cl_LI,T.n_Strip_own_text,Za8,l,[c0],rfl,rfl,sz _ (by rw[YAg];omega),?_⟩
  refine⟨p,la,da,l,l++[c0],m,rfl,⟨dx,f3⟩,k3,r3.len,.inl ⟨c0,rfl⟩,r3.mem,ok,tk3,fun t c g la2 H4 ch f4 l4 an tk4=>?_⟩
  obtain⟨q1,q2,q3⟩:=Zde hp c3 d3 e3 ch f4 l4 an r3
  exact q t c g la2 H4 q1 q2 q3 tk4
theorem Zo9:FnScope ["self"] ["self"] (Zaj s_KR):=by walk_at "sc"
theorem ZpP (T:TL K mg base a tb):FnOk P w K mg base CX0 5 a.g_KR a.e_KR ["self"] (Zmw K a):=by
 refine T.fm_KR.ok Zo9 (fun vs H Q E h=>?_) (fun cdv A outer s H vs Q E hr h=>?_)
 .obtain⟨_,_,_,_,_,_,_,rfl,_⟩:=h;rfl
 .have hu64:=hr.units
  obtain⟨p,la,da,c0,l0,m,ds,rfl,hp,hd,tk,q⟩:=h
  refine⟨_,(Zaf (Zab (Za2 (Zau (Za4 (K:=K) rfl hu64) (ZaF (K:=K) rfl (pv 0) rfl) (ZaD (l:=[]) (by decide +kernel)) (ZaA _)) (Zag Zc7) Zay)
   (Zaf (Zab (ZaN (ZdS YBN YBl YBk Zbl (ZaF (K:=K) rfl (pv 0) rfl) (Zaa (Zbp (Zaa (ZaD (l:=[100,114,111,112]) (by decide +kernel)) (Zaa (Zbj ZlJ (ZaF (K:=K) rfl (pv 0) rfl) Zak (fun _ _=>rfl)) Zae))) Zae)))
   (Zag (Zat (ZbF (pv 0) T.cl_LI T.me_KH (Zm9 T) (hr.mono (by decide)) T.b_KH .nil Zaw (Zaa (ZaM Zco (ZaF (K:=K) rfl (pv 0) rfl) (ZaS Zak) Zbc) Zae)))))))),?_⟩
  have sz:∀k:Nat,k<=30000->k<=sizeLine:=fun k h=>YAJ h (by rw[sizeLine_eq];decide)
  obtain⟨⟨dx,f⟩,hk,⟨ts,d1,d2⟩,run,ok,nld⟩:=id hp
  have m4:=ok.m4
  have l40:=run.len
  have tl:=d2.1
  have npd:p≠da:=fun z=>by rw[z,d1]at f;cases f
  walk_at "rd"
  refine Zai ?_
  walk_at "rd"
  refine⟨p,_,dx,_,_,rfl,f,T.cl_LI,T.n_Strip_own_text,Za8,.inl ⟨rfl,?_⟩⟩
  rw[YAL YAD,Zcm]
  rw[decide_eq_false (by simp)]
  refine⟨_,rfl,iteF ?_⟩
  refine Zai ?_
  walk_at "rd"
  refine⟨p,_,dx,_,_,rfl,f,T.cl_LI,T.n_Strip_own_deeds,ZbL,.inl ⟨rfl,_,.mk d1⟩,p,_,dx,_,_,rfl,f,T.cl_LI,T.n_Strip_own_text,Za8,c0::l0,0,c0,rfl,rfl,sz _ (by omega),atI0,sz _ (by decide),NewT.of fun td H2 s2 n2 l2=>?_⟩
  refine⟨da,_,_,rfl,rfl,s2 _ _ d1,by rw[tl];exact sz _ (by omega),?_⟩
  have c3:Chg [da] H (upd H2 da (.lst (ts++[.ref td]))):=s2.chg.trans (Chg.upd (by simp))
  have d3:upd H2 da (.lst (ts++[.ref td])) da=some (.lst (ts++[.ref td])):=Zad
  have t3:upd H2 da (.lst (ts++[.ref td])) td=some (.tup (Zfu (false,c0))):=by
   rw[Zac (fun z=>by rw[z,s2 _ _ d1]at l2;cases l2)]
   exact l2
  have tk3:=(tk.same s2).upd (o':=.lst (ts++[.ref td])) (s2 _ _ d1) rfl rfl
  generalize upd H2 da (.lst (ts++[.ref td]))=H3 at c3 d3 t3 tk3
  have e3:DeedsA H3 (ts++[.ref td]) (ds++[(false,c0)]):=(d2.chg c3 (fun b hb us z=>by rw[YAR.mp hb,d1]at z;cases z)).snoc t3
  have f3:=c3 _ _ f (by simpa using npd) rfl
  have k3:=c3 _ _ hk (by simpa using nld) rfl
  refine⟨p,dx,_,rfl,f3,sN (by decide +kernel),p,_,dx,_,_,rfl,f3,T.cl_LI,T.n_Strip_own_text,Za8,_,rfl,c0::l0,rfl,sz _ (by omega),?_⟩
  rw[ZcV]
  refine⟨p,la,da,l0,c0::l0,m,rfl,⟨dx,f3⟩,k3,l40,.inr ⟨c0,rfl⟩,run.mem,ok,tk3,fun t c g la2 H4 ch f4 l4 an tk4=>?_⟩
  obtain⟨q1,q2,q3⟩:=Zde hp c3 d3 e3 ch f4 l4 an run.drop
  exact q t c g la2 H4 q1 q2 q3 tk4
theorem Zmy:FnScope ["self","deed"] ["self"] (Zaj s_KQ):=by walk_at "sc"
theorem ZpQ (T:TL K mg base a tb):FnOk P w K mg base CX0 5 a.g_KQ a.e_KQ ["self"] (ZoD K a):=by
 refine T.fm_KQ.ok Zmy (fun vs H Q E h=>?_) (fun cdv A outer s H vs Q E hr h=>?_)
 .obtain⟨_,_,_,_,_,_,rfl,_⟩:=h;rfl
 .have hu64:=hr.units
  obtain⟨p,la,da,l,m,ds,rfl,hp,hd,tk,q⟩:=h
  refine⟨_,(Zaf (Zab (Za2 (Zau (Za4 (K:=K) rfl hu64) (Zan (Zav (K:=K) rfl) rfl T.z_len ZaL (Zaa (ZaF (K:=K) rfl (pv 0) rfl) Zae)) Zak (ZaA _)) (Zag Zc7) Zay)
   (Zaf (Zab (Zax (i:=1) Zmy.nd rfl (Or.inl rfl) (ZmT YBN PySem.F.slot_list_pop PySem.F.type_list_pop Znj (ZaF (K:=K) rfl (pv 0) rfl)))
   (Zaf (Zab (Za2 (Zau (Za4 (K:=K) rfl hu64) (Zbj (Za0 (K:=K) rfl) (pv 1) Zak (fun _ _=>rfl)) (ZaD (l:=[112,117,116]) (by decide +kernel)) (ZaA _)) (Zag (Zat (ZbF (pv 0) T.cl_LI T.me_KH (Zm9 T) (hr.mono (by decide)) T.b_KH .nil Zaw (Zaa (ZaM Zco (ZaF (K:=K) rfl (pv 0) rfl) Zbc (ZaS (ZjE Zgp Zak))) Zae)))) Zay)
   (Zag (Zat (ZbF (pv 0) T.cl_LI T.me_KS (Zm6 T) (hr.mono (by decide)) T.b_KS .nil Zaw (Zaa (ZaI Zbk (Zbj (Za0 (K:=K) rfl) (pv 1) Zak (fun _ _=>rfl)) (ZaF (K:=K) rfl (pv 0) rfl)) Zae)))))))))),?_⟩
  have sz:∀k:Nat,k<=30000->k<=sizeLine:=fun k h=>YAJ h (by rw[sizeLine_eq];decide)
  obtain⟨⟨dx,f⟩,hk,⟨ts,d1,d2⟩,run,ok,nld⟩:=id hp
  have m4:=ok.m4
  have l40:=run.len
  have tl:=d2.1
  have npd:p≠da:=fun z=>by rw[z,d1]at f;cases f
  walk_at "rd"
  refine Zai ?_
  walk_at "rd"
  refine⟨p,_,dx,_,_,rfl,f,T.cl_LI,T.n_Strip_own_deeds,ZbL,_,_,rfl,.inl ⟨_,.mk d1,rfl⟩,.inl ⟨rfl,?_⟩⟩
  rw[YAL YAD]
  have pop:∀(ds0:List (Bool×Nat)) (d:Bool×Nat),ds=ds0++[d]->∃ts' td,ts=ts'++[.ref td]/\H td=some (.tup (Zfu d))/\DeedsA H ts' ds0:=fun ds0 d e=>(e▸d2).init
  have ne0:ds≠[]->decide (V.int ((ts.length:Nat):Int)=V.int 0)=false:=fun h=>decide_eq_false fun e=>by
   injection e with e
   rw[tl]at e
   exact h (YBo.mp (by omega))
  have go:∀(ds0:List (Bool×Nat)) (d:Bool×Nat),ds=ds0++[d]->∃td H3 ts',Chg [da] H H3/\H3 da=some (.lst ts')/\DeedsA H3 ts' ds0/\H3 td=some (.tup (Zfu d))/\TT a H3/\ts[ts.length-1]?=some (.ref td)/\upd H da (.lst ts.dropLast)=H3:=fun ds0 d e=>by
   obtain⟨ts',td,rfl,h1,h2⟩:=pop ds0 d e
   refine⟨td,_,ts',Chg.upd (by simp),by rw[Zad,YBy],?_,?_,tk.upd d1 rfl rfl,by simp,rfl⟩
   .exact h2.chg (S:=[da]) (Chg.upd (by simp)) (fun b hb us z=>by rw[YAR.mp hb,d1]at z;cases z)
   .rw[Zac (fun z=>by rw[z,d1]at h1;cases h1)];exact h1
  rcases q with⟨ds0,c0,l0,e0,rfl,q⟩|⟨ds0,c0,e0,q⟩
  .rw[ne0 (by rw[e0];simp)]
   refine⟨_,rfl,iteF ?_⟩
   refine Zai ?_
   walk_at "rd"
   obtain⟨td,H3,ts',c3,d3,e3,t3,tk3,hy,eH⟩:=go ds0 (true,c0) e0
   refine⟨p,_,dx,_,_,rfl,f,T.cl_LI,T.n_Strip_own_deeds,ZbL,.inl ⟨rfl,_,.mk d1⟩,da,_,_,rfl,rfl,d1,hy,?_⟩
   rw[eH]
   refine Zai ?_
   walk_at "rd"
   have f3:=c3 _ _ f (by simpa using npd) rfl
   have k3:=c3 _ _ hk (by simpa using nld) rfl
   have run0:Run m ds0 l0:=by
    obtain⟨ds1,c1,⟨e1,l1,e2,r1⟩|⟨e1,_⟩⟩:=run.last (by rw[e0];simp)
    .rw[e0]at e1
     have e3:=List.append_inj' e1 rfl
     have e4:=List.append_inj' e2 rfl
     rw[e3.1,e4.1];exact r1
    .rw[e0]at e1
     have e3:=(List.append_inj' e1 rfl).2
     cases e3
   refine⟨td,_,_,_,rfl,rfl,.mk t3,atI0,.inl ⟨rfl,true,?_,iteT ?_⟩⟩
   .rw[YAL YAD];exact congrArg V.bl (decide_eq_true rfl)
   .refine⟨p,dx,_,rfl,f3,sN (by decide +kernel),p,_,dx,_,_,rfl,f3,T.cl_LI,T.n_Strip_own_text,Za8,_,rfl,l0++[c0],rfl,sz _ (by omega),?_⟩
    rw[ZeI,YBy]
    refine⟨p,la,da,l0,l0++[c0],m,rfl,⟨dx,f3⟩,k3,l40,.inl ⟨c0,rfl⟩,run.mem,ok,tk3,fun t c g la2 H4 ch f4 l4 an tk4=>?_⟩
    obtain⟨q1,q2,q3⟩:=Zde hp c3 d3 e3 ch f4 l4 an run0
    exact q t c g la2 H4 q1 q2 q3 tk4
  .rw[ne0 (by rw[e0];simp)]
   refine⟨_,rfl,iteF ?_⟩
   refine Zai ?_
   walk_at "rd"
   obtain⟨td,H3,ts',c3,d3,e3,t3,tk3,hy,eH⟩:=go ds0 (false,c0) e0
   refine⟨p,_,dx,_,_,rfl,f,T.cl_LI,T.n_Strip_own_deeds,ZbL,.inl ⟨rfl,_,.mk d1⟩,da,_,_,rfl,rfl,d1,hy,?_⟩
   rw[eH]
   refine Zai ?_
   walk_at "rd"
   have f3:=c3 _ _ f (by simpa using npd) rfl
   have k3:=c3 _ _ hk (by simpa using nld) rfl
   have run0:Run m ds0 (c0::l):=by
    obtain⟨ds1,c1,⟨e1,l1,e2,r1⟩|⟨e1,r1⟩⟩:=run.last (by rw[e0];simp)
    .rw[e0]at e1
     have e3:=(List.append_inj' e1 rfl).2
     cases e3
    .rw[e0]at e1
     have e3:=List.append_inj' e1 rfl
     have e4:=e3.2
     injection e4 with e4 _
     injection e4 with _ e4
     rw[e3.1,e4];exact r1
   have l41:=run0.len
   rw[YAk]at l41
   refine⟨td,_,_,_,rfl,rfl,.mk t3,atI0,.inl ⟨rfl,false,?_,iteF ?_⟩⟩
   .rw[YAL YAD];exact congrArg V.bl (show decide (tx DROP=tx [112,117,116])=false by rw[Zcm];decide)
   .refine⟨p,dx,_,rfl,f3,sN (by decide +kernel),td,_,_,_,rfl,rfl,.mk t3,rfl,p,_,dx,_,_,rfl,f3,T.cl_LI,T.n_Strip_own_text,Za8,[c0],l,rfl,rfl,sz _ (by rw[YAg];omega),?_⟩
    refine⟨p,la,da,l,c0::l,m,rfl,⟨dx,f3⟩,k3,run0.len,.inr ⟨c0,rfl⟩,run0.mem,ok,tk3,fun t c g la2 H4 ch f4 l4 an tk4=>?_⟩
    obtain⟨q1,q2,q3⟩:=Zde hp c3 d3 e3 ch f4 l4 an run0
    exact q t c g la2 H4 q1 q2 q3 tk4
theorem Zmz:FnScope ["words","kinds","text","word"] ["words","kinds","text"] (Zaj s_K9):=by walk_at "sc"
theorem ZpV (T:TL K mg base a tb):FnOk P w K mg base CX0 6 a.f_K9 a.d_K9 ["words","kinds","text"] (ZoO K a):=by
 refine T.f_K9.ok Zmz (fun vs H Q E h=>?_) (fun cdv A outer s H vs Q E hr h=>?_)
 .obtain⟨_,_,_,_,rfl,_⟩:=h;rfl
 .obtain⟨b,ws,l,m,rfl,hb,ok,lk,q⟩:=h
  refine⟨_,(Zag (ZaZ YAp rfl (Zaz (K:=K) rfl (ZaW (ZfX T.mk_LH (Zm7 T) (hr.mono (by decide)) rfl T.m_LH T.b_KP .nil Zaw (Zaa (pv 2) (Zaa (pv 1) Zae))) T.cl_LH T.me_Plain_lacking (Znb T) (hr.mono (by decide)) T.b_KE .nil Zaw)) (Zam (i:=3) Zmz.nd rfl (Or.inl rfl))
   (Zag (Za2 (Zch (Zal (Zm4 T) (hr.mono (by decide)) rfl T.m_LA T.f_LA.kp T.b_LA .nil Zaw (Zaa (pv 0) (Zaa (pv 3) Zae)))) (Zag Zc7) Zay)))),?_⟩
  have ln:=lk.len ok
  walk_at "rd"
  intro pr dr npr ndr ner
  refine⟨pr,dr,l,m,rfl,Zad,ok,fun H1 r1 k1=>⟨rfl,?_⟩⟩
  have s1:Same H H1:=fun b o e=>k1 b o (by rw[Zac (Zah e npr),Zac (Zah e ndr)];exact e) (Zah e npr)
  obtain⟨d1,r1'⟩:=id r1
  refine⟨pr,d1,_,rfl,r1',ZcS (by decide +kernel) (by decide +kernel),pr,l,m,rfl,r1,ok,fun qw H2 s2 e2=>?_⟩
  refine⟨qw,rfl,⟨_,.mk e2⟩,ForRun.list (xs:=(Zar l m).map tx) (fun i U H'=>∃v3,U=[some (.ref b),some (tx m),some (tx l),v3]/\Same H2 H') ⟨_,rfl,Same.refl _⟩ (fun i U H' _ ⟨_,_,s'⟩=>.mk (s' _ _ e2)) ?_ ?_⟩
  .rintro i x U H3 hx ⟨v3,rfl,s3⟩
   obtain⟨w_,hw,rfl⟩:=Zc2 hx
   have mw:=lk.mem.mpr (YAT hw)
   have w41:=lk.w41 ok mw
   walk_at "rd"
   refine⟨b,ws,w_,rfl,s3 _ _ (s2 _ _ (s1 _ _ hb)),by omega,by omega,fun H4 s4=>⟨_,rfl,ite2 (fun h=>?_) (fun _=>⟨_,rfl,s3.trans s4⟩)⟩⟩
   exact(Zgi.mp h) w_ mw (Inf.refl _)
  .rintro U H3 ⟨v3,rfl,s3⟩
   exact q H3 ((s1.trans s2).trans s3)
theorem Zh5:FnScope ["_law_strip","_law_kinds_here","_law_cell","_law_grows","_law_way","_law_before","_law_number"] ["_law_strip","_law_kinds_here","_law_cell","_law_grows"] (Zaj s_LT):=by walk_at "sc"
theorem ZpB (T:TL K mg base a tb):FnOk P w K mg base CX0 6 a.f_LT a.d_LT ["_law_strip","_law_kinds_here","_law_cell","_law_grows"] (Zof K a):=by
 refine T.f_LT.ok Zh5 (fun vs H Q E h=>?_) (fun cdv A outer s H vs Q E hr h=>?_)
 .obtain⟨_,_,_,_,_,_,_,_,rfl,_⟩:=h;rfl
 .have hu64:=hr.units
  obtain⟨p,la,da,l,m,ds,c,gr,rfl,hp,hd,tk,q⟩:=h
  refine⟨_,(Zaf (Zab (Zax (i:=4) Zh5.nd rfl (Or.inl rfl) (Zbj (Zcd (K:=K) rfl) (Zci (Zaa (ZaI ZbV (pv 2) Zak) (Zaa (ZaI ZbV (pv 2) Zak) Zae))) (Za5 Zji rfl T.z_int Zn0 (Zaa (pv 3) Zae)) (fun _ _=>rfl)))
   (Zaf (Zab (Zax (i:=5) Zh5.nd rfl (Or.inl rfl) (ZaW (pv 0) T.cl_LI T.me_Strip_text (Zhp T) (hr.mono (by decide)) T.b_KW .nil Zaw))
   (Zaf (Zab (Za2 (PW.pt (Zc6 (PW.pt (ZeZ (Zau Zhj (pv 4) Zak (ZaA _)) (Zds (Zau Zhj (Zan (Zav (K:=K) rfl) rfl T.z_len ZaL (Zaa (pv 5) Zae)) Zak (ZaA _))))) (Zcg (Zau (Za4 (K:=K) rfl hu64) (pv 5) (ZaD (l:=[]) (by decide +kernel)) (ZaA _))))) (Zab (Zax (i:=6) Zh5.nd rfl (Or.inl rfl) (ZaI Zly (pv 2) Zak))
   (Zaf (Zab (Za2 (ZjC ZmV Zhj Zak (pv 2) Zak) (Zaf (Zag (Zax (i:=6) Zh5.nd rfl (Or.inl rfl) (Zal (ZjJ T) (hr.mono (by decide)) rfl T.m_LP T.f_LP.kp T.b_LP .nil Zaw (Zaa (pv 2) (Zaa Zak Zae)))))) Zay)
   (Zag (Zat (ZbF (pv 0) T.cl_LI T.me_KX (ZpN T) (hr.mono (by decide)) T.b_KX .nil Zaw (Zaa (Zbj ZlJ (pv 1) (ZaI ZbV (pv 6) (Zan (Zav (K:=K) rfl) rfl T.z_len ZaL (Zaa (pv 1) Zae))) (fun _ _=>rfl)) Zae))))))) Zay)
   (Zab (Za2 (PW.pt (ZeZ (Zau Zhm (pv 4) Zak (ZaA _)) (Zds (Zau (Zbo (K:=K) rfl hu64) (ZaW (pv 0) T.cl_LI T.me_KI (ZpT T) (hr.mono (by decide)) T.b_KI .nil Zaw) (Zci Zae) (ZaA _))))) (Zaf (Zag (Zat (ZaW (pv 0) T.cl_LI T.me_KQ (ZpQ T) (hr.mono (by decide)) T.b_KQ .nil Zaw)))) Zay)
   (Zag (Zat (ZaW (pv 0) T.cl_LI T.me_KR (ZpP T) (hr.mono (by decide)) T.b_KR .nil Zaw)))))))))),?_⟩
  have sz:∀k:Nat,k<=9000->k<=sizeLine:=fun k h=>YAJ h (by rw[sizeLine_eq];decide)
  obtain⟨⟨dx,f⟩,hk,⟨ts,d1,d2⟩,run,ok,nld⟩:=id hp
  have m1:=ok.m1
  have m4:=ok.m4
  have l40:=run.len
  have pm:(0:Int)<m.length:=by omega
  refine Zai ?_
  walk_at "rd"
  obtain⟨wy,hwy⟩:∃wy:Int,atI [V.int (c % 9),V.int (c % 6)] (if gr=true then 1 else 0)=some (.int wy):=by cases gr<;>exact⟨_,rfl⟩
  refine⟨by decide,by decide,sz _ (by decide),NewL.of fun p1 H1 s1 n1 l1=>.inr ⟨gr,rfl,p1,_,_,_,rfl,rfl,.mk l1,hwy,Zai ?_⟩⟩
  walk_at "rd"
  have at1:=hp.same s1
  have f1:=s1 _ _ f
  refine⟨p,dx,_,rfl,f1,sN (by decide +kernel),p,la,da,l,m,ds,rfl,at1,Zai ?_⟩
  walk_at "rd"
  have last:∀ {A B:Prop},(l.length<40->A)->(l≠[]->B)->if decide (tx l=tx [])=true then A else B:=fun ha hb=>by
   rw[Zcm]
   exact ite2 (fun h=>ha (by rw[of_decide_eq_true h];decide)) (fun h=>hb (fun e=>h (decide_eq_true e)))
  refine ite2 (fun _=>⟨_,_,rfl,Zby (by omega),ite2 (fun h=>iteT' ((fun (hl:l.length<40)=>?put1) (by have:=of_decide_eq_true h;omega))) (fun _=>.inl ⟨rfl,_,rfl,last (fun hl=>?put2) (fun ne=>?rest1)⟩)⟩) (fun _=>.inl ⟨rfl,_,rfl,last (fun hl=>?put3) (fun ne=>?rest2)⟩)
  case put1 | put2 | put3=>
   refine⟨⟨by decide,by decide⟩,Zai ?_⟩
   walk_at "rd"
   have pick:∀n:Int,∃c1,atI m (n % m.length)=some c1/\c1∈m:=fun n=>Zn3 (xs:=m) (i:=n % m.length) (YCr _ (by omega)) (YCs _ pm)
   have put:∀c1,c1∈m->Zmv K a [V.ref p,tx [c1]] H1 Q E0:=fun c1 mc1=>
    ⟨p,la,da,l,m,ds,c1,rfl,at1,by omega,tk.same s1,mc1,hl,fun t c g la2 H3 q1 q2 q3 q4=>q t c g la2 _ _ _ _ H3 ((s1.chg (S:=[p,da])).trans q1) q2 (ZcK q3 s1) (by rw[YAE];exact YAH _) (.inl ⟨c1,.inl rfl,rfl,rfl⟩) q4⟩
   obtain⟨c2,h21,h22⟩:=pick (c/9)
   refine ite2 (fun _=>ite2 (fun _=>Zai ?_) (fun _=>⟨p,dx,_,rfl,f1,sN (by decide +kernel),_,_,rfl,Zby (by omega),pm,m,_,c2,rfl,rfl,sz _ (by omega),h21,put c2 h22⟩)) (fun _=>iteF ⟨p,dx,_,rfl,f1,sN (by decide +kernel),_,_,rfl,Zby (by omega),pm,m,_,c2,rfl,rfl,sz _ (by omega),h21,put c2 h22⟩)
   walk_at "rd"
   obtain⟨c3,h31,h32⟩:=pick (mixV c 5)
   exact⟨_,_,rfl,p,dx,_,rfl,f1,sN (by decide +kernel),_,_,rfl,Zby (by omega),_,_,rfl,rfl,pm,m,_,c3,rfl,rfl,sz _ (by omega),h31,put c3 h32⟩
  case rest1 | rest2=>
   obtain⟨c1,l1,e1⟩:∃c1 l1,l=c1::l1:=by
    cases l with
    | nil=>exact absurd rfl ne
    | cons c1 l1=>exact⟨c1,l1,rfl⟩
   subst e1
   have go:∀H2,Same H1 H2->Zmw K a [V.ref p] H2 Q E0:=fun H2 s2=>by
    have at2:=at1.same s2
    have c12:Chg [p,da] H H2:=(s1.trans s2).chg
    exact⟨p,la,da,c1,l1,m,ds,rfl,at2,by omega,tk.same (s1.trans s2),fun t c g la2 H3 q1 q2 q3 q4=>q t c g la2 _ _ _ _ H3 (c12.trans q1) q2 (ZcK q3 (s1.trans s2)) (by rw[YAE];exact YAH _) (.inr ⟨c1,.inl rfl,rfl,rfl⟩) q4⟩
   refine ite2 (fun _=>⟨p,dx,_,rfl,f1,sN (by decide +kernel),p,la,da,_,m,ds,rfl,at1,fun r ts2 n2 hd2=>⟨YAq _,NewL.of fun y H3 s3 n3 l3=>?_⟩⟩) (fun _=>iteF ⟨p,dx,_,rfl,f1,sN (by decide +kernel),go H1 (Same.refl _)⟩)
   have s2:Same H1 (upd H1 r (.lst ts2)):=Zap n2
   have l2:=s3 _ _ (Zad (H:=H1) (a:=r) (o:=.lst ts2))
   have s13:=s2.trans s3
   have f3:=s13 _ _ f1
   have at3:=at1.same s13
   have s03:=s1.trans s13
   refine ZjO (.mk l2) (ZhF hd2 s13) (.mk l3) (fun ne2=>⟨true,rfl,iteT (Zai ?_)⟩) (fun _=>⟨false,rfl,iteF ⟨p,dx,_,rfl,f3,sN (by decide +kernel),go H3 s13⟩⟩)
   walk_at "rd"
   have lp:∃(ds0:List (Bool×Nat)) (d:Bool×Nat),ds=ds0++[d]:=⟨ds.dropLast,ds.getLast ne2,(YBz ne2).symm⟩
   obtain⟨ds0,⟨k,c4⟩,e4⟩:=lp
   have ld:ds0.length<=ds.length+1:=by rw[e4,YAE];omega
   have c13:Chg [p,da] H H3:=s03.chg
   refine⟨p,dx,_,rfl,f3,sN (by decide +kernel),p,la,da,_,m,ds,rfl,at3,by omega,tk.same s03,?_⟩
   cases k with
   | true=>
    obtain⟨ds1,c5,⟨e5,l5,e6,r5⟩|⟨e5,_⟩⟩:=run.last ne2
    .rw[e6]
     exact .inl ⟨ds1,c5,l5,e5,rfl,fun t c g la2 H4 q1 q2 q3 q4=>q t c g la2 _ _ _ _ H4 (c13.trans q1) q2 (ZcK q3 s03) (by rw[e5,YAE];omega) (.inr ⟨c5,.inr e6,by rw[e6],by rw[e6]⟩) q4⟩
    .rw[e4]at e5
     have e3:=(List.append_inj' e5 rfl).2
     cases e3
   | false=>exact .inr ⟨ds0,c4,e4,fun t c g la2 H4 q1 q2 q3 q4=>q t c g la2 _ _ _ _ H4 (c13.trans q1) q2 (ZcK q3 s03) ld (.inl ⟨c4,.inr rfl,rfl,rfl⟩) q4⟩
theorem Zh9:FnScope ["words","kinds","ordered","ways","ended","text"] ["words","kinds"] (Zaj s_K6):=by walk_at "sc"
theorem ZpX (T:TL K mg base a tb):FnOk P w K mg base CX0 7 a.f_K6 a.d_K6 ["words","kinds"] (ZoR K a):=by
 refine T.f_K6.ok Zh9 (fun vs H Q E h=>?_) (fun cdv A outer s H vs Q E hr h=>?_)
 .obtain⟨_,_,_,_,rfl,_⟩:=h;rfl
 .obtain⟨b,ws,l,m,rfl,hb,ok,lk,tk,q⟩:=h
  refine⟨_,(Zab (ZaN (Zal (ZpL T) (hr.mono (by decide)) rfl T.m_KZ T.f_KZ.kp T.b_KZ .nil Zaw (Zaa (pv 0) (Zaa (pv 1) Zae))))
   (Zaf (Zab (Zax (i:=2) Zh9.nd rfl (Or.inl rfl) (Zal (ZjK T) (hr.mono (by decide)) rfl T.m_K3 T.f_K3.kp T.b_K3 .nil Zaw (Zaa (pv 0) Zae)))
   (Zaf (Zab (ZaN (Zal (ZpY T) (hr.mono (by decide)) rfl T.m_K5 T.f_K5.kp T.b_K5 .nil Zaw (Zaa (pv 2) Zae)))
   (Zaf (Zab (Zax (i:=3) Zh9.nd rfl (Or.inl rfl) (Zal (ZpA T) (hr.mono (by decide)) rfl T.m_LU T.f_LU.kp T.b_LU .nil Zaw (Zaa (pv 2) (Zaa (pv 1) Zae))))
   (Zaf (Zab (Zax (i:=4) Zh9.nd rfl (Or.inl rfl) (Zal (ZpF T) (hr.mono (by decide)) rfl T.m_LL T.f_LL.kp T.b_LL .nil Zaw (Zaa (pv 3) Zae)))
   (Zaf (Zab (Za2 (Zau (ZbR (K:=K) rfl) (ZaD (l:=[]) (by decide +kernel)) (pv 4) rfl) (Zag Zc7) Zay)
   (Zaf (Zab (Zax (i:=5) Zh9.nd rfl (Or.inl rfl) (Zal (ZpW T) (hr.mono (by decide)) rfl T.m_K8 T.f_K8.kp T.b_K8 .nil Zaw (Zaa (pv 3) (Zaa (pv 4) Zae))))
   (Zaf (Zab (Za2 (Zau Zhm (Zan (Zav (K:=K) rfl) rfl T.z_len ZaL (Zaa (pv 5) Zae)) (Zb8 rfl T.c_KB) (ZaA _)) (Zag Zc7) Zay)
   (Zaf (Zab (ZaN (Zal (ZpV T) (hr.mono (by decide)) rfl T.m_K9 T.f_K9.kp T.b_K9 .nil Zaw (Zaa (pv 2) (Zaa (pv 1) (Zaa (pv 5) Zae)))))
   (Zaf (Zag (Zat (pv 5))))))))))))))))))))),?_⟩
  walk_at "rd"
  refine⟨b,ws,l,m,rfl,hb,ok,lk,fun H1 s1=>?_⟩
  show Zcq _ _ _ _
  refine Zai ?_
  walk_at "rd"
  have h1:=s1 _ _ hb
  refine⟨b,ws,rfl,h1,fun w hw=>YAJ (lk.w41 ok hw) (by decide),tk.same s1,fun ws' r H2 pm _ s2 tk2 nr h2=>?_⟩
  have lk':ListOk l m ws':=pm.trans lk
  show Zcq _ _ _ _
  refine Zai ?_
  walk_at "rd"
  refine⟨r,ws',l,m,rfl,h2,ok,lk',fun H3 s3=>?_⟩
  show Zcq _ _ _ _
  refine Zai ?_
  walk_at "rd"
  have h3:=s3 _ _ h2
  refine⟨r,ws',l,m,rfl,h3,ok,lk',fun pw kw ss H4 s4 n4 h4 wl sl=>?_⟩
  show Zcq _ _ _ _
  refine Zai ?_
  walk_at "rd"
  refine⟨pw,kw,ws',ss,l,m,rfl,h4,wl,sl,ok,lk',fun pe es H5 s5 n5 h5 en=>?_⟩
  show Zcq _ _ _ _
  refine Zai ?_
  walk_at "rd"
  refine⟨pe,es.map tx,rfl,.inl (.mk h5),rfl,ZbH es,false,?_,iteF (Zai ?_)⟩
  .rw[YAP rfl,ZgS,decide_eq_true en.nil];rfl
  walk_at "rd"
  have s45:=s5
  refine⟨pw,pe,kw,ws',ss,es,l,m,rfl,s5 _ _ h4,wl.same s5,sl,ok,lk',h5,en,fun H6 s6=>?_⟩
  show Zcq _ _ _ _
  refine Zai ?_
  walk_at "rd"
  have l40:=ok.l40
  refine⟨_,_,rfl,Zby (by omega),ite2 (fun h=>absurd (of_decide_eq_true h) (by omega)) (fun _=>Zai ?_)⟩
  walk_at "rd"
  have s26:=s3.trans (s4.trans (s5.trans s6))
  refine⟨r,ws',l,m,rfl,s26 _ _ h2,ok,lk',fun H7 s7=>?_⟩
  show Zcq _ _ _ _
  refine Zai ?_
  walk_at "rd"
  have s27:=s26.trans s7
  exact q H7 ((s1.l.trans s2).trans s27.l) (tk2.same s27)
theorem Zcf:FnScope ["_law_script","_law_kinds_here","_law_grows","_law_strip","_law_old","_law_cell","_law_before","_law_found","_law_plain"] ["_law_script"] (Zaj Zlo):=by walk_at "sc"
theorem ok_law (T:TL K mg base a tb):FnOk P w K mg base CX0 8 a.f_law a.d_law ["_law_script"] (spLaw K tb):=by
 refine T.f_law.ok Zcf (fun vs H Q E h=>?_) (fun cdv A outer s H vs Q E hr h=>?_)
 .obtain⟨_,_,rfl,_⟩:=h;rfl
 .have hu64:=hr.units
  obtain⟨b,ns,rfl,hS,hl,tk,tkM,q⟩:=h
  refine⟨_,(Zab (Zax (i:=1) Zcf.nd rfl (Or.inl rfl) (Zal (ZpI T) (hr.mono (by decide)) rfl T.m_LE T.f_LE.kp T.b_LE .nil Zaw (Zaa (Zal (ZmZ T) (hr.mono (by decide)) rfl T.m_LO T.f_LO.kp T.b_LO .nil Zaw (Zaa (pv 0) (Zaa Zak Zae))) Zae)))
   (Zaf (Zab (Zax (i:=2) Zcf.nd rfl (Or.inl rfl) (Za3 (Za4 (K:=K) rfl hu64) (ZaI ZbV (Zal (ZmZ T) (hr.mono (by decide)) rfl T.m_LO T.f_LO.kp T.b_LO .nil Zaw (Zaa (pv 0) (Zaa Zak Zae))) Zak) Zak (ZaA _)))
   (Zaf (Zab (Zax (i:=3) Zcf.nd rfl (Or.inl rfl) (ZfX T.mk_LI (ZpO T) (hr.mono (by decide)) rfl T.m_LI T.b_KT .nil Zaw (Zaa (pv 1) Zae)))
   (Zaf (Zab (Zax (i:=4) Zcf.nd rfl (Or.inl rfl) (ZaW (pv 3) T.cl_LI T.me_KD (Znc T) (hr.mono (by decide)) T.b_KD .nil Zaw))
   (Zaf (Zab (ZaZ YAp rfl (Zaz (K:=K) rfl (ZaM (Zjw (K:=K) rfl) (pv 0) (ZaS Zak) (ZaS Zak))) (Zam (i:=5) Zcf.nd rfl (Or.inl rfl))
   (Zaf (Zab (Zax (i:=6) Zcf.nd rfl (Or.inl rfl) (ZaW (pv 3) T.cl_LI T.me_Strip_text (Zhp T) (hr.mono (by decide)) T.b_KW .nil Zaw))
   (Zaf (Zab (Zax (i:=7) Zcf.nd rfl (Or.inl rfl) (Zal (ZpB T) (hr.mono (by decide)) rfl T.m_LT T.f_LT.kp T.b_LT .nil Zaw (Zaa (pv 3) (Zaa (pv 1) (Zaa (pv 5) (Zaa (pv 2) Zae))))))
   (Zaf (Zab (Za2 (PW.pt (Zc6 (Zau (Zbo (K:=K) rfl hu64) (Zan Zkk rfl T.z_abs Zn2 (Zaa (ZaI ZgI (Zan (Zav (K:=K) rfl) rfl T.z_len ZaL (Zaa (ZaW (pv 3) T.cl_LI T.me_Strip_text (Zhp T) (hr.mono (by decide)) T.b_KW .nil Zaw) Zae)) (Zan (Zav (K:=K) rfl) rfl T.z_len ZaL (Zaa (pv 6) Zae))) Zae)) Zak (ZaA _)) (Zcg (Zdt (Zch (Zal (ZpC T) (hr.mono (by decide)) rfl T.m_LS T.f_LS.kp T.b_LS .nil Zaw (Zaa (pv 6) (Zaa (ZaW (pv 3) T.cl_LI T.me_Strip_text (Zhp T) (hr.mono (by decide)) T.b_KW .nil Zaw) (Zaa (pv 7) Zae))))))))) (Zag (Zat Zcu)) Zay)
   (Zaf (Zab (Zax (i:=4) Zcf.nd rfl (Or.inl rfl) (Zal (ZpJ T) (hr.mono (by decide)) rfl T.m_LD T.f_LD.kp T.b_LD .nil Zaw (Zaa (pv 4) (Zaa (pv 7) Zae))))
   (Zaf (Zag (Za2 (PW.pt (Zc6 (Zau ZmW (pv 4) Zii (ZaA _)) (Zcg (Zau (Zbo (K:=K) rfl hu64) (ZaW (pv 3) T.cl_LI T.me_KD (Znc T) (hr.mono (by decide)) T.b_KD .nil Zaw) (pv 4) (ZaA _))))) (Zag (Zat Zcu)) Zay))))))))))))
   (Zaf (Zab (Zax (i:=8) Zcf.nd rfl (Or.inl rfl) (ZfX T.mk_LH (Zm7 T) (hr.mono (by decide)) rfl T.m_LH T.b_KP .nil Zaw (Zaa (ZaW (pv 3) T.cl_LI T.me_Strip_text (Zhp T) (hr.mono (by decide)) T.b_KW .nil Zaw) (Zaa (pv 1) Zae))))
   (Zaf (Zag (Zat (ZbZ (Za3 (Za4 (K:=K) rfl hu64) (ZaW (pv 8) T.cl_LH T.me_Plain_lacking (Znb T) (hr.mono (by decide)) T.b_KE .nil Zaw) (pv 4) (ZaA _)) (Zc0 (Za3 (Za4 (K:=K) rfl hu64) (Zal (ZpX T) (hr.mono (by decide)) rfl T.m_K6 T.f_K6.kp T.b_K6 .nil Zaw (Zaa (Zhi rfl (K:=K) rfl rfl T.z_list rfl T.z_reversed (Zaa (pv 4) Zae)) (Zaa (pv 1) Zae))) (ZaW (pv 3) T.cl_LI T.me_Strip_text (Zhp T) (hr.mono (by decide)) T.b_KW .nil Zaw) (ZaA _)))))))))))))))))),?_⟩
  have sz:∀k:Nat,k<=9000->k<=sizeLine:=fun k h=>YAJ h (by rw[sizeLine_eq];decide)
  rw[<-T.e_K3]at tk
  rw[<-T.e_LD]at tkM
  have tt:TT a H:=⟨tk,tkM⟩
  walk_at "rd"
  refine⟨b,ns,0,rfl,hS,by decide,fun r0=>⟨_,rfl,fun m H1 mk m1 m4 s1=>Zai ?_⟩⟩
  have kok:KOk m:=⟨mk,m1,m4⟩
  walk_at "rd"
  refine⟨b,ns,1,rfl,s1.seq hS,by decide,fun r1=>⟨_,_,rfl,rfl,(by show (0:Int)<3;decide),.inl ⟨rfl,Zai ?_⟩⟩⟩
  generalize (if false=true then !decide (V.int (r1 % 3)=V.int 0) else decide (V.int (r1 % 3)=V.int 0))=gr
  walk_at "rd"
  intro p dx np ndx ne
  refine⟨p,dx,m,rfl,Zad,kok,fun la0 da H2 at2 nla nda k2=>⟨rfl,Zai ?_⟩⟩
  have s2:Same H1 H2:=fun b o e=>k2 b o (by rw[Zac (Zah e np),Zac (Zah e ndx)];exact e) (Zah e np)
  have tt2:=tt.same (s1.trans s2)
  obtain⟨dx2,f2⟩:=id at2.fld
  walk_at "rd"
  refine⟨p,dx2,_,rfl,f2,sN (by decide +kernel),p,la0,da,[],m,[],rfl,at2,fun ro n3=>Zai ?_⟩
  have s3:Same H2 (upd H2 ro (.lst ((Zar [] m).map tx))):=Zap n3
  have o3:upd H2 ro (.lst ((Zar [] m).map tx)) ro=some (.lst ((Zar [] m).map tx)):=Zad
  generalize upd H2 ro (.lst ((Zar [] m).map tx))=H3 at s3 o3
  obtain⟨_,d2,_⟩:=id at2.deed
  have nod:ro≠da:=fun z=>by rw[z,d2]at n3;cases n3
  walk_at "rd"
  have s03:=s1.trans (s2.trans s3)
  refine⟨_,rfl,_,rfl,b,_,rfl,s03.seq hS,fun pq nq=>?_⟩
  have s4:Same H3 (upd H3 pq (.lst (cutV (ns.map V.int) (some 2) (some 63)))):=Zap nq
  have hq:upd H3 pq (.lst (cutV (ns.map V.int) (some 2) (some 63))) pq=some (.lst (cutV (ns.map V.int) (some 2) (some 63))):=Zad
  have lc:=Zkg (xs:=ns.map V.int) (lo:=some 2) (hi:=some 63)
  rw[YAB]at lc
  have ac:∀v∈cutV (ns.map V.int) (some 2) (some 63),∃c,v=V.int c:=fun v hv=>Zjf hv
  generalize cutV (ns.map V.int) (some 2) (some 63)=cs at s4 hq lc ac
  generalize upd H3 pq (.lst cs)=H4 at s4 hq
  have npq:pq≠p:=fun z=>by rw[z,s3 _ _ f2]at nq;cases nq
  have ndq:pq≠da:=fun z=>by rw[z,s3 _ _ d2]at nq;cases nq
  refine⟨pq,rfl,⟨_,.mk hq⟩,ForRun.list (xs:=cs) (fun i U H'=>∃v5 v6 v7 ro la l ds,U=[some (.ref b),some (tx m),some (.bl gr),some (.ref p),some (.ref ro),v5,v6,v7,none]/\Chg [p,da] H4 H'/\StripAt a.c_LI H' p la da l m ds/\H' ro=some (.lst ((Zar l m).map tx))/\ro≠da/\ds.length<=i/\TT a H') ⟨_,_,_,ro,la0,[],[],rfl,Chg.refl _,at2.same (s3.trans s4),s4 _ _ o3,nod,YAH _,tt2.same (s3.trans s4)⟩ (fun i U H' _ ⟨_,_,_,_,_,_,_,_,ch,_⟩=>SqL.chg (.mk hq) ch (by simp[npq,ndq])) ?_ ?_⟩
  .rintro i x U H5 hx ⟨v5,v6,v7,ro,la,l,ds,rfl,ch5,at5,o5,nod,ld,tt5⟩
   have hi:i<cs.length:=(YAK.mp hx).1
   obtain⟨c0,rfl⟩:=ac x (YAT hx)
   obtain⟨dx5,f5⟩:=id at5.fld
   have ok:=at5.ok
   walk_at "rd?"
   refine Zai ?_
   walk_at "rd"
   refine⟨p,dx5,_,rfl,f5,sN (by decide +kernel),p,la,da,l,m,ds,rfl,at5,Zai ?_⟩
   walk_at "rd"
   refine⟨p,la,da,l,m,ds,c0,gr,rfl,at5,by omega,tt5,fun t c g la2 l2 ds2 rc rg H6 ch6 at6 an ld2 mv tt6=>Zai ?_⟩
   walk_at "rd"
   obtain⟨dx6,f6⟩:=id at6.fld
   have l40:=at5.run.len
   have l240:=at6.run.len
   obtain⟨ndc,ndg,mc,mg_,lnc,lng,ab⟩:=Zf1 ok l40 l240 mv
   refine⟨p,dx6,_,rfl,f6,sN (by decide +kernel),p,la2,da,l2,m,ds2,rfl,at6,_,_,rfl,Zby (by omega),_,_,rfl,Zby (by omega),_,rfl,?_⟩
   rw[ab]
   obtain⟨ys,hc,rwc⟩:=an.came
   obtain⟨zs,hg,rwg⟩:=an.went
   refine ne_int ⟨false,rfl,iteF ⟨p,dx6,_,rfl,f6,sN (by decide +kernel),p,la2,da,l2,m,ds2,rfl,at6,t,c,g,ys,zs,l,l2,m,rc,rg,rfl,an.tup,hc,hg,rwc,rwg,ok,at5.run.mem,at6.run.mem,l40,l240,mv,fun H7 s7=>⟨true,rfl,iteN rfl (Zai ?_)⟩⟩⟩
   walk_at "rd"
   have nop:ro≠p:=fun z=>by rw[z,f5]at o5;cases o5
   have o6:H6 ro=some (.lst ((Zar l m).map tx)):=ch6 _ _ o5 (by simp[nop,nod]) rfl
   refine⟨t,c,g,ro,ys,zs,Zar l m,Zar l2 m,rc,rg,rfl,s7 _ _ o6,s7 _ _ an.tup,s7 _ _ hc,s7 _ _ hg,rwc.same s7,rwg.same s7,ZaE ok.rise,ZaE ok.rise,ndc,ndg,mc,mg_,YAJ (Zbd m4 l40) (by decide),lnc,lng,fun w h=>ZkE h l40,fun w h=>ZkE h l240,tt6.same s7,fun r8 H8 s8 tt8 n8 o8=>Zai ?_⟩
   walk_at "rd"
   have at7:=at6.same s7
   have at8:StripAt a.c_LI H8 p la2 da l2 m ds2:=at7.chg (S:=[]) s8.chg (by simp) (by simp) (by simp) (by simp)
   obtain⟨dx8,f8⟩:=id at8.fld
   obtain⟨_,d7,_⟩:=id at7.deed
   refine⟨trivial,ite2 (fun h=>absurd (of_decide_eq_true h) (fun z=>by cases z)) (fun _=>⟨p,dx8,_,rfl,f8,sN (by decide +kernel),p,la2,da,l2,m,ds2,rfl,at8,fun r9 n9=>Zni (.mk Zad) (.mk ((Zap n9) _ _ o8)) ⟨false,rfl,iteF ⟨_,_,_,r8,la2,l2,ds2,rfl,ch5.trans (ch6.trans (s7.chg.trans (s8.chg.trans (Zap n9).chg))),at8.same (Zap n9),(Zap n9) _ _ o8,YAv (n8.ne d7 rfl),by omega,tt8.same (Zap n9)⟩⟩⟩)⟩
  .rintro U H5 ⟨v5,v6,v7,ro,la,l,ds,rfl,ch5,at5,o5,nod,ld,tt5⟩
   obtain⟨dx5,f5⟩:=id at5.fld
   have sok:StripOk l m:=⟨mk,m1,m4,at5.run.len,at5.run.mem⟩
   walk_at "rd?"
   refine Zai ?_
   walk_at "rd"
   refine⟨p,dx5,_,rfl,f5,sN (by decide +kernel),p,la,da,l,m,ds,rfl,at5,fun pr dr npr ndr ner=>⟨pr,dr,l,m,rfl,Zad,sok,fun H6 r6 k6=>⟨rfl,Zai ?_⟩⟩⟩
   have s6:Same H5 H6:=fun b o e=>k6 b o (by rw[Zac (Zah e npr),Zac (Zah e ndr)];exact e) (Zah e npr)
   obtain⟨d6,r6'⟩:=id r6
   walk_at "rd"
   refine⟨pr,d6,_,rfl,r6',ZcS (by decide +kernel) (by decide +kernel),pr,l,m,rfl,r6,sok,fun qw H7 s7 e7=>ZkO (.mk e7) (.mk (s7 _ _ (s6 _ _ o5))) ?_⟩
   rw[decide_eq_true rfl]
   have s57:=s6.trans s7
   refine⟨true,rfl,iteT ⟨ro,_,rfl,.mk (s57 _ _ o5),NewL.of fun rr H8 s8 n8 l8=>?_⟩⟩
   have s58:=s57.trans s8
   refine⟨rr,(Zar l m).reverse,l,m,rfl,by rw[l8,List.map_reverse],sok,YDa _,tt5.same s58,fun H9 s9 tt9=>?_⟩
   have at9:StripAt a.c_LI H9 p la da l m ds:=(at5.same s58).chg (S:=[]) s9.chg (by simp) (by simp) (by simp) (by simp)
   obtain⟨dx9,f9⟩:=id at9.fld
   exact⟨p,dx9,_,rfl,f9,sN (by decide +kernel),p,la,da,l,m,ds,rfl,at9,ZnQ (q H9)⟩
end
end Pk91
structure PySem.W.Fast:Prop where(tw10001232733321673833 tw10011559685967933330 tw10044075311649765976 tw1007432232625426929 tw10102554615332433984 tw10140370386446552670 tw10173404946012754539 tw10209398318782934438 tw1022498560606229709 tw10300065001189200172 tw10337844977758613204 tw10378787500975301266 tw10384898203386379098 tw10385550111273610402 tw1039184106239189258 tw10433740360210391691 tw10455367368802631995 tw10470723007200891761 tw10473448629286400332 tw10521662794171231074 tw10525035525769903391 tw10580712913606199761 tw10583567749638336612 tw10637377769170917661 tw1065709095236378794 tw10661741305457770081 tw10680758760382138720 tw10682782348940550140 tw10691341230860680295 tw10744025171064777085 tw10820428846505976718 tw10832956239369885763 tw10853739796606981781 tw1089094534739664257 tw10931698483364163420 tw10938094840637871928 tw10971579390582406381 tw11001921473891448418 tw11013004025996482619 tw1101879768907424656 tw11047868867304039282 tw11060312600963175551 tw11100422425798686358 tw11146293347595654979 tw11156220985744577993 tw11194075712206929520 tw11282447651254883787 tw11296523808551498807 tw11423897672674408398 tw11453033790188784343 tw11512561274538478230 tw11528397395592355677 tw11531096514887983438 tw11534353018732087582 tw11534490182493283450 tw11547000522051753503 tw1157659542334420011 tw11588837554167312640 tw11653320035329235808 tw11654602604563354647 tw11702727075320479767 tw11730386804735720599 tw1180153394740046837 tw11814611582894942650 tw11872146379970030933 tw11901062548106600310 tw11996881806890939128 tw11997128203766406645 tw12045312994267407444 tw12046946192923470849 tw12065716442311535619 tw12093707567771064654 tw12098731611111367191 tw12108182950008629702 tw12158851598058643254 tw12238501637196816355 tw12248195353060888919 tw1226026344501333665 tw12331570421562509713 tw12339694211109041950 tw12347147177484404636 tw12366309636592483002 tw12367108925480824922 tw12393234120297624392 tw12424196266028767856 tw12430232042734362196 tw12430839133561460629 tw12537831330949682786 tw12569421906051151776 tw12574781464729214355 tw12585116770453427208 tw12591645422988329495 tw1261954229002998059 tw1271520905025749146 tw12776567469165725733 tw1278729780742839292 tw12917941780666814678 tw12947424552571864502 tw13009724294822092388 tw13023869487089598297 tw13086264905260475942 tw13105023735894751974 tw13134832783233666665 tw13139518240367211240 tw13271755466462168351 tw13303332427563616018 tw13309817630734927958 tw13388868789181848397 tw13439285896766890897 tw13450889524780650355 tw13451530059901821104 tw13483795506004012762 tw13521521497076686031 tw13526057588729851737 tw13550681388817147101 tw135588391263880220 tw13566426941287429476 tw13570324740250847685 tw13578334397568677165 tw13604013729245829076 tw13610145065597016227 tw13622304573355613232 tw13647100289318432624 tw13706806740360023926 tw13723890469383725029 tw13817605472781014770 tw13847030468476530644 tw13887313231218006021 tw13932525604987900080 tw1393273015614305820 tw13956851963854809651 tw13985009055725126336 tw1399300485182650282 tw14013279031159984467 tw1403143597876178596 tw14037693315493905604 tw14048870177446522220 tw14055688742124958858 tw14104787440884440133 tw14107581354668464265 tw14109768976028627659 tw14123418715731995586 tw14150018724993176321 tw14216629212224032849 tw1424657406687578329 tw14256664019087501900 tw14264942491184680332 tw14279351502853396065 tw14297546149982801667 tw14302587149269456049 tw14307240656823771284 tw14323717248899140681 tw14504966264180220642 tw14532844323855662718 tw14553385423630720627 tw14562329882269308083 tw14574480158574913524 tw14698914740437955425 tw14725761113382999914 tw14741673660051105540 tw14742194192233157281 tw14756364389493017492 tw14852425188234931464 tw1489999344914817090 tw14901896036251555961 tw1492652636143797263 tw14934298214339559964 tw14942365091501197094 tw14961646842601558818 tw14965578704926011947 tw15017089477143132341 tw15048803368765681432 tw15068590771683940561 tw15120576766939143537 tw15156930569436968825 tw15165402261815633848 tw15194859550445103472 tw15218028289257724843 tw15280570493930797866 tw15292060343271211876 tw15297298138348680169 tw1531760983156974562 tw15331673801663539319 tw15358462280241097058 tw15386863125146151071 tw15389486616808862161 tw15405883027604422347 tw15443485858263542650 tw1547478086672966660 tw15524584257450739810 tw15546497615076932326 tw15575863827140412034 tw15630894956585072768 tw15684028742029051577 tw15697365991468557716 tw15706309542431325786 tw15773975268779451949 tw15805273090971959611 tw15806197080567857866 tw1581442933041368164 tw15830595660562307062 tw15896924613140895182 tw15914251459451590485 tw15917830219446378277 tw15977796236847457097 tw15984452604160186357 tw15995587264723922943 tw15998530584418844175 tw16006449366573564100 tw16011509762357742425 tw16061225254114654766 tw16070823518269008814 tw16083157624451330232 tw16131981504368006754 tw1614281334330224647 tw16145719832350457889 tw16161231252017908686 tw16162882319488898994 tw16173492721937297230 tw16271980776497290678 tw16273120524662517153 tw16290371736685484310 tw16333233165468258835 tw16386737004307398992 tw16394746114595870618 tw16454164480213078072 tw16465570344348951497 tw16471898129628781820 tw16534134186477067600 tw16538518026497292829 tw16541205835432889519 tw16549829308447682101 tw16564602360266504189 tw16627251917905882084 tw16642053616915428806 tw1668885664611787143 tw16691594172088778807 tw16720812658816085660 tw16777807123747356363 tw16797015640491214506 tw16842925388182574726 tw16930352043581686719 tw16943016423285777706 tw16982911523471776395 tw1701346075773300651 tw17017862493119388957 tw1721976512488586301 tw17230353811674534803 tw17270110664101417629 tw17292272432436583694 tw17293825156050271492 tw17315248213205936830 tw17384675163554993437 tw17388116951231492527 tw17412170090010370263 tw17419944431815311477 tw17449322947534648115 tw17449573633477066790 tw17490536257740137670 tw17500608649379265600 tw17507821466802369967 tw17521089441224416163 tw1754262192248459608 tw17574689972774855579 tw17604666586387196902 tw17639539564097171228 tw17650356299256486600 tw17687808979496595990 tw17720005490520497664 tw17726245756753583392 tw17752294157258601782 tw17832896219365090392 tw17872242473826979248 tw17875624980112648730 tw17893918513525284247 tw17950955582999434957 tw17951176709726324073 tw17971373812235800060 tw18045276370640100581 tw18146476267719051668 tw18167712501434331544 tw18229640590084826793 tw18236353904072304603 tw18255457003190238680 tw18259772802211232610 tw18270112098813320337 tw18270868466131082538 tw18280501409258723531 tw18291763794109905212 tw18324878441755777391 tw1836700019239273395 tw18379832313898486956 tw18390799673995525628 tw18409190228325619790 tw18414126816607191317 tw18433181083686466440 tw191523754166552385 tw194128665615343099 tw1977741541711665845 tw2052248627468225671 tw2178461360951467358 tw2284483718213745610 tw2304719979233714660 tw2349420017452508236 tw2357668048911990546 tw2403192698782271776 tw2406505297071661725 tw2441116367749382514 tw2481495161910949897 tw2499353227444649411 tw2537454659009315398 tw2576651164443458807 tw2597914617183120039 tw2621962744088626136 tw2631771554891499211 tw2720082069944990588 tw274632444658771446 tw2746423692036808199 tw2800135164650072018 tw2802504735686323954 tw2869418237222415991 tw2938233974956493192 tw2967804350228711656 tw297109776930329735 tw3006366108593738219 tw3014355386242874888 tw3023595469320641688 tw306977497117459770 tw3075242406806048107 tw3090175764865941547 tw3130119274200270499 tw3163300723381755586 tw3203807288923622064 tw3216354110006911183 tw3245633767659009608 tw3264769962777735998 tw3267846924295905948 tw3287296231437638962 tw3307154120801341512 tw3308961261662723375 tw3309795320020273789 tw3330888886505774426 tw334181267405705016 tw334378239504691219 tw3351604554252188397 tw3459395689840519981 tw3464086893738937099 tw3473687656610558899 tw3500606408532817699 tw3504861640479935742 tw3510802150573108913 tw3516660304076556265 tw3573234013268244934 tw3616785586139240403 tw3658279532637876794 tw3659603004486339077 tw3669826890105063447 tw3680950090128680227 tw3691822142116142377 tw36992945154552028 tw3788858629988885307 tw3908027727947993734 tw3939336590227262683 tw3948020114762994198 tw3995852099230806572 tw3998754382300210210 tw4024653027827131725 tw4039611292648177556 tw4069720268265408979 tw41414838521033476 tw4141846215625281358 tw4166278244205057250 tw4192748902380034271 tw421443150099558959 tw4222592827376728901 tw4240889414418999979 tw4259533934014584837 tw4282481669790242729 tw4302943102230253440 tw4324202153921804608 tw4353776000562802550 tw4365794977168004841 tw4418643996435192669 tw4449391397612682509 tw4449454902498570297 tw4481409106361774794 tw4494429718962055250 tw4501906293398337588 tw4504099494744941911 tw453840077187746277 tw455738096437181720 tw4581383211421999612 tw4595977677157590851 tw4602133632563105930 tw4608623828820675778 tw46220532229532021 tw4682290242620554283 tw4783399501971187460 tw4799801508304669263 tw4819823812347754835 tw4865687410040719419 tw4868921464883127325 tw4887728111390689151 tw4895313979621828395 tw4896162117962810358 tw5004040500773883826 tw5026544177900592451 tw5051568939892249216 tw5085621151129983915 tw5118551926845193181 tw5198029334824000830 tw5233981697286875954 tw5237704682294803853 tw5263186658295541724 tw529387621747510401 tw5329039433115588570 tw5396589895258078254 tw5445035203449457333 tw5463039121818628422 tw5491688524763411507 tw5504451973544657706 tw5509690443661268187 tw5521908257556238925 tw5528826606447478469 tw5534379286406433219 tw5555460403704653667 tw5561818019153458441 tw556548721065698220 tw5620980562737360351 tw5742023503491293628 tw5773649156821637831 tw5807692484174689685 tw5832909669132922710 tw5868267264385121998 tw5874935955720244133 tw5879335647838380896 tw5903348580168334717 tw5909206207749913120 tw6014170423482571870 tw6039160351543359755 tw6088561360817547077 tw6129676578835853791 tw6151680163551602858 tw6176667530252979293 tw6253445931799266669 tw6267938564532941387 tw630513924666541352 tw6308514923650916503 tw6358233977282575091 tw6374426131386265873 tw6381720757025652203 tw6436307445155003480 tw645308275491951515 tw6471817837343284758 tw6522246613783217218 tw6620556702733553048 tw6656975902216396628 tw6678091672036944285 tw667980041709333616 tw6691693417974523748 tw6712834174372021224 tw6774657279343285530 tw6796890377052558176 tw6804059274766031063 tw6835052812111590682 tw6843387585706400981 tw686998282637327776 tw6881498851603946211 tw6892532069413181533 tw6919444301840853039 tw692733375173475123 tw6944652803197251002 tw6958843931824794779 tw6970801964565441664 tw6992368216784156215 tw7018497743258126783 tw7050636428122939138 tw707805488929616657 tw7084411455072989102 tw7095253364484875579 tw7096142935286503682 tw7137816257877173805 tw7152793896300476922 tw7181985723056421532 tw7185883217754798758 tw7249720585276556054 tw7276743758353449656 tw7281072698206020972 tw7296371506073118250 tw7332674185429123479 tw7333337809664790687 tw7422185703315514482 tw7427637795096405401 tw7527425738575587114 tw7528757765580622377 tw7540999428119331303 tw7549228257107030308 tw7555736616225125128 tw7645174645034123189 tw7659424521015461502 tw7712373500186032848 tw7757452239196008071 tw7783446292791806758 tw7813516340180645259 tw785514931938899915 tw7885627828240552799 tw7917456033116199380 tw7948199508863785673 tw7948477934659084838 tw7948805390840955789 tw7953395872352357730 tw7964672242175721303 tw7985542715807443234 tw8018793792933764386 tw8046848439697552742 tw809346346909156873 tw8131042741433950776 tw8144162060342837000 tw8166426693766486276 tw8205959517462218478 tw8220216705817188534 tw8246840167006925350 tw8280618731833154995 tw8292882198148930543 tw8310886149741123698 tw8314752873200233850 tw8316508626504123747 tw835504676680148707 tw8377240401498581886 tw8404277466079793064 tw8458464658257172712 tw8460746220608475977 tw8571643898365520692 tw8605165815819281682 tw8631639136775932981 tw8632018221134675046 tw8659853013648068064 tw8733425703005579203 tw8748290182389065697 tw8749912390486094402 tw8751088460906893970 tw875591677265834558 tw8764493600089198039 tw8784540122394731293 tw8795362851379869555 tw8797594942144333997 tw8800756966429456397 tw8824016728489465916 tw8825516329093581053 tw8829141598001207477 tw883111258902445699 tw885133804221779447 tw8975461331297270088 tw9034207306841593064 tw9131895452694008982 tw9153613851019791158 tw9230647258178121292 tw9290945310724883854 tw9345374572268894454 tw9353830824330802015 tw9380599775498965974 tw9382651572174863839 tw9385428665325268984 tw9471101471866756375 tw951877329815160587 tw9520883149945392939 tw9561198884257556958 tw9564483082054671814 tw9586873890066279598 tw9633112076141670326 tw9682616079317035993 tw9699076777656036721 tw9702108897360951289 tw9720217958440214512 tw9755272278367385296 tw9781334541764746067 tw9885733723579884971 tw9919945996769646052 tw9926766019462097629:True)
open PySem PySem.W PyProof.Rows
set_option maxRecDepth 100000 in
set_option maxHeartbeats 0 in
theorem PySem.Challenge.cw_lackword_k91_whole_any_deeds_holds : PySem.Challenge.rw_lackword_k91_whole_any_deeds.Holds := by
 w_on;o_law;k_head;(case hw=>w_witness2)
 k_fill
 refine L2.walk_ofT (l:=PySem.Challenge.rw_lackword_k91_whole_any_deeds) (n:=63) (k:=8) (x:="_law_script") (CX:=L2.CX0) (sp:=Pk91.spLaw) ["in_order","_law_listed"] rfl (by decide) rfl ⟨rfl,by decide,by decide⟩ (fun w h Y=>PySem.W.km_in_of Y) (fun _=>by kernel_rfl) (by kernel_rfl) ?F ?S ?C
 case F=>
  intro w mg fa h tb KX G hmg hT
  have T:∃t,Pk91.Txt (L2.KOf KX) mg t/\t.t_K3=(tb "in_order").2/\t.k_K3=(tb "in_order").1/\t.t_LD=(tb "_law_listed").2/\t.k_LD=(tb "_law_listed").1:=by
   dsimp only[L2.KOf]
   apply Pk91.txt_mk (t_K3:=(tb "in_order").2) (k_K3:=(tb "in_order").1) (t_LD:=(tb "_law_listed").2) (k_LD:=(tb "_law_listed").1) KX G
   iterate 57 k_is
   iterate 16 (apply L2.mg_mk;iterate 4 k_is)
   iterate 33 (apply L2.dg_mk;iterate 4 k_is)
   iterate 20 k_is
  obtain⟨t,T,et_K3,ek_K3,et_LD,ek_LD⟩:=T
  have e0:=hmg.symm.trans T.m_law
  cases e0
  have cd_K3:t.d_K3.code=.ref t.k_K3:=by
   obtain⟨o,e1,e2⟩:=T.f_K3.at KX
   rw[ek_K3]
   exact(hT "in_order" (by simp)).codeEq T.m_K3 e1 e2
  have cd_LD:t.d_LD.code=.ref t.k_LD:=by
   obtain⟨o,e1,e2⟩:=T.f_LD.at KX
   rw[ek_LD]
   exact(hT "_law_listed" (by simp)).codeEq T.m_LD e1 e2
  refine' ⟨_,?b,fun base kb nb hL=>Pk91.ok_law (tb:=tb) { T with L_in_order:=by rw[et_K3,ek_K3];exact hL "in_order" (by simp),cd_K3:=cd_K3,e_K3:=et_K3,L_listed:=by rw[et_LD,ek_LD];exact hL "_law_listed" (by simp),cd_LD:=cd_LD,e_LD:=et_LD }⟩
  exact T.bl
 case S=>exact fun K tb H a ns hl hP hS=>⟨a,ns,rfl,hS,hl,L2.tbl_new (hP "in_order" (by simp)),L2.tbl_new (hP "_law_listed" (by simp)),fun _=>rfl⟩
 case C=>exact fun _ _ _ _ z=>z
#print axioms PySem.Challenge.cw_lackword_k91_whole_any_deeds_holds
