import PyProof.Rows.All
import Wide.All
import OpenK.AllK
import Wide.FinOn
import Lean
import PyProof.EqAt
import PyProof.EqKinds
import PyProof.TupleCall
import PySem.Challenge.RW_wholeglance_k36_whole_plain_run_of_looks
open PySem renaming wpAny_bind->Zn,Shared->Zq,wpAny_pure->Zu,sizeLine->ZQ,starEach->ZU,Program->ZW,Around->Z0,DictEntry->Z4,wpAny_holding->Z5,foldedSetIterable->aaf,wpAny_call_entry->aai,mainGlobals->aal,compareOp->aam,wpAny_ite_split->aap,placesWithHash->aax,binaryOp->aaz,wpAny_callSpecial?_slot->aaB,cellsFrom->aaF,FuncData->aaG,mem_of_lookup->aaH,assignEach->aaO,sizeLine_eq->aaP,wpAny_newObj_type->aaU,wpAny_dictEpoch->aaX,Builtin->aaY,bootBuiltins->aa0,wpAny_rule->aa1,wpAny_truthy_bool->aba,wpAny_typeNameOfWhole_keyiter->abc,backTo->abe,NameKind->abh,sysModules->abi,call_meets->abj,wpAny_passesOwn->abn,wpAny_dictEntries->abt,holding->abA,wpAny_forIn_list->abE,wpAny_Call_Name_kw->abL,codeAny_builtin->abO,wpAny_typeOf->abU,wpAny_notOrdered_dict->abW,swapsWith->ab0,numAt_eq->ab6,assign->ab9,attributeBase->aca,wpAny_field->acf,sliceBounds->acg,Operator->aco,wpAny_pyIter_tuple->acp,getattributeRaised->acv,typeIs_int->acx,wpAny_seqItems->acz,wpAny_sequenceKey->acD,slot_dict_getitem->acF,swappedStores->acL,behindInMarks->acM,plainId_quiet->acO,seqSlot_of->acQ,codeAny->acS,wpAny_mono->acY,wpAny_Name->acZ,wpAny_loadName_local->ac0,wpAny_execs_nil->ac1,pyNext->ac2,IsPart->ac4,wpAny_ite_false->ac9,wpAny_loadName_cell->adk,getItem->adn,Keyword->adp,callerA->adq,wpAny_setField->adt,PassesOwn->adw,slot_dict_contains->adz,wpAny_standAt->adD,swapsWithSole->adE,Comprehension->adI,builtinsNs->adL,fillsNumberSlot_seq->adO,wpAny_binaryOp_repeat_ref->adP,relabel->adV,dictGet->adW,rawInt->adY,concat_meets->adZ,noFill_tuple_add->ad0,beq_builtin_none->ad4,wpAny_pyNext_tuple_item->ad_,letOwnedTupleGo->aec,eqIsQuiet->aee,wpAny_pyNext_list_item->aei,wpAny_pyNext_tuple_end->aej,wpAny_Call_method_late->ael,wpAny_richCompare_same->aep,standAt->aet,wpAny_pyNext_list_end->aeu,wpAny_isOneOf_keyiter->aeC,builtinLookup_eq_fast->aeE,typeIs_str->aeG,call->aeI,seqRepeat?->aeJ,seq_tuple_add->aeQ,wpAny_newList->aeU,wpAny_loadName_free->aeV,codeAny_mono->ae_,setItem->afk,BindsTo->afl,seqIndex_of->afD,keywordEach->afE,wpAny_alloc->afF
open List renaming replicate->Zo,range->Zp,getElem?_eq_some_iff->Zr,getElem?_eq_getElem->Zs,getElem?_append_left->Zx,size_toArray->Zz,getD_eq_getElem?_getD->ZC,length_append->ZE,getElem?_map->ZG,mem_cons->ZI,getElem?_cons_zero->ZJ,getElem?_cons_succ->ZK,getElem?_set_self->ZL,mem_append->ZN,mem_cons_self->ZR,getElem?_append_right->ZS,getElem?_set_ne->ZT,mem_cons_of_mem->ZV,all_eq_true->ZY,mem_of_getElem?->ZZ,getElem_mem->Z2,length_map->Z3,getElem?_eq_none->Z6,mem_map->Z8,map_cons->Z9,mem_range->Z_,getElem?_range->aac,lookup_cons->aad,length_singleton->aag,mem_iff_getElem?->aah,flatten_cons->aaj,append_assoc->aak,getElem?_take_of_lt->aan,mem_append_right->aao,replicate_succ->aaq,length_cons->aas,ext_getElem?->aav,any_cons->aay,mem_filter->aaE,length_pos_iff->aaR,nodup_cons->aaS,drop_eq_getElem_cons->aaT,map_congr_left->aaZ,length_take->aa2,mem_replicate->aa5,append_nil->aa6,getElem?_replicate->abd,take_of_length_le->abk,nil_append->abp,mem_iff_getElem->abw,not_mem_nil->abH,filterMap_cons->abI,mem_filterMap->abK,length_set->abM,eq_nil_of_length_eq_zero->abR,nodup_append->abS,length_range->abT,length_filter_le->abX,set_getElem_self->abY,mem_of_mem_take->ab4,elem_iff->ace,mem_map_of_mem->aci,range_succ->ack,mem_or_eq_of_mem_set->acm,set_cons_succ->acs,length_eq_zero_iff->acB,range_succ_eq_map->acI,findIdx?_eq_some_iff_getElem->acJ,all_cons->acN,cons_append->acP,set_append_right->acV,map_nil->ac5,forIn_cons->ac6,set_set->adf,map_map->adg,length_nil->adh,take_append_of_le_length->adj,range'->adv,set_cons_zero->ady,getElem?_eq_none_iff->adN,rel_of_pairwise_cons->adS,getElem_inj->adX,any_eq_true->ad2,nodup_range->ad3,eq_of_mem_replicate->ad8,of_mem_zip->aed,find?_some->aeg,pairwise_lt_range->aes,forIn_nil->aew,drop_zero->aex,nodup_nil->aey,min?_eq_some_iff->aeB,mem_append_left->aeF,getElem?_zipIdx->aeK,drop_eq_nil_iff->aeN,count->aeO,take_succ_cons->aeX,drop_succ_cons->aeY,filter_sublist->ae2,flatMap_append->ae4,zip_nil_right->aff,zip_cons_cons->afg,any_nil->afh,take_sublist->afo,getElem?_inj->afx,zip_nil_left->afz,length->afC,length_drop->afN,mem_reverse->afQ,mem_flatMap->af1,foldl->af6,find?_cons->af_
open PySem.Str renaming ofString->Zt
open Bool renaming and_eq_true->Zv,not_false->ZO,not_true->ZP,false_eq_true->Z1,or_eq_true->aaa,not_eq_true'->aau,or_eq_false_iff->aaw,false_ne_true->aaN,not_eq_true->abF,eq_iff_iff->ade,or_false->adG,and_true->adH,and_self->adJ,not_eq_false'->afe,eq_false_iff->afA,not_eq_false->afB,false_and->agj,and_false->agq
open Option renaming bind_some->Zw,map_eq_some_iff->ZM,map_some->aaV,isSome_iff_exists->acq,getD_none->afO,getD_some->afR
open PySem.Heap renaming get?_push_of_some->Zy,get?_push_size->ZF,lt_size->ZH,get?_push_ne->abb,get?_update_self->abo,get?_update_other->abQ,size_update->ab7,SameBut->acn,size_push->ads,get?_update_ne->ae1,ExtBut->afH
open Nat renaming le_refl->ZA,ne_of_lt->ZX,lt_of_lt_of_le->Z7,zero_le->aab,lt_succ_of_lt->aaI,le_trans->aaJ,le_of_ble_eq_true->aaK,add_mul->aaQ,ble_eq_true_of_le->aa4,lt_irrefl->abq,zero_add->abV,ble->acy,le_of_succ_le->acE,le_of_lt->acX,sub_self->ac7,mul_comm->ac_,lt_succ_self->ad1,zero_mul->ad9,le_mul_of_pos_right->aea,le_succ->aeo,mul_le_mul_right->aeP,ne_of_gt->ae9,add_sub_cancel->afj
open PySem.W renaming Frag->ZD,kia_one->aaW,keepIn->aa3,nsIn->abm,fnOf->abB,kas_sort->abG,OpenLaw->ab1,kas_ask->ab2,codeIn->adl,methodObj->adK,cellsFrom_some->aek,WalkO->aeR,mg_of->aeT,pyHash_slot->ae3,callWith_K->afa,kitx_list->afr,kitx_dict->afs,kat_cons->afX,kat_kind->afY,kat_nil->agf,kat_lt->agA,Looks->ag1
open PySem.AutoSeq1 renaming wpAny_loadPart'->aae,sub_tuple_tuple->aa9,idx_int->ab5,sub_list_list->aem
open PySem.NameKind renaming cell->aar,free->aaC
open PyProof.Rows renaming slot_tuple_getitem->aat,seqObj->aaL,callWith_type1->abl,subscriptTail_builtinR->abP,AllBare->acR,envOfC->ac3,IntsAre->ado,sortedHeap->adQ,SortKind->ad5,get?_update_seq->aeh,entry_tuple_getitem->aeW,boot_tuple->afG,boot_dict->af2,boot_int->agh
open Option.some renaming injEq->aaA,inj->aaM
open PySem.Value renaming type->aaD,ref->abz,none->ab3,isStrOf->acK,bool->acW,notImplemented->ac8,int->aeb,builtin->ag2
open PySem.Obj renaming mapSeq->aa7,data_mapFields->acu,isFreed_of_fields->aeA,cls_mapFields->afu,mapDictKeys->agd
open ForInStep renaming yield->aa8
open PySem.Around renaming under_plainId->aa_
open PySem.Heap.SameBut renaming update->abf
open Ne renaming symm->abg
open Int renaming toNat_natCast->abr,emod_lt_of_pos->acw,emod_nonneg->adb,toNat_of_nonneg->aeZ,natCast_mul->af9,le_antisymm->aga
open False renaming elim->abu
open PySem.Builtin.Slice renaming slicePlaces->abv,sliceAdjust->acj,sliceApplied->adF
open Array renaming getElem?_eq_getElem->abx,getElem?_eq_some_iff->acd,length_toList->ach,mem_of_getElem?->acT,getElem?_toList->aez,mem_toList_iff->aeL,forIn_toList->afd,getElem_mem->aft
open PySem.Builtin.SmallTypes renaming nextOf->aby
open PySem.Builtin.Tuple renaming tupleExact->abC,tupleItemsOf->ab_,tupleHashOf->adM,tupleTooMany->aen
open PySem.Builtin.List renaming listTooLong->abD,listFitsIndex->acb,listExtendWith->adB
open PySem.Builtin.Dict renaming updateFrom->abJ,addKeywords->ad6,selfAndRest->ad7,pairItems->aer
open True renaming intro->abN
open PySem.PyData renaming keyHash->abZ
open List.Pairwise renaming filter->ab8
open PySem.F renaming args_tuple_add_2->acr,entry_tuple_add->acA,plainAttrs_list->acC,slot_tuple_add->acG,slot_dict_get->acU,entry_dict_get->aeq
open PySem.Calls renaming callWith_builtin->acH,Name_function_global->adC,call_function_entry->adR,evalArgs_plain->aeH,Constant_str->ae8
open PySem.W.KatTups renaming cons->ada,nil->ajm
open PySem.Challenge renaming pw_wholeglance_k36_whole_plain_run_of_looks->adi
open Prod renaming ext->adm
open PySem.Builtin.Dict_items renaming ownsTuple->adu
open PySem.Data renaming cell->adx,dict->afc,seq->afP
open PySem.ScopeKind renaming function->adA
open Sum renaming inl->adT,inr->adU
open List.cons renaming injEq->aef
open PySem.SetTable renaming below->aev,Probe->ago
open PySem.W.Looks renaming of_pure->aeD
open PUnit renaming unit->aeM
open PySem.Shared renaming TypeIs->aeS
open Std.Legacy.Range renaming forIn_eq_forIn_range'->ae0,size->air
open PySem.SeqAt.EqAt renaming int_str->ae5,str_int->ae6
open Function renaming comp_def->afq
set_option bootstrap.genMatcherCode false
set_option genSizeOf false
set_option Elab.async false
set_option linter.all false
set_option maxRecDepth 100000
namespace L2
open PySem PySem.Spec PyProof.Rows
abbrev Key:=Sum Int Str
noncomputable def t7:Key->Value->Bool
 |.inl k,v=>Value.isInt k v
 |.inr x,v=>acK x v
noncomputable def Te (w:World):Key->Int
 |.inl k=>hashInt k
 |.inr x=>hashStr w x
theorem cT:∀{k:Key} {v:Value},t7 k v=true->(∃i t,k=adT i/\v=aeb i t)\/(∃x t,k=adU x/\v=Value.str x t)
 |.inl i,v,h=>by
  obtain⟨t,e⟩:=Value.isInt_shape (k:=i) (v:=v) h
  exact .inl ⟨i,t,rfl,e⟩
 |.inr x,v,h=>by
  obtain⟨t,e⟩:=Value.isStrOf_shape (x:=x) (v:=v) h
  exact .inr ⟨x,t,rfl,e⟩
theorem AG (x:Str)(t:Tok):t7 (.inr x) (.str x t)=true:=by simp[t7,acK]
theorem JX (a b:Int):decide ((adT a:Key)=adT b)=(a == b):=by
 by_cases e:a=b
 . subst e;simp
 . have h:¬(adT a:Key)=adT b:=λq=>e (Sum.inl.inj q)
   rw[decide_eq_false h]
   exact(beq_eq_false_iff_ne.mpr e).symm
theorem JY (a b:Str):decide ((adU a:Key)=adU b)=decide (a=b):=by
 by_cases e:a=b
 . subst e;simp
 . have h:¬(adU a:Key)=adU b:=λq=>e (Sum.inr.inj q)
   rw[decide_eq_false h,decide_eq_false e]
theorem JZ (a:Int)(b:Str):decide ((adT a:Key)=adU b)=false:=decide_eq_false (λq=>nomatch q)
theorem J0 (a:Str)(b:Int):decide ((adU a:Key)=adT b)=false:=decide_eq_false (λq=>nomatch q)
noncomputable def dQ (prog:ZW)(w:World):PySem.KeyKind prog w Key where
 is:=t7
 hash:=Te w
 inj:=λv a b l f=>by
  rcases cT l with⟨i,t,rfl,rfl⟩|⟨x,t,rfl,rfl⟩
  . rcases cT f with⟨j,u,rfl,e⟩|⟨y,u,rfl,e⟩
    . injection e with e1 _;rw[e1]
    . exact nomatch e
  . rcases cT f with⟨j,u,rfl,e⟩|⟨y,u,rfl,e⟩
    . exact nomatch e
    . injection e with e1 _;rw[e1]
 byValue:=λk v h=>by
  rcases cT h with⟨i,t,rfl,rfl⟩|⟨x,t,rfl,rfl⟩<;>rfl
 pyHash:=λc h=>by
  rcases cT c with⟨i,t,rfl,rfl⟩|⟨x,t,rfl,rfl⟩
  . exact wpAny_pyHash_int h
  . exact wpAny_pyHash_str h
 eqBool:=λhu c h=>by
  rcases cT hu with⟨i,t,rfl,rfl⟩|⟨x,t,rfl,rfl⟩
  . rcases cT c with⟨j,u,rfl,rfl⟩|⟨y,u,rfl,rfl⟩
    . rw[JX]at h;exact wpAny_eqBool_int h
    . rw[JZ]at h;exact ae5 i t y u _ _ _ _ h
  . rcases cT c with⟨j,u,rfl,rfl⟩|⟨y,u,rfl,rfl⟩
    . rw[J0]at h;exact ae6 x t j u _ _ _ _ h
    . rw[JY]at h;exact wpAny_eqBool_str h
 «strs»:=λk x t v h=>by
  rcases cT h with⟨i,u,rfl,e⟩|⟨y,u,rfl,e⟩
  . exact nomatch e
  . injection e with e1 _
    subst e1
    cases v<;>rfl
theorem oG (prog:ZW)(w:World)(x:Str)(t:Tok):(dQ prog w).is (.inr x) (.str x t)=true:=AG x t
inductive V where
 |aq|bl (b:Bool)|int (i:Int)|str (x:Str)|AH (b:Array UInt8)|eO (b:UInt64)|ref (a:Addr)|ty (n:String)
 deriving DecidableEq
noncomputable def RelV:V->Value->Prop
 |.aq,u=>u=ab3
 |.bl b,u=>u=acW b
 |.int i,u=>∃t,u=aeb i t
 |.str x,u=>∃t,u=Value.str x t
 |.AH b,u=>∃t,u=Value.bytes b t
 |.eO b,u=>∃t,u=Value.float b t
 |.ref a,u=>u=abz a
 |.ty n,u=>u=aaD n
noncomputable abbrev Vals:List V->List Value->Prop:=Paired RelV
theorem Vals.length {xs:List V}{us:List Value}(r:Vals xs us):xs.length=us.length:=Paired.length r
theorem Vals.get:∀{xs:List V} {us:List Value} {i:Nat} {x:V},Vals xs us->xs[i]? = some x->∃u,us[i]? = some u/\RelV x u
 |_,_,_,_,.nil,e=>by simp at e
 |_,_,0,_,.cons r _,e=>by simp at e;subst e;exact⟨_,rfl,r⟩
 |_,_,i+1,x,.cons _ t,e=>by
  obtain⟨u,a,b⟩:=Vals.get (i:=i) (x:=x) t (by simpa using e)
  exact⟨u,by simpa using a,b⟩
theorem Vals.set {x:V}{u:Value}(r:RelV x u):∀{xs:List V} {us:List Value} (i:Nat),Vals xs us->Vals (xs.set i x) (us.set i u)
 |_,_,_,.nil=>.nil
 |_,_,0,.cons _ t=>.cons r t
 |_,_,i+1,.cons q t=>.cons q (Vals.set r i t)
theorem Vals.append:∀{xs ys:List V} {us ws:List Value},Vals xs us->Vals ys ws->Vals (xs++ys) (us++ws)
 |_,_,_,_,.nil,s=>s
 |_,_,_,_,.cons r t,s=>.cons r (Vals.append t s)
theorem Vals.take:∀{xs:List V} {us:List Value} (n:Nat),Vals xs us->Vals (xs.take n) (us.take n)
 |_,_,0,_=>.nil
 |_,_,_+1,.nil=>.nil
 |_,_,n+1,.cons r t=>.cons r (Vals.take n t)
theorem Vals.drop:∀{xs:List V} {us:List Value} (n:Nat),Vals xs us->Vals (xs.drop n) (us.drop n)
 |_,_,0,r=>r
 |_,_,_+1,.nil=>.nil
 |_,_,n+1,.cons _ t=>Vals.drop n t
noncomputable def J3:Option V->Option Value->Prop
 |some v,some u=>RelV v u
 |none,none=>True
 |_,_=>False
noncomputable def KV {κ:Type}:List (κ×V)->List (κ×Value)->Prop:=Paired λ(p:κ×V) (q:κ×Value)=>p.1=q.1/\RelV p.2 q.2
noncomputable def kV:Key->V
 |.inl i=>.int i
 |.inr x=>.str x
def f6 (h:Heap)(a:Addr)(items:Array Value):Prop:=∃o,h.get? a=some o/\o.cls = .type "tuple" /\ (∃n,o.data = .seq items n)/\o.dict=none
theorem f6.t {h:Heap}{a:Addr}{items:Array Value}(p:f6 h a items):IsTup h a items:=let⟨o,h1,h2,h3,_⟩:=p;⟨o,h1,h2,h3⟩
theorem f6.new (h:Heap)(av:Array Value):f6 (h.push { cls:=.type "tuple",data:=.seq av }) h.objs.size av:=⟨_,ZF _ rfl,rfl,⟨_,rfl⟩,rfl⟩
inductive HO where
 |lst (xs:List V)
 |tup (xs:List V)
 |dK (dE:List (Key×V))|dT (dE:List (List Key×V))
 |set (S:Int->Bool) (n:Nat)
 |ins (C dx:Addr) (fs:List (Str×V))
 |own (x:Addr)
 |xd (fs:List (Str×V))
 |met (f x:Addr)
 |ic (lo hi:Int)
 |mF (o:Obj) (u:HO)
 |cM (ps:Array Value)
 |ext (φ:Heap->Prop)
abbrev Hp:=Addr->Option HO
noncomputable def upd (H:Hp)(a:Addr)(o:HO):Hp:=λb=>if b=a then some o else H b
theorem bG {H:Hp}{a:Addr}{o:HO}:upd H a o a=some o:=by unfold upd;rw[if_pos rfl]
theorem aT {H:Hp}{a b:Addr}{o:HO}(h:b≠a):upd H a o b=H b:=by unfold upd;rw[if_neg h]
theorem y6 {H:Hp}{a b:Addr}{o u:HO}(h:H a=some o)(h':H b=some u)(d:o≠u):a≠b:=by
 intro e;subst e;rw[h]at h';exact d (aaM h')
theorem bY {H:Hp}{a b:Addr}{o:HO}(h:H a=some o)(h':H b=none):a≠b:=by
 intro e;subst e;rw[h]at h';cases h'
section
variable (P:ZW)(w:World)
noncomputable def cY (H:Hp)(h:Heap)(a:Addr):HO->Prop
 |.lst xs=>xs.length<=ZQ /\ ∃(av:List Value) (n:Nat),Vals xs av/\h.get? a=some { cls:=.type "list",data:=.seq av.toArray n }
 |.tup xs=>xs.length<=ZQ /\ ∃av:List Value,Vals xs av/\f6 h a av.toArray
 |.dK dE=>dE.length<=ZQ/\(a == abi)=false /\ ∃vs,KV dE vs/\h.DictOf (dQ P w) a vs
 |.dT dE=>dE.length<=ZQ/\(a == abi)=false /\ ∃xs:List (List Key×Addr×Value),
  Paired (λ(p:List Key×V) (q:List Key×Addr×Value)=>p.1=q.1/\H q.2.1=some (.tup (p.1.map kV))/\RelV p.2 q.2.2) dE xs /\
  ∃o es ep,h.get? a=some o/\o.ExactDict/\o.data = .dict es ep/\es.toList=xs.map (entryOfKey (tupleKind (dQ P w)))/\(xs.map (·.1)).Nodup
 |.set S n=>h.SetOf (intKind P w) a S n
 |.ins C dx fs=>H dx=some (.own a)/\fs.length<=1000/\dx≠a/\h.get? a=some (PySem.W.instObj C dx) /\
  ∃mA,h.Ns1 dx mA/\(∀f,J3 (fs.lookup f) (mA f))/\PySem.Within mA (fs.map (·.1))
 |.own _=>∃o,h.get? a=some o
 |.xd fs=>∃mA,h.Ns1 a mA /\ ∀f,J3 (fs.lookup f) (mA f)
 |.ic lo hi=>∃t u v,h.get? a=some { cls:=.type "range",data:=.fields #[.int lo t,.int hi u,.int 1 v] }
 |.mF o u=>h.get? a=some o/\cY H h a u
 |.cM ps=>h.get? a=some { cls:=.none,data:=.fields ps }
 |.met f x=>h.get? a=some (adK (.ref f) (.ref x))
 |.ext φ=>φ h/\(∃o,h.get? a=some o) /\ ∀h1 h2:Heap,φ h1->(∀o,h1.get? a=some o->h2.get? a=some o)->φ h2
def eY (H:Hp)(h:Heap):Prop:=∀a o,H a=some o->cY P w H h a o
end
section
variable {P:ZW}{w:World}{H H':Hp}{h h':Heap}{a:Addr}{o:HO}
theorem cY.lt (x:cY P w H h a o):a<h.objs.size:=by
 cases o with
 |lst xs=>obtain⟨_,_,_,_,e⟩:=x;exact ZH e
 |tup xs=>obtain⟨_,_,_,p⟩:=x;exact p.t.lt
 |dK dE=>obtain⟨_,_,_,_,o,_,_,e,_⟩:=x;exact ZH e
 |dT dE=>obtain⟨_,_,_,_,o,_,_,e,_⟩:=x;exact ZH e
 |set S n=>obtain⟨o,_,_,_,e,_⟩:=x;exact ZH e
 |ins C dx fs=>obtain⟨_,_,_,e,_⟩:=x;exact ZH e
 |own y=>obtain⟨_,e⟩:=x;exact ZH e
 |xd fs=>obtain⟨_,⟨_,_,_,e,_⟩,_⟩:=x;exact ZH e
 |ic lo hi=>obtain⟨_,_,_,e⟩:=x;exact ZH e
 |mF ob u=>obtain⟨e,_⟩:=x;exact ZH e
 |cM ps=>exact ZH (show h.get? a=some _ from x)
 |met f y=>exact ZH (show h.get? a=some _ from x)
 |ext φ=>obtain⟨_,⟨_,e⟩,_⟩:=x;exact ZH e
theorem Paired.J4 {α β:Type}{F G:α->β->Prop}:∀{l₁:List α} {l₂:List β},Paired F l₁ l₂->(∀a b,F a b->G a b)->Paired G l₁ l₂
 |_,_,.nil,_=>.nil
 |_,_,.cons r t,f=>.cons (f _ _ r) (Paired.J4 t f)
theorem cY.pB (x:cY P w H h a o)(k:∀b u,(b=a\/H b=some (.own a))->h.get? b=some u->h'.get? b=some u)
  (ho:∀b,H b=some (.own a)->H' b=some (.own a)) (ht:∀b xs,H b=some (.tup xs)->H' b=some (.tup xs)):cY P w H' h' a o:=by
 induction o with
 |lst xs=>obtain⟨z,av,n,r,e⟩:=x;exact⟨z,av,n,r,k _ _ (.inl rfl) e⟩
 |tup xs=>obtain⟨z,av,r,i,e,c⟩:=x;exact⟨z,av,r,i,k _ _ (.inl rfl) e,c⟩
 |dK dE=>obtain⟨z,y,vs,r,i,j,l,e,c⟩:=x;exact⟨z,y,vs,r,i,j,l,k _ _ (.inl rfl) e,c⟩
 |dT dE =>
  obtain⟨z,y,xs,r,i,j,l,e,c⟩:=x
  exact⟨z,y,xs,Paired.J4 r λp q z=>⟨z.1,ht _ _ z.2.1,z.2.2⟩,i,j,l,k _ _ (.inl rfl) e,c⟩
 |set S n=>obtain⟨i,j,l,t,e,c⟩:=x;exact⟨i,j,l,t,k _ _ (.inl rfl) e,c⟩
 |ins C dx fs =>
  obtain⟨d,z,ne,e,m,⟨s,j,l,e2,c⟩,r⟩:=x
  exact⟨ho _ d,z,ne,k _ _ (.inl rfl) e,m,⟨s,j,l,k _ _ (.inr d) e2,c⟩,r⟩
 |own y=>obtain⟨i,e⟩:=x;exact⟨i,k _ _ (.inl rfl) e⟩
 |xd fs=>obtain⟨m,⟨s,j,l,e,c⟩,r⟩:=x;exact⟨m,⟨s,j,l,k _ _ (.inl rfl) e,c⟩,r⟩
 |ic lo hi=>obtain⟨t,u,v,e⟩:=x;exact⟨t,u,v,k _ _ (.inl rfl) e⟩
 |mF i u ih=>obtain⟨e,q⟩:=x;exact⟨k _ _ (.inl rfl) e,ih q⟩
 |cM ps =>
  have e:h.get? a=some { cls:=.none,data:=.fields ps }:=x
  show h'.get? a=some { cls:=.none,data:=.fields ps }
  exact k a _ (.inl rfl) e
 |met f y =>
  have e:h.get? a=some (adK (.ref f) (.ref y)):=x
  show h'.get? a=some (adK (.ref f) (.ref y))
  exact k a _ (.inl rfl) e
 |ext φ=>obtain⟨p,⟨o,e⟩,st⟩:=x;exact⟨st _ _ p λo q=>k _ _ (.inl rfl) q,⟨o,k _ _ (.inl rfl) e⟩,st⟩
theorem eY.lt (x:eY P w H h)(e:H a=some o):a<h.objs.size:=(x a o e).lt
theorem eY.fresh (x:eY P w H h)(e:h.objs.size<=a):H a=none:=by
 cases q:H a with
 |none=>rfl
 |some u=>exact absurd (Z7 (x.lt q) e) (abq _)
theorem eY.kept (x:eY P w H h)(k:∀b u,h.get? b=some u->h'.get? b=some u):eY P w H h':=λa o e =>
 (x a o e).pB (λb u _ q=>k b u q) (λ_ q=>q) λ_ _ q=>q
theorem eY.laid (x:eY P w H h)(k:∀b u,h.get? b=some u->h'.get? b=some u)(hp:h.objs.size<=a)(new:cY P w (upd H a o) h' a o):eY P w (upd H a o) h':=λb u e=>by
 have f:=x.fresh hp
 by_cases hb:b=a
 . subst hb;rw[bG]at e;cases e;exact new
 . rw[aT hb]at e
   exact(x b u e).pB (λc v _ q=>k c v q) (λc q=>by rw[aT (bY q f)];exact q) λc xs q=>by rw[aT (bY q f)];exact q
end
def Rd (H:Hp)(a:Addr)(u:HO):Prop:=H a=some u \/ ∃o,H a=some (.mF o u)
theorem Rd.ok {P:ZW}{w:World}{H:Hp}{h:Heap}{a:Addr}{u:HO}(r:Rd H a u)(x:eY P w H h):cY P w H h a u:=by
 rcases r with r|⟨o,r⟩
 . exact x a u r
 . obtain⟨_,q⟩:=x a _ r
   exact q
noncomputable def FU:Option HO->Prop
 |some (.lst _)=>True
 |some (.dK _)=>True
 |some (.dT _)=>True
 |some (.set _ _)=>True
 |some (.ins _ _ _)=>True
 |some (.ext _)=>True
 |_=>False
section
variable {P:ZW}{w:World}{H:Hp}{h h':Heap}{x e:Addr}{o':HO}
theorem eY.write (ok:eY P w H h)(mu:FU (H x))(he:e=x\/H e=some (.own x))(k:∀b u,b≠e->h.get? b=some u->h'.get? b=some u)(xF:∃u,h'.get? e=some u)
   (new:cY P w (upd H x o') h' x o'):eY P w (upd H x o') h':=λb u q=>by
 have i:∀c y,H c=some (.own y)->c≠x:=λc y r z=>by subst z;rw[r]at mu;exact mu
 have j:∀c xs,H c=some (.tup xs)->c≠x:=λc xs r z=>by subst z;rw[r]at mu;exact mu
 by_cases hb:b=x
 . subst hb;rw[bG]at q;cases q;exact new
 . rw[aT hb]at q
   by_cases uz:b=e
   . have f:H b=some (.own x):=by
       rcases he with z|z
       . exact absurd (uz.trans z) hb
       . rw[uz];exact z
     rw[q]at f;cases f
     obtain⟨v,l⟩:=xF
     exact⟨v,by rw[uz];exact l⟩
   . refine(ok b u q).pB (λc v a r=>k c v ?_ r) (λc r=>by rw[aT (i c b r)];exact r) λc xs r=>by rw[aT (j c xs r)];exact r
     rcases a with rfl|a
     . exact uz
     . rintro rfl
       rcases he with z|z
       . exact i c b a z
       . rw[a]at z;cases z;exact hb rfl
end
structure Un (fs ex:List Addr)(H H':Hp)(h h':Heap):Prop where
 keep:∀b o,h.get? b=some o->H b=none->b ∉ fs->b ∉ ex->h'.get? b=some o
 slot:∀b o,h.get? b=some o->H b=none->b∈fs->b ∉ ex->∃sl,h'.get? b=some { o with slots:=sl }
 free:∀b o,h.get? b=some o->H b=none->b ∉ ex->H' b=none
 there:∀b o,h.get? b=some o->b ∉ ex->∃o',h'.get? b=some o'
 mG:∀b xs,H b=some (.tup xs)->H' b=some (.tup xs)
 lB:∀b o u,H b=some (.mF o u)->H' b=some (.mF o u)
 mH:∀b ps,H b=some (.cM ps)->∃more,H' b=some (.cM (ps++more))
section
variable {fs Y0 ex Y1:List Addr}{H H1 H2:Hp}{h h1 h2 h':Heap}{a x e:Addr}{o:HO}
theorem Un.any (u:Un fs ex H H1 h h1){b:Addr}{ob:Obj}(q:h.get? b=some ob)(n:H b=none)(hx:b ∉ ex):∃sl,h1.get? b=some { ob with slots:=sl }:=by
 by_cases hb:b∈fs
 . exact u.slot b ob q n hb hx
 . exact⟨ob.slots,u.keep b ob q n hb hx⟩
theorem Un.kept (k:∀b u,h.get? b=some u->h'.get? b=some u):Un fs ex H H h h' :=
 ⟨λb a q _ _ _=>k b a q,λb a q _ _ _=>⟨a.slots,k b a q⟩,λ_ _ _ n _=>n,λb a q _=>⟨a,k b a q⟩,λ_ _ q=>q,λ_ _ _ q=>q,λ_ c q=>⟨#[],by rw[q];simp⟩⟩
theorem Un.refl:Un fs ex H H h h:=Un.kept λ_ _ q=>q
theorem Un.laid (k:∀b u,h.get? b=some u->h'.get? b=some u)(hp:h.objs.size<=a)(hn:H a=none):Un fs ex H (upd H a o) h h' where
 keep:=λb u q _ _ _=>k b u q
 slot:=λb u q _ _ _=>⟨u.slots,k b u q⟩
 free:=λb u q n _=>by rw[aT (ZX (Z7 (ZH q) hp))];exact n
 there:=λb u q _=>⟨u,k b u q⟩
 mG:=λb xs q=>by rw[aT (bY q hn)];exact q
 lB:=λb u xs q=>by rw[aT (bY q hn)];exact q
 mH:=λb c q=>⟨#[],by rw[aT (bY q hn),q];simp⟩
theorem Un.write (mu:FU (H x))(he:e=x\/H e=some (.own x))(k:∀b u,b≠e->h.get? b=some u->h'.get? b=some u)(xF:∃u,h'.get? e=some u):Un fs ex H (upd H x o) h h':=by
 have a:∀b,H b=none->b≠x:=λb n z=>by subst z;rw[n]at mu;exact mu
 have c:∀b,H b=none->b≠e:=λb n z=>by
   subst z
   rcases he with r|r
   . exact a b n r
   . rw[n]at r;cases r
 have hm:∀b u,H b=some u->¬FU (some u)->b≠x:=λb u q nm z=>by subst z;rw[q]at mu;exact nm mu
 refine⟨λb u q n _ _=>k b u (c b n) q,λb u q n _ _=>⟨u.slots,k b u (c b n) q⟩,λb u q n _=>by rw[aT (a b n)];exact n,λb u q _=>?_,
   λb xs q=>by rw[aT (hm b _ q λz=>z)];exact q,λb u xs q=>by rw[aT (hm b _ q λz=>z)];exact q,λb f q=>⟨#[],by rw[aT (hm b _ q λz=>z),q];simp⟩⟩
 by_cases uz:b=e
 . subst uz;exact xF
 . exact⟨u,k b u uz q⟩
end
noncomputable def su (h:Heap)(H:Hp):List Addr:=(Zp h.objs.size).filter λa=>(H a).isSome
noncomputable def lC (h:Heap)(H:Hp):Heap:=PySem.W.hideAll h (su h H)
theorem AI (h:Heap)(H:Hp):(lC h H).objs.size=h.objs.size:=PySem.W.hideAll_size _ _
theorem Dr {h:Heap}{H:Hp}{b:Addr}{o:Obj}(e:h.get? b=some o)(n:H b=none):(lC h H).get? b=some o :=
 PySem.W.hideAll_get _ e λhm=>by
  have q:(H b).isSome=true:=(aaE.mp hm).2
  rw[n]at q;simp at q
theorem Hz {h:Heap}{H:Hp}{b:Addr}{o:Obj}(e:(lC h H).get? b=some o):h.get? b=some o/\H b=none:=by
 have a:h.get? b=some o:=PySem.W.of_hideAll (su h H) e
 refine⟨a,?_⟩
 cases q:H b with
 |none=>rfl
 |some x =>
  have hm:b∈su h H:=aaE.mpr ⟨Z_.mpr (ZH a),by simp[q]⟩
  have z:(lC h H).get? b=none:=PySem.W.hideAll_none (su h H) hm
  rw[z]at e;cases e
noncomputable def HA (g h:Heap)(L:Addr):List (Addr×Obj):=(Zp h.objs.size).filterMap λa=>if a=L\/(g.get? a).isSome=true then none else(h.get? a).map λo=>(a,o)
noncomputable def rest (g h:Heap)(L d:Addr):List (Addr×Obj):=(HA g h L).filter λp=>decide (p.1≠d)
structure Mod (K:ZD)(mg:Str->Option Value)(base:Heap):Prop where
 FV:K.In base
 glob:base.Ns aal mg
 blt:∃mb,base.Ns adL mb /\ ∀x:Str,x ≠ "__name__"->mb x=aa0 x
 nolimit:base.NoLimit
structure Cx where
 prog:ZW
 w:World
 K:ZD
 mg:Str->Option Value
 base:Heap
 A:Z0
 N:List Str
 s₀:Zq
 H₀:Hp
 env:Env
 outer:List Env
 stack:List Env
 ex:List Addr
 fn:Str->Bool
 calm:Bool
 pn:List (Addr×Obj)
 xe:Value->Zq->Prop
noncomputable def l5 (l:List Env):List Addr:=l.filterMap (·.frame)
noncomputable abbrev Cx.fs (X:Cx):List Addr:=l5 X.outer
def AJ (sc:Scope)(x:Str):Prop:=sc.names.lookup x=some .local\/sc.names.lookup x=some .cell\/sc.names.lookup x=some .free
def Loc (sc:Scope)(x:Str):Prop:=sc.names.lookup x=some .local\/sc.names.lookup x=some .cell
noncomputable def Look (env:Env)(h:Heap)(m:Str->Option Value)(x:Str)(u:Value):Prop :=
 (env.kindOf x=some .local/\m x=some u)\/((env.kindOf x=some .cell\/env.kindOf x=some .free) /\ ∃c,env.cells.lookup x=some c/\h.IsCell c (some u))
structure Cx.Ok (X:Cx):Prop where
 mod:Mod X.K X.mg X.base
 kind:X.env.scope.kind = .function
 glob:X.env.globals=aal
 blt:X.env.builtins=adL
 above:X.s₀.heap.objs.size<=X.env.locals
 inj:∀x y c,X.env.cells.lookup x=some c->X.env.cells.lookup y=some c->x=y
 has:∀x,(X.env.kindOf x=some .cell\/X.env.kindOf x=some .free)->∃c,X.env.cells.lookup x=some c
 AK:∀x c,X.fn x=true->X.env.cells.lookup x=some c->X.s₀.heap.objs.size<=c
 hd:X.calm=true->X.A.handled=none
 frames:X.A.frames=some X.stack
 uA:X.stack=X.outer\/(X.stack=X.env::X.outer/\X.env.frame=some X.env.locals)
 J6:∀b∈X.ex,b≠X.env.locals /\ ∀x c,X.env.cells.lookup x=some c->c≠b
 bs:∀b o,X.base.get? b=some o->X.s₀.heap.get? b=some o/\X.H₀ b=none
 sv:X.base.objs.size<=X.s₀.heap.objs.size
 uB:∀b o,X.base.get? b=some o->b ∉ X.ex
 uC:∀b∈X.ex,b ∉ X.fs
 jC:X.s₀.heap.FunFrames X.base X.outer
 xG:∀b∈X.fs,X.H₀ b=none
structure Inv (X:Cx)(pins:List (Addr×Obj))(σ:List (Option V))(H:Hp)(s:Zq):Prop where
 ok:X.Ok
 os:s.os=X.s₀.os
 bare:acR s.gens
 base:Un X.fs X.ex X.H₀ H X.s₀.heap s.heap
 loc:∃m,s.heap.Ns X.env.locals m /\ ∀(i:Nat) (x:Str) (v:V),X.N[i]? = some x->σ[i]? = some (some v)->AJ X.env.scope x->∃u,RelV v u/\Look X.env s.heap m x u
 cell:∀x c,X.env.cells.lookup x=some c->∃v,s.heap.IsCell c v
 free:H X.env.locals=none
 iG:∀x c,X.env.cells.lookup x=some c->H c=none
 pin:∀p∈X.pn++pins,s.heap.get? p.1=some p.2/\H p.1=none/\p.1≠X.env.locals/\p.1 ∉ X.fs /\ ∀v,p.2.data ≠ .cell v
 bo:eY X.prog X.w H s.heap
 len:σ.length=X.N.length
section
variable {X:Cx}{pins:List (Addr×Obj)}{σ:List (Option V)}{H H':Hp}{s:Zq}{h':Heap}
theorem Cx.Ok.Tg (ok:X.Ok){b:Addr}{o:Obj}(e:X.base.get? b=some o):b ∉ X.fs:=λa=>by
 have:=(ok.jC.mem a).1
 rw[e]at this;cases this
theorem Inv.bs (I:Inv X pins σ H s):∀b o,X.base.get? b=some o->s.heap.get? b=some o/\H b=none:=λb o e =>
 ⟨I.base.keep b o (I.ok.bs b o e).1 (I.ok.bs b o e).2 (I.ok.Tg e) (I.ok.uB b o e),I.base.free b o (I.ok.bs b o e).1 (I.ok.bs b o e).2 (I.ok.uB b o e)⟩
theorem Inv.bk (I:Inv X pins σ H s):∀b o,X.base.get? b=some o->s.heap.get? b=some o:=λb o e=>(I.bs b o e).1
theorem Inv.mod (I:Inv X pins σ H s):Mod X.K X.mg X.base:=I.ok.mod
theorem Inv.gL (I:Inv X pins σ H s):X.K.In s.heap:=I.ok.mod.FV.keeps I.bk
theorem Inv.lt (I:Inv X pins σ H s):X.env.locals<s.heap.objs.size:=let⟨_,hn,_⟩:=I.loc;hn.lt
theorem Inv.sz (I:Inv X pins σ H s):X.s₀.heap.objs.size<=s.heap.objs.size:=aaJ I.ok.above (acX I.lt)
theorem Inv.Th (I:Inv X pins σ H s){a:Addr}(h:s.heap.objs.size<=a):a ∉ X.fs:=λb=>by
 obtain⟨_,o,c,_⟩:=I.ok.jC.mem b
 exact absurd (Z7 (ZH c) (aaJ I.sz h)) (abq _)
theorem Inv.uD (I:Inv X pins σ H s):∀x c,X.env.cells.lookup x=some c->c≠X.env.locals:=λx c e z=>by
 obtain⟨v,o,a,hd⟩:=I.cell x c e
 obtain⟨m,⟨h,j,i,f,b,_⟩,_⟩:=I.loc
 rw[z,f]at a;cases a;rw[b]at hd;cases hd
theorem Inv.jC (I:Inv X pins σ H s):s.heap.FunFrames X.base X.outer:=by
 have all:∀(l:List Env),(∀b∈l5 l,b∈X.fs)->X.s₀.heap.FunFrames X.base l->s.heap.FunFrames X.base l:=by
  intro l
  induction l with
  |nil=>intro _ _;trivial
  |cons env r ih =>
   intro f k
   obtain⟨i,⟨L,o,hf,m,h,hd⟩,j⟩:=k
   have c:L∈X.fs:=f L (by unfold l5;rw[abI,hf];exact ZR)
   obtain⟨n,e⟩:=I.base.slot L o h (I.ok.xG L c) c λz=>I.ok.uC L z c
   exact⟨i,⟨L,_,hf,m,e,hd⟩,ih (λb a=>f b (by unfold l5;rw[abI,hf];exact ZV _ a)) j⟩
 exact all X.outer (λ_ a=>a) I.ok.jC
theorem Inv.stack (I:Inv X pins σ H s):s.heap.FunFrames X.base X.stack:=by
 rcases I.ok.uA with e|⟨e,hf⟩
 . rw[e];exact I.jC
 . rw[e]
   obtain⟨m,a,_⟩:=I.loc
   refine .cons (by rw[I.ok.kind];decide) hf a ?_ I.jC
   exact Heap.get?_none_of_le (aaJ I.ok.sv I.ok.above)
theorem Inv.uF (I:Inv X pins σ H s):∀b∈l5 X.stack,b∈X.env.locals::X.fs:=λb a=>by
 rcases I.ok.uA with e|⟨e,hf⟩
 . rw[e]at a;exact ZV _ a
 . rw[e]at a
   unfold l5 at a
   rw[abI,hf]at a
   exact a
theorem Inv.xH (I:Inv X pins σ H s):∀b∈l5 X.stack,H b=none:=λb a=>by
 rcases ZI.mp (I.uF b a)with e|a
 . rw[e];exact I.free
 . obtain⟨_,o,c,_⟩:=I.ok.jC.mem a
   exact I.base.free b o c (I.ok.xG b a) λz=>I.ok.uC b z a
theorem Inv.step {g':Array GenState}{t':Nat}{d':Drawn}{ch:List Addr}(I:Inv X pins σ H s)
   (oH:∀b∈ch,(b∈X.ex\/X.s₀.heap.objs.size<=b)/\b≠X.env.locals/\(∀x c,X.env.cells.lookup x=some c->c≠b) /\ ∀p∈X.pn++pins,p.1≠b)
   (keep:∀b o,b≠X.env.locals->b ∉ X.fs->b ∉ ch->s.heap.get? b=some o->H b=none->h'.get? b=some o)
   (slot:∀b o,b≠X.env.locals->b∈X.fs->b ∉ ch->s.heap.get? b=some o->H b=none->∃sl,h'.get? b=some { o with slots:=sl }) (free:∀b o,b ∉ ch->s.heap.get? b=some o->H b=none->H' b=none)
   (there:∀b o,b ∉ ch->s.heap.get? b=some o->∃o',h'.get? b=some o')
   (mG:∀b xs,H b=some (.tup xs)->H' b=some (.tup xs)) (lB:∀b o u,H b=some (.mF o u)->H' b=some (.mF o u)) (mH:∀b ps,H b=some (.cM ps)->∃more,H' b=some (.cM (ps++more)))
   (ns:∀m,s.heap.Ns X.env.locals m->h'.Ns X.env.locals m) (bo:eY X.prog X.w H' h') (hg:acR g'):
   Inv X pins σ H' { s with heap:=h',gens:=g',drawn:=d',toks:=t' }:=by
 have QX:∀b o,X.s₀.heap.get? b=some o->b≠X.env.locals:=λb o e=>ZX (Z7 (ZH e) I.ok.above)
 have FX:∀b o,X.s₀.heap.get? b=some o->b ∉ X.ex->b ∉ ch:=λb o e a h=>by
   rcases (oH b h).1 with z|z
   . exact a z
   . exact absurd (Z7 (ZH e) z) (abq _)
 have cellK:∀x c,X.env.cells.lookup x=some c->∀v,s.heap.IsCell c v->h'.IsCell c v:=λx c e v ⟨o,j,hd⟩=>by
   have y:c ∉ ch:=λz=>(oH c z).2.2.1 x c e rfl
   by_cases hc:c∈X.fs
   . obtain⟨sl,q⟩:=slot c o (I.uD x c e) hc y j (I.iG x c e)
     exact⟨_,q,hd⟩
   . exact⟨o,keep c o (I.uD x c e) hc y j (I.iG x c e),hd⟩
 refine⟨I.ok,I.os,hg,⟨λb o e n h a=>?_,λb o e n h a=>?_,λb o e n a=>?_,λb o e a=>?_,λb xs e=>mG b xs (I.base.mG b xs e),λb o xs e=>lB b o xs (I.base.lB b o xs e),λb ps e=>?_⟩,?_,λx c e=>?_,?_,λx c e=>?_,λp hp=>?_,bo,I.len⟩
 . exact keep b o (QX b o e) h (FX b o e a) (I.base.keep b o e n h a) (I.base.free b o e n a)
 . obtain⟨sl,f⟩:=I.base.slot b o e n h a
   obtain⟨Wy,e2⟩:=slot b _ (QX b o e) h (FX b o e a) f (I.base.free b o e n a)
   exact⟨Wy,e2⟩
 . obtain⟨o',f⟩:=I.base.there b o e a
   exact free b o' (FX b o e a) f (I.base.free b o e n a)
 . obtain⟨o',f⟩:=I.base.there b o e a
   exact there b o' (FX b o e a) f
 . obtain⟨m1,f⟩:=I.base.mH b ps e
   obtain⟨m2,e2⟩:=mH b _ f
   exact⟨m1++m2,by rw[e2,Array.append_assoc]⟩
 . obtain⟨m,hn,hl⟩:=I.loc
   refine⟨m,ns m hn,λi x v f e2 e3=>?_⟩
   obtain⟨u,r,l⟩:=hl i x v f e2 e3
   refine⟨u,r,?_⟩
   rcases l with l|⟨k,c,e,z⟩
   . exact .inl l
   . exact .inr ⟨k,c,e,cellK x c e _ z⟩
 . obtain⟨v,z⟩:=I.cell x c e
   exact⟨v,cellK x c e v z⟩
 . obtain⟨m,⟨o,_,_,j,_⟩,_⟩:=I.loc
   exact free _ o (λz=>(oH _ z).2.1 rfl) j I.free
 . obtain⟨v,o,j,hd⟩:=I.cell x c e
   exact free c o (λz=>(oH c z).2.2.1 x c e rfl) j (I.iG x c e)
 . obtain⟨e,n,ne,nf,d⟩:=I.pin p hp
   have y:p.1 ∉ ch:=λz=>(oH p.1 z).2.2.2 p hp rfl
   exact⟨keep p.1 p.2 ne nf y e n,free p.1 p.2 y e n,ne,nf,d⟩
theorem Inv.un {t':Nat}(I:Inv X pins σ H s)(u:Un X.fs [] H H' s.heap h')(bo:eY X.prog X.w H' h'):Inv X pins σ H' { s with heap:=h',toks:=t' }:=by
 obtain⟨m,⟨o,l,q,c,r⟩,_⟩:=id I.loc
 obtain⟨p,k⟩:=u.any c I.free (by simp)
 exact I.step (g':=s.gens) (d':=s.drawn) (ch:=[]) (λ_ z=>nomatch z) (λb o _ a _ e n=>u.keep b o e n a (by simp)) (λb o _ a _ e n=>u.slot b o e n a (by simp)) (λb o _ e n=>u.free b o e n (by simp)) (λb o _ e=>u.there b o e (by simp)) u.mG u.lB u.mH (λx hm=>by
  obtain⟨v,j,h,f,i⟩:=hm
  rw[c]at f;cases f
  exact⟨_,j,h,k,i⟩) bo I.bare
theorem Inv.call {g':Array GenState}{t':Nat}{d':Drawn}{ch:List Addr}(I:Inv X pins σ H s)(u:Un (l5 X.stack) ch H H' s.heap h')(bo:eY X.prog X.w H' h')(hg:acR g')
  (oH:∀b∈ch,(b∈X.ex\/X.s₀.heap.objs.size<=b)/\b≠X.env.locals/\(∀x c,X.env.cells.lookup x=some c->c≠b) /\ ∀p∈X.pn++pins,p.1≠b):
  Inv X pins σ H' { s with heap:=h',gens:=g',drawn:=d',toks:=t' }:=by
 obtain⟨m,⟨o,v,ep,h,r⟩,_⟩:=id I.loc
 obtain⟨y,f⟩:=u.any h I.free λz=>(oH _ z).2.1 rfl
 exact I.step (ch:=ch) oH (λb o f q a e n=>u.keep b o e n (λz=>(ZI.mp (I.uF b z)).elim f q) a) (λb o _ _ a e n=>u.any e n a) (λb o a e n=>u.free b o e n a) (λb o a e=>u.there b o e a) u.mG u.lB u.mH (λm' hm=>by
  obtain⟨o',l,j,i,k⟩:=hm
  rw[h]at i;cases i
  exact⟨_,l,j,f,k⟩) bo hg
theorem Inv.turned {t':Nat}{it:Addr}(I:Inv X pins σ H s)(k:∀b o,b≠it->s.heap.get? b=some o->h'.get? b=some o)(hn:H it=none)(hL:it≠X.env.locals)
   (h1:it∈X.ex\/X.s₀.heap.objs.size<=it) (h2:∀x c,X.env.cells.lookup x=some c->c≠it) (h3:∀p∈X.pn++pins,p.1≠it):Inv X pins σ H { s with heap:=h',toks:=t' }:=by
 have f:∀b u,H b=some u->b≠it:=λb u e z=>by rw[z,hn]at e;cases e
 refine I.step (g':=s.gens) (d':=s.drawn) (ch:=[it]) (λb j=>?_) (λb o _ _ a e _=>k b o (λz=>a (by simp[z])) e) (λb o _ _ a e _=>⟨o.slots,k b o (λz=>a (by simp[z])) e⟩) (λ_ _ _ _ n=>n)
   (λb o a e=>⟨o,k b o (λz=>a (by simp[z])) e⟩) (λ_ _ e=>e) (λ_ _ _ e=>e) (λb y e=>⟨#[],by rw[e];simp⟩) (λm hm=>?_) (λb u e=>?_) I.bare
 . have e:b=it:=by simpa using j
   subst e
   exact⟨h1,hL,h2,h3⟩
 . obtain⟨o,i,l,h,r⟩:=hm
   exact⟨o,i,l,k _ o (abg hL) h,r⟩
 . refine(I.bo b u e).pB (λc v a q=>k c v ?_ q) (λ_ q=>q) λ_ _ q=>q
   rcases a with z|z
   . rw[z];exact f b u e
   . exact f c _ z
theorem Inv.tok (I:Inv X pins σ H s)(t:Nat):Inv X pins σ H { s with toks:=t }:=I.un (h':=s.heap) (t':=t) Un.refl I.bo
theorem Inv.kept {t':Nat}(I:Inv X pins σ H s)(k:∀b u,s.heap.get? b=some u->h'.get? b=some u):Inv X pins σ H { s with heap:=h',toks:=t' }:=I.un (Un.kept k) (I.bo.kept k)
theorem Inv.laid {a:Addr}{o:HO}{t':Nat}(I:Inv X pins σ H s)(k:∀b u,s.heap.get? b=some u->h'.get? b=some u)(hp:s.heap.objs.size<=a)(new:cY X.prog X.w (upd H a o) h' a o):
 Inv X pins σ (upd H a o) { s with heap:=h',toks:=t' }:=I.un (Un.laid k hp (I.bo.fresh hp)) (I.bo.laid k hp new)
theorem Inv.write {x e:Addr}{o:HO}{t':Nat}(I:Inv X pins σ H s)(mu:FU (H x))(he:e=x\/H e=some (.own x))(k:∀b u,b≠e->s.heap.get? b=some u->h'.get? b=some u)(xF:∃u,h'.get? e=some u)
 (new:cY X.prog X.w (upd H x o) h' x o):Inv X pins σ (upd H x o) { s with heap:=h',toks:=t' }:=I.un (Un.write mu he k xF) (I.bo.write mu he k xF new)
theorem Inv.xI {FY:List (Addr×Obj)}(I:Inv X pins σ H s)(h:∀p∈FY,s.heap.get? p.1=some p.2/\H p.1=none/\p.1≠X.env.locals/\p.1 ∉ X.fs /\ ∀v,p.2.data ≠ .cell v):Inv X FY σ H s :=
 ⟨I.ok,I.os,I.bare,I.base,I.loc,I.cell,I.free,I.iG,λp a=>(ZN.mp a).elim (λz=>I.pin p (aeF _ z)) (h p),I.bo,I.len⟩
theorem uG {N:List Str}(hN:N.Nodup){i j:Nat}{x:Str}(a:N[i]? = some x)(b:N[j]? = some x):i=j:=by
 obtain⟨f,c⟩:=Zr.mp a
 obtain⟨h,e⟩:=Zr.mp b
 exact(adX hN).mp (c.trans e.symm)
theorem sA {M:Model}{A:Z0}{E:Value->Zq->Prop}{i:Nat}{x:Str}{v:V}{u:Value}{Q:Unit->Zq->Prop}(I:Inv X pins σ H s)(hN:X.N.Nodup)(hi:X.N[i]? = some x)(hx:Loc X.env.scope x)(r:RelV v u)
   (h:∀s',Inv X pins (σ.set i (some v)) H s'->(∃a,acn a s.heap s'.heap/\(a=X.env.locals\/X.env.cells.lookup x=some a))->Q () s') (hf:X.fn x=true\/X.env.scope.names.lookup x=some .local:=by first|exact .inl rfl|exact .inr rfl|assumption):wpAny M A (storeName X.env x u) Q E s:=by
 obtain⟨m,hn,hl⟩:=id I.loc
 have Ti:(X.env.scope.kind == .class||(X.env.scope.kind == .module&&X.env.locals != X.env.globals))=false:=by rw[I.ok.kind];rfl
 have ae:i < σ.length:=by rw[I.len];exact(Zr.mp hi).1
 have uD:=I.uD
 have tracked:∀{a:Addr} {h':Heap},(∃o,s.heap.get? a=some o/\H a=none)->acn a s.heap h'->eY X.prog X.w H h':=fun {a h'} ha f b ob e=>by
   obtain⟨_,_,p6⟩:=ha
   refine(I.bo b ob e).pB (λc w' hc q=>(f.2 c ?_).trans q) (λ_ q=>q) λ_ _ q=>q
   rintro rfl
   rcases hc with rfl|hc
   . rw[p6]at e;cases e
   . rw[p6]at hc;cases hc
 rcases hx with hk|hk
 . refine wpAny_storeName_local hk hn (λh' FZ f=>?_) Ti
   obtain⟨oL,_,_,sC,_⟩:=id hn
   refine h _ ⟨I.ok,I.os,I.bare,⟨λb o e n hb hx=>?_,λb o e n hb hx=>?_,I.base.free,λb o e hx=>?_,I.base.mG,I.base.lB,I.base.mH⟩,⟨_,FZ,λj y v' l e2 e3=>?_⟩,λy c e=>?_,I.free,I.iG,λp hp=>?_,tracked ⟨oL,sC,I.free⟩ f,by simpa using I.len⟩ ⟨_,f,.inl rfl⟩
   . exact(f.2 b (ZX (Z7 (ZH e) I.ok.above))).trans (I.base.keep b o e n hb hx)
   . obtain⟨sl,l⟩:=I.base.slot b o e n hb hx
     exact⟨sl,(f.2 b (ZX (Z7 (ZH e) I.ok.above))).trans l⟩
   . obtain⟨o',l⟩:=I.base.there b o e hx
     exact⟨o',(f.2 b (ZX (Z7 (ZH e) I.ok.above))).trans l⟩
   . by_cases hj:j=i
     . subst hj
       rw[hi]at l;cases l
       rw[ZL ae]at e2
       cases e2
       exact⟨u,r,.inl ⟨hk,by simp⟩⟩
     . rw[ZT (abg hj)]at e2
       obtain⟨u',r',q⟩:=hl j y v' l e2 e3
       refine⟨u',r',?_⟩
       rcases q with⟨k,e⟩|⟨k,c,e,z⟩
       . refine .inl ⟨k,?_⟩
         have:y≠x:=λe=>hj (uG hN l (e ▸ hi))
         simp[this,e]
       . exact .inr ⟨k,c,e,z.sameBut f (uD y c e)⟩
   . obtain⟨w',z⟩:=I.cell y c e
     exact⟨w',z.sameBut f (uD y c e)⟩
   . obtain⟨e,n,ne,nf,d⟩:=I.pin p hp
     exact⟨(f.2 p.1 ne).trans e,n,ne,nf,d⟩
 . have xJ:X.fn x=true:=by
     rcases hf with z|z
     . exact z
     . rw[z]at hk;cases hk
   obtain⟨c,hc⟩:=I.ok.has x (.inl hk)
   obtain⟨w',z⟩:=I.cell x c hc
   refine wpAny_storeName_cell I.ok.kind hk hc z (λh' F0 f=>?_)
   obtain⟨oc,QY,Tj⟩:=id z
   refine h { s with heap:=h' } ⟨I.ok,I.os,I.bare,⟨λb o e n hb hx=>?_,λb o e n hb hx=>?_,I.base.free,λb o e hx=>?_,I.base.mG,I.base.lB,I.base.mH⟩,⟨m,hn.sameBut f (abg (uD x c hc)),λj y v' l e2 e3=>?_⟩,λy c' e=>?_,I.free,I.iG,λp hp=>?_,tracked ⟨oc,QY,I.iG x c hc⟩ f,by simpa using I.len⟩ ⟨c,f,.inr hc⟩
   . exact(f.2 b (ZX (Z7 (ZH e) (I.ok.AK x c xJ hc)))).trans (I.base.keep b o e n hb hx)
   . obtain⟨sl,l⟩:=I.base.slot b o e n hb hx
     exact⟨sl,(f.2 b (ZX (Z7 (ZH e) (I.ok.AK x c xJ hc)))).trans l⟩
   . obtain⟨o',l⟩:=I.base.there b o e hx
     exact⟨o',(f.2 b (ZX (Z7 (ZH e) (I.ok.AK x c xJ hc)))).trans l⟩
   . by_cases hj:j=i
     . subst hj
       rw[hi]at l;cases l
       rw[ZL ae]at e2
       cases e2
       exact⟨u,r,.inr ⟨.inl hk,c,hc,F0⟩⟩
     . rw[ZT (abg hj)]at e2
       obtain⟨u',r',q⟩:=hl j y v' l e2 e3
       refine⟨u',r',?_⟩
       rcases q with q|⟨k,c',e,z'⟩
       . exact .inl q
       . refine .inr ⟨k,c',e,z'.sameBut f ?_⟩
         rintro rfl
         exact hj (uG hN l (I.ok.inj _ _ _ e hc ▸ hi))
   . by_cases QZ:c'=c
     . subst QZ;exact⟨_,F0⟩
     . obtain⟨w2,z2⟩:=I.cell y c' e
       exact⟨w2,z2.sameBut f QZ⟩
   . obtain⟨e,n,ne,nf,d⟩:=I.pin p hp
     refine⟨(f.2 p.1 ?_).trans e,n,ne,nf,d⟩
     intro q
     rw[q,QY]at e
     have q':oc=p.2:=aaM e
     exact d w' (by rw[<- q'];exact Tj)
theorem pC {M:Model}{A:Z0}{E:Value->Zq->Prop}{i:Nat}{x:Str}{v:V}{u:Value}{Q:Unit->Zq->Prop}(I:Inv X pins σ H s)(hN:X.N.Nodup)(hi:X.N[i]? = some x)(hx:Loc X.env.scope x)(r:RelV v u)
  (h:∀s',Inv X pins (σ.set i (some v)) H s'->Q () s') (hf:X.fn x=true\/X.env.scope.names.lookup x=some .local:=by first|exact .inl rfl|exact .inr rfl|assumption):wpAny M A (storeName X.env x u) Q E s :=
 sA I hN hi hx r (λs' a _=>h s' a) hf
theorem Inv.OI {s':Zq}{ch:List Addr}(I:Inv X pins σ H s)(ho:s'.os=s.os)(u:Un (l5 X.stack) ch H H' s.heap s'.heap)(bo:eY X.prog X.w H' s'.heap)(hg:acR s'.gens)
  (oH:∀b∈ch,(b∈X.ex\/X.s₀.heap.objs.size<=b)/\b≠X.env.locals/\(∀x c,X.env.cells.lookup x=some c->c≠b) /\ ∀p∈X.pn++pins,p.1≠b):Inv X pins σ H' s':=by
 obtain⟨f,g',d',t',a⟩:=s'
 have e:a=s.os:=ho
 subst e
 exact I.call (g':=g') (t':=t') (d':=d') u bo hg oH
end
abbrev XK:=Value->Option Addr->Hp->Prop
abbrev St:=List (Option V)
abbrev VK:=V->Hp->Prop
abbrev TE:=St->Hp->VK->Prop
abbrev TT:=St->Hp->(Bool->Hp->Prop)->Prop
abbrev TA:=St->Hp->(List V->Hp->Prop)->Prop
structure Ends where
 nx:St->Hp->Prop
 rt:VK
 bk:St->Hp->Prop:=λ_ _=>False
 ct:St->Hp->Prop:=λ_ _=>False
abbrev TS:=Ends->St->Hp->Prop
def EP (X:Cx)(pins:List (Addr×Obj))(σ:St)(Q:VK)(u:Value)(s':Zq):Prop:=∃v H',Inv X pins σ H' s'/\RelV v u/\Q v H'
def TP (X:Cx)(pins:List (Addr×Obj))(σ:St)(Q:Bool->Hp->Prop)(b:Bool)(s':Zq):Prop:=∃H',Inv X pins σ H' s'/\Q b H'
def AP (X:Cx)(pins:List (Addr×Obj))(σ:St)(Q:List V->Hp->Prop)(us:List Value)(s':Zq):Prop:=∃vs H',Inv X pins σ H' s'/\Vals vs us/\Q vs H'
noncomputable def SP (X:Cx)(pins:List (Addr×Obj))(D:Ends)(f:Flow)(s':Zq):Prop :=
 match f with
 |.next=>∃σ' H',Inv X pins σ' H' s'/\D.nx σ' H'
 |.brk=>∃σ' H',Inv X pins σ' H' s'/\D.bk σ' H'
 |.cont=>∃σ' H',Inv X pins σ' H' s'/\D.ct σ' H'
 |.ret u=>∃v σ' H',Inv X pins σ' H' s'/\RelV v u/\D.rt v H'
noncomputable def PE (X:Cx)(e:Expr)(t:TE):Prop :=
 ∀(pins:List (Addr×Obj)) (s:Zq) (σ:St) (H:Hp) (Q:VK),Inv X pins σ H s->t σ H Q->wpAny (model X.prog X.w) X.A (eval e X.env) (EP X pins σ Q) X.xe s
noncomputable def PT (X:Cx)(e:Expr)(t:TT):Prop :=
 ∀(pins:List (Addr×Obj)) (s:Zq) (σ:St) (H:Hp) (Q:Bool->Hp->Prop),Inv X pins σ H s->t σ H Q->wpAny (model X.prog X.w) X.A (isTrue e X.env (eval e X.env)) (TP X pins σ Q) X.xe s
noncomputable def PW (X:Cx)(e:Expr)(t:TT):Prop :=
 ∀(whole:Sem Value) (pins:List (Addr×Obj)) (s:Zq) (σ:St) (H:Hp) (Q:Bool->Hp->Prop),Inv X pins σ H s->t σ H Q->wpAny (model X.prog X.w) X.A (isTrue e X.env whole) (TP X pins σ Q) X.xe s
theorem PW.pt {X:Cx}{e:Expr}{t:TT}(h:PW X e t):PT X e t:=h _
noncomputable def PA (X:Cx)(es:List Expr)(t:TA):Prop :=
 ∀(pos:Pos) (pins:List (Addr×Obj)) (s:Zq) (σ:St) (H:Hp) (Q:List V->Hp->Prop),Inv X pins σ H s->t σ H Q->wpAny (model X.prog X.w) X.A (spliced (abe pos (ZU es X.env))) (AP X pins σ Q) X.xe s
noncomputable def PS (X:Cx)(st:Stmt)(t:TS):Prop :=
 ∀(pins:List (Addr×Obj)) (s:Zq) (σ:St) (H:Hp) (D:Ends),Inv X pins σ H s->t D σ H->wpAny (model X.prog X.w) X.A (exec st X.env) (SP X pins D) X.xe s
noncomputable def gO (X:Cx)(st:List Stmt)(t:TS):Prop :=
 ∀(pins:List (Addr×Obj)) (s:Zq) (σ:St) (H:Hp) (D:Ends),Inv X pins σ H s->t D σ H->wpAny (model X.prog X.w) X.A (execs st X.env) (SP X pins D) X.xe s
theorem bf {α:Type}{t:Sem α}{Q Q':α->Zq->Prop}{M:Model}{A:Z0}{E:Value->Zq->Prop}{s:Zq}(h:wpAny M A t Q E s)(hQ:∀a s,Q a s->Q' a s):wpAny M A t Q' E s:=acY h hQ λ_ _ x=>x
section
variable {X:Cx}
noncomputable def Tn (i:Nat):TE:=λσ H Q=>∃v,σ[i]? = some (some v)/\Q v H
noncomputable def tC (v:V):TE:=λ_ H Q=>Q v H
theorem J8 {i:Nat}{x:Str}{pos:Pos}(hN:X.N[i]? = some x)(hv:AJ X.env.scope x)(hd:(x == ("__debug__":Str))=false:=by decide)(oI:(x == ("__classdict__":Str))=false:=by decide):PE X (.Name x pos) (Tn i):=by
 intro pins s σ H Q I h
 obtain⟨v,e,h⟩:=h
 obtain⟨m,b,a⟩:=I.loc
 obtain⟨u,r,l⟩:=a i x v hN e hv
 have fin:EP X pins σ Q u s:=⟨v,H,I,r,h⟩
 rcases l with⟨hk,hm⟩|⟨hk,c,hc,jb⟩
 . exact acZ (ac0 I.ok.kind hk b hm fin) hd
 . rcases hk with hk|hk
   . exact acZ (adk I.ok.kind hk hc jb fin) hd
   . exact acZ (aeV I.ok.kind hk hc jb fin oI) hd
theorem J9 {i j pos}:PE X (.Constant (.int i) j pos) (tC (.int i)):=λ_ _ _ H _ I h=>wpAny_Constant_int ⟨.int i,H,I.tok _,⟨_,rfl⟩,h⟩
theorem OJ {b j pos}:PE X (.Constant (.bool b) j pos) (tC (.bl b)):=λ_ _ _ H _ I h=>Constant_bool ⟨.bl b,H,I,rfl,h⟩
theorem J_ {j pos}:PE X (.Constant .none j pos) (tC .aq):=λ_ _ _ H _ I h=>Constant_none ⟨.aq,H,I,rfl,h⟩
theorem Ka {x j pos}:PE X (.Constant (.str x) j pos) (tC (.str x)):=λ_ _ _ H _ I h=>ae8 ⟨.str x,H,I.tok _,⟨_,rfl⟩,h⟩
def Gl (X:Cx)(x:Str):Prop:=X.env.kindOf x=some .globalImplicit
theorem rF {E:Value->Zq->Prop}{pins:List (Addr×Obj)}{s:Zq}{σ:St}{H:Hp}{x:Str}{u:Value}{pos:Pos}{Q:Value->Zq->Prop}(I:Inv X pins σ H s)(hg:Gl X x)(hm:X.mg x=some u)(h:Q u s)
  (hd:(x == ("__debug__":Str))=false:=by decide):wpAny (model X.prog X.w) X.A (eval (.Name x pos) X.env) Q E s :=
 adC I.ok.kind hg (Calls.loadGlobal_global (by rw[I.ok.glob];exact I.mod.glob.keeps I.bk) hm h) hd
theorem kH {E:Value->Zq->Prop}{pins:List (Addr×Obj)}{s:Zq}{σ:St}{H:Hp}{x:Str}{u:Value}{pos:Pos}{Q:Value->Zq->Prop}(I:Inv X pins σ H s)(hg:Gl X x)(hm:X.mg x=none)(hv:aa0 x=some u)(h:Q u s)
  (hn:x ≠ "__name__":=by decide) (hd:(x == ("__debug__":Str))=false:=by decide):wpAny (model X.prog X.w) X.A (eval (.Name x pos) X.env) Q E s:=by
 obtain⟨c,a,b⟩:=I.mod.blt
 exact adC I.ok.kind hg (Calls.loadGlobal_builtin (by rw[I.ok.glob];exact I.mod.glob.keeps I.bk) hm (by rw[I.ok.blt];exact a.keeps I.bk) ((b x hn).trans hv) h) hd
theorem rG {x:Str}{v:V}{u:Value}{pos:Pos}(hg:Gl X x)(hm:X.mg x=some u)(r:RelV v u)(hd:(x == ("__debug__":Str))=false:=by decide):PE X (.Name x pos) (tC v):=
 λ_ _ _ H _ I h=>rF I hg hm ⟨v,H,I,r,h⟩ hd
theorem HB {x:Str}{v:V}{u:Value}{pos:Pos}(hg:Gl X x)(hm:X.mg x=none)(hv:aa0 x=some u)(r:RelV v u)(hn:x ≠ "__name__":=by decide)(hd:(x == ("__debug__":Str))=false:=by decide):PE X (.Name x pos) (tC v):=
 λ_ _ _ H _ I h=>kH I hg hm hv ⟨v,H,I,r,h⟩ hn hd
variable {a b:Expr}{ta tb:TE}{pos:Pos}
noncomputable def tB (t:TE):TT:=λσ H Q=>t σ H λx H1=>∃c,x = .bl c/\Q c H1
variable {tA F1:TT}{rest:List Expr}
noncomputable def To (t u:TT):TT:=λσ H Q=>t σ H λc H1=>if c=true then u σ H1 Q else Q false H1
noncomputable def Wz (t u:TT):TT:=λσ H Q=>t σ H λc H1=>if c=true then Q true H1 else u σ H1 Q
noncomputable def Tp (t:TT):TT:=λσ H Q=>t σ H λc H1=>Q (!c) H1
theorem HC (ha:PT X a tA):PW X (.BoolOp .And [a] pos) tA:=by
 intro b pins s σ H Q I h
 refine isTrue_and (bf (ha pins s σ H Q I h) λc s1 e=>?_)
 cases c with
 |true=>exact isTrue_and_nil e
 |false=>exact e
theorem Kb (ha:PT X a tA):PW X (.BoolOp .Or [a] pos) tA:=by
 intro b pins s σ H Q I h
 refine isTrue_or (bf (ha pins s σ H Q I h) λc s1 e=>?_)
 cases c with
 |false=>exact isTrue_or_nil e
 |true=>exact e
theorem Kc (ha:PT X a tA)(hb:PW X (.BoolOp .And (b::rest) pos) F1):PW X (.BoolOp .And (a::b::rest) pos) (To tA F1):=by
 intro f pins s σ H Q I h
 refine isTrue_and (bf (ha pins s σ H _ I h) λc s1 ⟨H1,e,q1⟩=>?_)
 cases c with
 |true=>exact hb f pins s1 σ H1 Q e q1
 |false=>exact⟨H1,e,q1⟩
theorem OK (ha:PT X a tA)(hb:PW X (.BoolOp .Or (b::rest) pos) F1):PW X (.BoolOp .Or (a::b::rest) pos) (Wz tA F1):=by
 intro f pins s σ H Q I h
 refine isTrue_or (bf (ha pins s σ H _ I h) λc s1 ⟨H1,e,q1⟩=>?_)
 cases c with
 |true=>exact⟨H1,e,q1⟩
 |false=>exact hb f pins s1 σ H1 Q e q1
theorem Kd (ha:PT X a tA):PT X (.UnaryOp .Not a pos) (Tp tA):=by
 intro pins s σ H Q I h
 exact isTrue_not (ha pins s σ H (λc H1=>Q (!c) H1) I h)
noncomputable def OL (ta tb:TE):TE:=λσ H Q=>ta σ H λx H1=>∃c,x = .bl c/\if c=true then tb σ H1 Q else Q (.bl false) H1
noncomputable def Tq (ta tb:TE):TE:=λσ H Q=>ta σ H λx H1=>∃c,x = .bl c/\if c=true then Q (.bl true) H1 else tb σ H1 Q
theorem Ke {op}{t:TE}(h:PE X a t):PE X (.BoolOp op [a] pos) t:=λpins s σ H Q I hw=>BoolOp_one (h pins s σ H Q I hw)
theorem Kf (ha:PE X a ta)(hb:PE X (.BoolOp .And (b::rest) pos) tb):PE X (.BoolOp .And (a::b::rest) pos) (OL ta tb):=by
 intro pins s σ H Q I h
 refine BoolOp_and (bf (ha pins s σ H _ I h) λv s1 ⟨x,H1,e,f,q1⟩=>?_)
 obtain⟨c,rfl,q1⟩:=q1
 cases f
 refine aba ?_
 cases c with
 |true=>exact hb pins s1 σ H1 Q e q1
 |false=>exact⟨.bl false,H1,e,rfl,q1⟩
theorem OM (ha:PE X a ta)(hb:PE X (.BoolOp .Or (b::rest) pos) tb):PE X (.BoolOp .Or (a::b::rest) pos) (Tq ta tb):=by
 intro pins s σ H Q I h
 refine BoolOp_or (bf (ha pins s σ H _ I h) λv s1 ⟨x,H1,e,f,q1⟩=>?_)
 obtain⟨c,rfl,q1⟩:=q1
 cases f
 refine aba ?_
 cases c with
 |false=>exact hb pins s1 σ H1 Q e q1
 |true=>exact⟨.bl true,H1,e,rfl,q1⟩
noncomputable def WA (t:TT)(ta tb:TE):TE:=λσ H Q=>t σ H λc H1=>if c=true then ta σ H1 Q else tb σ H1 Q
theorem Ds {c:Expr}(hc:PT X c tA)(ha:PE X a ta)(hb:PE X b tb):PE X (.IfExp c a b pos) (WA tA ta tb):=by
 intro pins s σ H Q I h
 refine wpAny_IfExp (bf (hc pins s σ H _ I h) λd s1 ⟨H1,e,q1⟩=>?_)
 cases d with
 |true=>exact ha pins s1 σ H1 Q e q1
 |false=>exact hb pins s1 σ H1 Q e q1
end
noncomputable def c_ (K:ZD)(H:Hp)(a:Addr)(xs:List V):Prop :=
 Rd H a (.lst xs) \/
  ∃(o:Obj) (av:Array Value) (n:Nat),K.lookup a=some o/\o.cls = .type "list" /\ o.dict=none/\o.data = .seq av n/\av.size<=ZQ/\Vals xs av.toList
noncomputable def dR (K:ZD)(H:Hp)(a:Addr)(xs:List V):Prop :=
 Rd H a (.tup xs) \/
  ∃(o:Obj) (av:Array Value) (n:Nat),K.lookup a=some o/\o.cls = .type "tuple" /\ o.dict=none/\o.data = .seq av n/\av.size<=ZQ/\Vals xs av.toList
noncomputable def Tr:Value->Option V
 |.none=>some .aq
 |.bool b=>some (.bl b)
 |.int i _=>some (.int i)
 |.str x _=>some (.str x)
 |.bytes b _=>some (.AH b)
 |.float b _=>some (.eO b)
 |.ref a=>some (.ref a)
 |.type n=>some (.ty n)
 |_=>none
theorem RelV.abs {x:V}{u:Value}(r:RelV x u):Tr u=some x:=by
 cases x with
 |aq=>cases r;rfl
 |bl _=>cases r;rfl
 |int _=>obtain⟨t,rfl⟩:=r;rfl
 |str _=>obtain⟨t,rfl⟩:=r;rfl
 |AH _=>obtain⟨t,rfl⟩:=r;rfl
 |eO _=>obtain⟨t,rfl⟩:=r;rfl
 |ref _=>cases r;rfl
 |ty _=>cases r;rfl
theorem RelV.inj {x y:V}{u:Value}(r:RelV x u)(q:RelV y u):x=y:=aaM (r.abs.symm.trans q.abs)
theorem Vals.inj:∀{xs ys:List V} {us:List Value},Vals xs us->Vals ys us->xs=ys
 |_,_,_,.nil,.nil=>rfl
 |_,_,_,.cons r t,.cons r' t'=>by rw[r.inj r',Vals.inj t t']
section
variable {X:Cx}{pins:List (Addr×Obj)}{σ:St}{H:Hp}{s:Zq}{a:Addr}{xs ys:List V}
theorem c_.of {K:ZD}(h:H a=some (.lst xs)):c_ K H a xs:=.inl (.inl h)
theorem Inv.list (I:Inv X pins σ H s)(h:c_ X.K H a xs):∃av:List Value,Vals xs av/\PlainL s.heap a av.toArray/\xs.length<=ZQ:=by
 rcases h with h|⟨o,av,n,hk,hc,hd,hs,hz,r⟩
 . obtain⟨z,av,n,r,e⟩:=h.ok I.bo
   exact⟨av,r,⟨_,n,e,rfl,rfl,rfl⟩,z⟩
 . refine⟨av.toList,r,⟨o,n,I.gL a o hk,hc,hd,by simpa using hs⟩,?_⟩
   have e:=r.length
   simp only[ach]at e
   omega
theorem Inv.AO (I:Inv X pins σ H s)(h:dR X.K H a xs):∃av:List Value,Vals xs av/\f6 s.heap a av.toArray/\xs.length<=ZQ:=by
 rcases h with h|⟨o,av,n,hk,hc,hd,hs,hz,r⟩
 . obtain⟨z,av,r,p⟩:=h.ok I.bo
   exact⟨av,r,p,z⟩
 . refine⟨av.toList,r,⟨o,I.gL a o hk,hc,⟨n,by simpa using hs⟩,hd⟩,?_⟩
   have e:=r.length
   simp only[ach]at e
   omega
theorem Inv.tuple (I:Inv X pins σ H s)(h:dR X.K H a xs):∃av:List Value,Vals xs av/\IsTup s.heap a av.toArray/\xs.length<=ZQ :=
 let⟨av,r,p,z⟩:=I.AO h
 ⟨av,r,p.t,z⟩
theorem Inv.uH (I:Inv X pins σ H s)(h:c_ X.K H a xs)(h':c_ X.K H a ys):xs=ys:=by
 obtain⟨i,r,⟨o,n,e,_,_,d⟩,_⟩:=I.list h
 obtain⟨its',f,⟨j,k,b,_,_,c⟩,_⟩:=I.list h'
 rw[e]at b;cases b
 rw[d]at c
 injection c with d1 _
 have:i=its':=by simpa using congrArg Array.toList d1
 subst this
 exact r.inj f
theorem Inv.mI (I:Inv X pins σ H s)(h:dR X.K H a xs)(h':dR X.K H a ys):xs=ys:=by
 obtain⟨i,r,⟨o,e,_,n,d⟩,_⟩:=I.tuple h
 obtain⟨its',f,⟨j,b,_,k,c⟩,_⟩:=I.tuple h'
 rw[e]at b;cases b
 rw[d]at c
 injection c with d1 _
 have:i=its':=by simpa using congrArg Array.toList d1
 subst this
 exact r.inj f
end
noncomputable abbrev Cx.kr (X:Cx)(E:Value->Zq->Prop):Cx:={ X with xe:=E }
noncomputable abbrev Cx.xK (X:Cx):Cx:=X.kr λ_ _=>False
theorem Cx.Ok.kr {X:Cx}(ok:X.Ok)(E:Value->Zq->Prop):(X.kr E).Ok :=
 ⟨ok.mod,ok.kind,ok.glob,ok.blt,ok.above,ok.inj,ok.has,ok.AK,ok.hd,ok.frames,ok.uA,ok.J6,ok.bs,ok.sv,ok.uB,ok.uC,ok.jC,ok.xG⟩
theorem Cx.Ok.iO {X:Cx}{E:Value->Zq->Prop}(ok:(X.kr E).Ok):X.Ok :=
 ⟨ok.mod,ok.kind,ok.glob,ok.blt,ok.above,ok.inj,ok.has,ok.AK,ok.hd,ok.frames,ok.uA,ok.J6,ok.bs,ok.sv,ok.uB,ok.uC,ok.jC,ok.xG⟩
section
variable {X:Cx}{pins:List (Addr×Obj)}{σ:St}{H:Hp}{s:Zq}{E:Value->Zq->Prop}
theorem Inv.kr (I:Inv X pins σ H s)(E:Value->Zq->Prop):Inv (X.kr E) pins σ H s:=⟨I.ok.kr E,I.os,I.bare,I.base,I.loc,I.cell,I.free,I.iG,I.pin,I.bo,I.len⟩
theorem Inv.iO (I:Inv (X.kr E) pins σ H s):Inv X pins σ H s:=⟨I.ok.iO,I.os,I.bare,I.base,I.loc,I.cell,I.free,I.iG,I.pin,I.bo,I.len⟩
theorem SP.iO {D:Ends}{f:Flow}{s':Zq}(h:SP (X.kr E) pins D f s'):SP X pins D f s':=by
 cases f with
 |next=>obtain⟨b,a,I,q⟩:=h;exact⟨b,a,I.iO,q⟩
 |brk=>obtain⟨b,a,I,q⟩:=h;exact⟨b,a,I.iO,q⟩
 |cont=>obtain⟨b,a,I,q⟩:=h;exact⟨b,a,I.iO,q⟩
 |ret u=>obtain⟨v,b,a,I,r,q⟩:=h;exact⟨v,b,a,I.iO,r,q⟩
theorem gO.xK {st:List Stmt}{t:TS}(h:gO X.xK st t):gO X st t:=λpins s σ H D I hw =>
 acY (h pins s σ H D (I.kr _) hw) (λ_ _ q=>q.iO) λ_ _ z=>abu z
end
section
variable {X:Cx}{st:Stmt}{rest:List Stmt}{t u:TS}{e:Expr}{te:TE}{pos:Pos}
noncomputable def y7:TS:=λD σ H=>D.nx σ H
noncomputable def Ts (t u:TS):TS:=λD σ H=>t { D with nx:=u D } σ H
theorem HD:gO X [] y7:=λ_ _ σ H _ I h=>ac1 ⟨σ,H,I,h⟩
theorem Dt (h1:PS X st t)(h2:gO X rest u):gO X (st::rest) (Ts t u):=by
 intro pins s σ H D I h
 refine wpAny_execs_cons (bf (h1 pins s σ H { D with nx:=u D } I h) λf s1 q=>?_)
 cases f with
 |next =>
  obtain⟨c,b,a,q⟩:=q
  exact h2 pins s1 c b D a q
 |ret v=>exact q
 |brk=>exact q
 |cont=>exact q
theorem HE (h1:PS X st t):gO X [st] t:=by
 intro pins s σ H D I h
 refine wpAny_execs_cons (bf (h1 pins s σ H D I h) λf s1 q=>?_)
 cases f with
 |next=>exact ac1 q
 |ret v=>exact q
 |brk=>exact q
 |cont=>exact q
theorem HF:PS X (.Pass pos) y7:=λ_ _ σ H _ I h=>wpAny_Pass ⟨σ,H,I,h⟩
theorem Inv.quiet {pins:List (Addr×Obj)}{σ:St}{H:Hp}{s:Zq}(I:Inv X pins σ H s):interactive X.env=false:=by simp[interactive,I.ok.kind]
theorem Kg {x j pos pos'}:PS X (.Expr (.Constant (.str x) j pos) pos') y7:=λ_ s σ H _ I h=>wpAny_Expr (ae8 (show SP X _ _ .next { s with toks:=s.toks+1 } from⟨σ,H,I.tok _,h⟩)) I.quiet
noncomputable def ON (te:TE):TS:=λD σ H=>te σ H λ_ H1=>D.nx σ H1
theorem HG (he:PE X e te)(hs:ab0 e none pos.line X.env=pure false:=by rfl):PS X (.Expr e pos) (ON te):=by
 intro pins s σ H D I h
 exact wpAny_Expr_any (bf (he pins s σ H _ I h) λv s1 ⟨x,H1,a,b,q1⟩=>⟨σ,H1,a,q1⟩) I.quiet hs
noncomputable def Tt (te:TE):TS:=λD σ H=>te σ H D.rt
theorem Kh (he:PE X e te):PS X (.Return (some e) pos) (Tt te):=by
 intro pins s σ H D I h
 exact wpAny_Return_some (bf (he pins s σ H _ I h) λv s1 ⟨x,H1,a,b,q1⟩=>⟨x,σ,H1,a,b,q1⟩)
noncomputable def OO:TS:=λD _ H=>D.rt .aq H
theorem HH:PS X (.Return none pos) OO:=λ_ _ σ H _ I h=>wpAny_Return_none ⟨.aq,σ,H,I,rfl,h⟩
noncomputable def Tu (c:TT)(t u:TS):TS:=λD σ H=>c σ H λb H1=>if b=true then t D σ H1 else u D σ H1
theorem OP {c:Expr}{a b:List Stmt}{tc:TT}(hc:PT X c tc)(ha:gO X a t)(hb:gO X b u):PS X (.If c a b pos) (Tu tc t u):=by
 intro pins s σ H D I h
 refine wpAny_If (bf (hc pins s σ H _ I h) λd s1 ⟨H1,e,q1⟩=>?_)
 cases d with
 |true=>exact ha pins s1 σ H1 D e q1
 |false=>exact hb pins s1 σ H1 D e q1
end
abbrev TG:=V->St->Hp->(St->Hp->Prop)->Prop
abbrev sD:=List V->St->Hp->(St->Hp->Prop)->Prop
noncomputable def PG (X:Cx)(target:Expr)(t:TG):Prop :=
 ∀(pins:List (Addr×Obj)) (s:Zq) (σ:St) (H:Hp) (v:V) (u:Value) (Q:St->Hp->Prop),Inv X pins σ H s->RelV v u->t v σ H Q ->
  wpAny (model X.prog X.w) X.A (ab9 target X.env u) (λ_ a=>∃σ' H',Inv X pins σ' H' a/\Q σ' H') X.xe s
noncomputable def oJ (X:Cx)(ts:List Expr)(t:sD):Prop :=
 ∀(pins:List (Addr×Obj)) (s:Zq) (σ:St) (H:Hp) (vs:List V) (us:List Value) (Q:St->Hp->Prop),Inv X pins σ H s->Vals vs us->t vs σ H Q ->
  wpAny (model X.prog X.w) X.A (assignInOrder ((aaO ts X.env).map (·.2)) us) (λ_ a=>∃σ' H',Inv X pins σ' H' a/\Q σ' H') X.xe s
abbrev Du:=V->V->V->Hp->(Hp->Prop)->Prop
noncomputable def Dv (X:Cx)(t:Du):Prop :=
 ∀(pins:List (Addr×Obj)) (s:Zq) (σ:St) (H:Hp) (o i v:V) (ov iv u:Value) (Q:Hp->Prop),Inv X pins σ H s->RelV o ov->RelV i iv->RelV v u->t o i v H Q ->
  wpAny (model X.prog X.w) X.A (afk ov iv u) (λ_ a=>∃H',Inv X pins σ H' a/\Q H') X.xe s
abbrev F2:=V->V->Hp->VK->Prop
noncomputable def F4 (X:Cx)(op:aco)(t:F2):Prop :=
 ∀(pins:List (Addr×Obj)) (s:Zq) (σ:St) (H:Hp) (x y:V) (v u:Value) (Q:VK),Inv X pins σ H s->RelV x v->RelV y u->t x y H Q ->
  wpAny (model X.prog X.w) X.A (inplaceOp op v u) (EP X pins σ Q) X.xe s
section
variable {X:Cx}{pos:Pos}
noncomputable def F5 (i:Nat):TG:=λv σ H Q=>Q (σ.set i (some v)) H
theorem HJ {i:Nat}{x:Str}(hN:X.N.Nodup)(hi:X.N[i]? = some x)(hx:Loc X.env.scope x)(hf:X.fn x=true\/X.env.scope.names.lookup x=some .local:=by first|exact .inl rfl|exact .inr rfl|assumption):PG X (.Name x pos) (F5 i):=by
 intro pins s σ H v u Q I r h
 exact wpAny_assign_Name (pC I hN hi hx r (λb a=>⟨_,H,a,h⟩) hf)
noncomputable def Tv:sD:=λa σ H Q=>a = []/\Q σ H
noncomputable def OQ (t:TG)(u:sD):sD:=λb σ H Q=>∃v r,b=v::r/\t v σ H λc a=>u r c a Q
theorem HK:oJ X [] Tv:=by
 intro pins s σ H a us Q I r h
 obtain⟨e,h⟩:=h
 subst e
 cases r
 exact assignInOrder_nil ⟨σ,H,I,h⟩
theorem Dx {e:Expr}{es:List Expr}{t:TG}{u:sD}(h1:PG X e t)(h2:oJ X es u)
  (hs:(aaO (e::es) X.env).map (·.2)=ab9 e X.env::(aaO es X.env).map (·.2):=by rfl):oJ X (e::es) (OQ t u):=by
 intro pins s σ H f us Q I r h
 obtain⟨v,i,a,h⟩:=h
 subst a
 cases r with
 |cons r rr =>
  rw[hs]
  refine assignInOrder_cons (bf (h1 pins s σ H _ _ _ I r h) λ_ s1 ⟨b,H1,c,q1⟩=>?_)
  exact h2 pins s1 b H1 _ _ Q c rr q1
noncomputable def Tw (K:ZD)(n:Nat)(t:sD):TG:=λv σ H Q=>∃a xs,v = .ref a/\dR K H a xs/\xs.length=n/\t xs σ H Q
theorem Ki {es:List Expr}{k:Nat}{t:sD}{n:Nat}(hc:X.calm=true)(h:oJ X es t)
  (hn:(aaO es X.env).length=n:=by rfl) (dA:(aaO es X.env).findIdx? (·.1)=none:=by rfl):PG X (.Tuple es k pos) (Tw X.K n t):=by
 intro pins s σ H v u Q I r hw
 obtain⟨a,xs,f,l,m,hw⟩:=hw
 subst f
 cases r
 obtain⟨x,c,j,y⟩:=I.tuple l
 refine assign_Tuple_tuple (I.ok.hd hc) j (by simp[hn,<- m,c.length]) dA λp i=>?_
 have q:Inv X pins σ H { s with heap:=p }:=I.kept (t':=s.toks) λb o e=>i b o (ZX (ZH e)) e
 exact h pins _ σ H xs _ Q q (by simpa using c) hw
noncomputable def Tx (to ti:TE)(t:Du):TG:=λv σ H Q=>to σ H λo H1=>ti σ H1 λi b=>t o i v b λa=>Q σ a
theorem Kj {o i:Expr}{to ti:TE}{t:Du}(ho:PE X o to)(hi:PE X i ti)(hs:Dv X t)
  (ha:∀v,ab9 (.Subscript o i pos) X.env v=(do
   let ov <- abA [v] (eval o X.env)
   let iv <- abA [v,ov] (eval i X.env)
   aet pos
   abA [v,ov,iv] (afk ov iv v)
   release [v,ov,iv] []):=by intro _;rfl):PG X (.Subscript o i pos) (Tx to ti t):=by
 intro pins s σ H v u Q I r h
 rw[ha]
 refine Zn (Z5 (bf (ho pins s σ H _ I h) λov s1 ⟨x,H1,m,a,q1⟩=>?_))
 refine Zn (Z5 (bf (hi pins s1 σ H1 _ m q1) λiv s2 ⟨y,k,e,c,f⟩=>?_))
 refine Zn (adD (Zn (Z5 (bf (hs pins s2 σ k x y v ov iv u _ e a c r f) λ_ s3 ⟨j,l,b⟩=>?_))))
 exact wpAny_release ⟨σ,j,l,b⟩
noncomputable def Dy (te:TE)(g:TG):TS:=λD σ H=>te σ H λx H1=>g x σ H1 D.nx
theorem Kk {tg e:Expr}{te:TE}{g:TG}(he:PE X e te)(hg:PG X tg g)(hs:adE [tg] e pos.line X.env=pure false:=by rfl)(hw:acL [tg] e X.env=pure none:=by rfl)
  (h1:(aaO [tg] X.env).map (·.2)= [ab9 tg X.env]:=by rfl):PS X (.Assign [tg] e pos) (Dy te g):=by
 intro pins s σ H D I h
 refine wpAny_Assign_stores (bf (he pins s σ H _ I h) λv s1 ⟨x,H1,a,b,q1⟩=>?_) hs hw
 rw[h1]
 exact bf (hg pins s1 σ H1 x v _ a b q1) λ_ s2 q=>q
theorem Kl {i:Nat}{x:Str}{e:Expr}{te:TE}{pos':Pos}(hN:X.N.Nodup)(hi:X.N[i]? = some x)(hx:Loc X.env.scope x)(he:PE X e te)(hs:ab0 e (some (.Name x pos')) pos.line X.env=pure false:=by rfl)(hf:X.fn x=true\/X.env.scope.names.lookup x=some .local:=by first|exact .inl rfl|exact .inr rfl|assumption):
  PS X (.Assign [.Name x pos'] e pos) (Dy te (F5 i)):=by
 intro pins s σ H D I h
 refine wpAny_Assign_Name (bf (he pins s σ H _ I h) λv s1 ⟨y,H1,a,b,q1⟩=>?_) hs
 exact pC a hN hi hx b (λs2 c=>⟨_,H1,c,q1⟩) hf
noncomputable def Tz (i:Nat)(te:TE)(ti:F2):TS:=λD σ H=>∃x,σ[i]? = some (some x)/\te σ H λy H1=>ti x y H1 λz a=>D.nx (σ.set i (some z)) a
theorem Km {i:Nat}{x:Str}{e:Expr}{te:TE}{op:aco}{ti:F2}{pos':Pos}(hN:X.N.Nodup)(hi:X.N[i]? = some x)(hx:Loc X.env.scope x)(he:PE X e te)(ho:F4 X op ti)(hf:X.fn x=true\/X.env.scope.names.lookup x=some .local:=by first|exact .inl rfl|exact .inr rfl|assumption):
   PS X (.AugAssign (.Name x pos') op e pos) (Tz i te ti):=by
 intro pins s σ H D I h
 obtain⟨v,a,h⟩:=h
 obtain⟨m,hn,p⟩:=I.loc
 have WB:AJ X.env.scope x:=by rcases hx with k|k;exact .inl k;exact .inr (.inl k)
 obtain⟨u,r,l⟩:=p i x v hi a WB
 refine wpAny_AugAssign_Name ?_
 have go:wpAny (model X.prog X.w) X.A (eval e X.env) (λw s₂=>wpAny (model X.prog X.w) X.A (inplaceOp op u w) (λr q=>wpAny (model X.prog X.w) X.A (storeName X.env x r) (λ_=>SP X pins D .next) X.xe q) X.xe s₂) X.xe s:=by
   refine bf (he pins s σ H _ I h) λw s1 ⟨y,H1,b,f,q1⟩=>?_
   refine bf (ho pins s1 σ H1 v y u w _ b r f q1) λz s2 ⟨zv,H2,n,j,o⟩=>?_
   exact pC n hN hi hx j (λs3 I3=>⟨_,H2,I3,o⟩) hf
 rcases l with⟨hk,hm⟩|⟨hk,c,hc,jb⟩
 . exact ac0 I.ok.kind hk hn hm go
 . rcases hk with hk|hk
   . exact adk I.ok.kind hk hc jb go
   . rcases hx with k|k
     . have:X.env.scope.names.lookup x=some .free:=hk
       rw[k]at this;cases this
     . have:X.env.scope.names.lookup x=some .free:=hk
       rw[k]at this;cases this
noncomputable def Kn (f:Int->Int->Int):F2:=λx y H Q=>∃i j,x = .int i/\y = .int j/\Q (.int (f i j)) H
theorem Ko:F4 X .Add (Kn λi j=>i+j):=by
 intro pins s σ H x y v u Q I b c h
 obtain⟨i,j,a,e,q⟩:=h
 subst a;subst e
 obtain⟨t,rfl⟩:=b
 obtain⟨f,rfl⟩:=c
 exact iadd_int ⟨.int _,H,I.tok _,⟨_,rfl⟩,q⟩
theorem Kp:F4 X .Sub (Kn λi j=>i-j):=by
 intro pins s σ H x y v u Q I b c h
 obtain⟨i,j,a,e,q⟩:=h
 subst a;subst e
 obtain⟨t,rfl⟩:=b
 obtain⟨f,rfl⟩:=c
 exact isub_int ⟨.int _,H,I.tok _,⟨_,rfl⟩,q⟩
end
section
variable {X:Cx}{pos:Pos}
noncomputable def Kq (c:TT)(tb:TS):TS:=λD σ H=>∃W:Nat->St->Hp->Prop,(∃m,W m σ H) /\ ∀m σ H,W m σ H ->
 c σ H λb H1=>if b=true then ∃N:St->Hp->Prop,(∀σ' H',N σ' H'->∃m',m' < m/\W m' σ' H')/\tb { D with nx:=N,ct:=N,bk:=D.nx } σ H1 else D.nx σ H1
theorem Dz {c:Expr}{body:List Stmt}{tc:TT}{tb:TS}(hp:adw (model X.prog X.w) X.A X.env X.xe)(hc:PT X c tc)(hb:gO X body tb):PS X (.While c body [] pos) (Kq tc tb):=by
 intro pins s σ H D I h
 obtain⟨W,⟨m0,u⟩,turn⟩:=h
 refine wpAny_While (codeAny_whileLoop (λn r=>∃σ' H',Inv X pins σ' H' r/\W n σ' H') ?_ m0 ⟨σ,H,I,u⟩)
 rintro n s1 ⟨k,H1,y,x⟩
 refine abn hp (bf (hc pins s1 k H1 _ y (turn n k H1 x)) λb s2 ⟨q,p,j⟩=>?_)
 cases b with
 |true =>
  obtain⟨N,o,j⟩:=j
  rw[if_pos rfl]
  refine abn hp (bf (hb pins s2 k q _ p j) λf s3 i=>?_)
  cases f with
  |next =>
   obtain⟨e,a,l,n3⟩:=i
   obtain⟨m,hm,w3⟩:=o e a n3
   exact⟨m,hm,e,a,l,w3⟩
  |cont =>
   obtain⟨e,a,l,n3⟩:=i
   obtain⟨m,hm,w3⟩:=o e a n3
   exact⟨m,hm,e,a,l,w3⟩
  |brk=>exact i
  |ret v=>exact i
 |false =>
  rw[if_neg aaN]
  exact ac1 ⟨k,q,p,j⟩
end
structure It where
 go:Nat->Hp->Prop
 AQ:Nat->Hp->V->Hp->Prop
 stop:Nat->Hp->Prop
noncomputable def gq (X:Cx)(pins:List (Addr×Obj))(H:Hp)(b:Addr):Prop :=
 H b=none/\b≠X.env.locals/\b ∉ X.fs/\(b∈X.ex\/X.s₀.heap.objs.size<=b)/\(∀x c,X.env.cells.lookup x=some c->c≠b) /\ ∀p∈X.pn++pins,p.1≠b
theorem Inv.mJ {X:Cx}{pins:List (Addr×Obj)}{σ:St}{H H':Hp}{s:Zq}{b:Addr}(I:Inv X pins σ H s)(hb:s.heap.objs.size<=b)(hn:H' b=none):gq X pins H' b:=by
 refine⟨hn,ae9 (Z7 I.lt hb),I.Th hb,.inr (aaJ I.sz hb),λx c e z=>?_,λp a z=>?_⟩
 . obtain⟨v,q⟩:=I.cell x c e
   exact absurd (Z7 q.lt (by rw[z];exact hb)) (abq _)
 . exact absurd (Z7 (ZH (I.pin p a).1) (by rw[z];exact hb)) (abq _)
structure Turn (P:ZW)(w:World)(K:ZD)(tg:Expr)(J:It)(fp:List Addr)(it:Addr)(tn:Nat->Heap->Prop):Prop where
 mem:it∈fp
 obj:∀i h,tn i h->∀b∈fp,∃o,h.get? b=some o /\ ∀v,o.data ≠ .cell v
 keep:∀i h h',tn i h->(∀b∈fp,∀o,h.get? b=some o->h'.get? b=some o)->tn i h'
 item:∀(X:Cx),X.prog=P->X.w=w->X.K=K->X.calm=true->∀(i:Nat) (pins:List (Addr×Obj)) (s:Zq) (σ:St) (H:Hp) (E:Value->Zq->Prop),Inv X pins σ H s->(∀b∈fp,gq X pins H b)->tn i s.heap->J.go i H ->
  wpAny (model P w) X.A (ac2 (.ref it)) (λr s1=>∃u,r=some u /\
   wpAny (model P w) X.A (aec tg (.ref it) u) (λ_ s2=>∃x H',Inv X pins σ H' s2/\RelV x u/\J.AQ i H x H'/\tn (i+1) s2.heap /\ ∀b∈fp,H' b=none) E s1) E s
 done:∀(X:Cx),X.prog=P->X.w=w->X.K=K->X.calm=true->∀(i:Nat) (pins:List (Addr×Obj)) (s:Zq) (σ:St) (H:Hp) (E:Value->Zq->Prop),Inv X pins σ H s->(∀b∈fp,gq X pins H b)->tn i s.heap->J.stop i H ->
  wpAny (model P w) X.A (ac2 (.ref it)) (λr s1=>r=none/\Inv X pins σ H s1) E s
 self:∀(A:Z0) (i:Nat) (s:Zq) (Q:Value->Zq->Prop) (E:Value->Zq->Prop),tn i s.heap->Q (.ref it) s->wpAny (model P w) A (pyIter (.ref it)) Q E s
abbrev TI:=St->Hp->(It->Hp->Prop)->Prop
noncomputable def Q0 (X:Cx)(pins:List (Addr×Obj))(σ:St)(tg:Expr)(R:It->Hp->Prop)(Kr:Value)(s2:Zq):Prop :=
 ∃(it:Addr) (fp:List Addr) (tn:Nat->Heap->Prop) (J:It) (H':Hp),Kr = .ref it/\Inv X pins σ H' s2/\Turn X.prog X.w X.K tg J fp it tn/\tn 0 s2.heap/\(∀b∈fp,gq X pins H' b)/\R J H'
noncomputable def PI (X:Cx)(tg iter:Expr)(wi:TI):Prop :=
 ∀(pins:List (Addr×Obj)) (s:Zq) (σ:St) (H:Hp) (R:It->Hp->Prop),Inv X pins σ H s->wi σ H R ->
  wpAny (model X.prog X.w) X.A (eval iter X.env) (λv s1=>wpAny (model X.prog X.w) X.A (pyIter v) (Q0 X pins σ tg R) X.xe s1) X.xe s
theorem y8 {M : Model} {A : Z0} {E : Value -> Zq -> Prop} {s : Zq} {tg : Expr} {it : Addr} {u : Value} {o : Obj} {n : String} {vs : Array Value} {Q : Unit -> Zq -> Prop} (ho : s.heap.get? it = some o) (hc : o.cls = .type n) (hd : o.data = .fields vs)
   (hn : ["enumerate", "zip", "dict_itemiterator", "dict_reverseitemiterator", "odict_iterator", "itertools.zip_longest", "itertools.pairwise"].contains n = false) (hQ : Q () s): wpAny M A (aec tg (.ref it) u) Q E s := by
 unfold aec
 cases tg <;> first
   |exact Zu hQ
   | (cases u <;> first
       |exact Zu hQ
       | (refine Zn (wpAny_load ho ?_)
          rw[hc, hd]
          show wpAny M A (if (["enumerate", "zip", "dict_itemiterator", "dict_reverseitemiterator", "odict_iterator", "itertools.zip_longest", "itertools.pairwise"].contains n && vs[0]? == some (adY _))= true then _ else _) Q E s
          rw[if_neg (by intro h; rw[hn, agj]at h; cases h)]
          exact Zu hQ))
noncomputable def F7 (K:ZD)(a:Addr):It :=
 ⟨λi H=>∃xs x,c_ K H a xs/\xs[i]? = some x,λi H x b=>b=H /\ ∀xs,c_ K H a xs->xs[i]? = some x,λi H=>∃xs,c_ K H a xs/\xs.length<=i⟩
noncomputable def Ks (K:ZD)(a:Addr):It :=
 ⟨λi H=>∃xs x,dR K H a xs/\xs[i]? = some x,λi H x b=>b=H /\ ∀xs,dR K H a xs->xs[i]? = some x,λi H=>∃xs,dR K H a xs/\xs.length<=i⟩
noncomputable def AR (lo:Int)(n:Nat):It:=⟨λi _=>i<n,λi H x a=>a=H/\x = .int (lo+i),λi _=>n<=i⟩
theorem AS {P:ZW}{w:World}{K:ZD}{tg:Expr}(a it:Addr):Turn P w K tg (F7 K a) [it] it (λi h=>h.IsListIter it a i) where
 mem:=by simp
 obj:=λi h st b f=>by
  have e:b=it:=by simpa using f
  subst e
  obtain⟨o,e,c,d⟩:=st
  exact⟨o,e,λv z=>by rw[d]at z;cases z⟩
 keep:=λi h l st k=>st.at λo e=>k it (by simp) o e
 item:=by
  intro X hP hw y hc i pins s σ H E I hf st m
  subst hP hw y
  obtain⟨xs,x,j,n⟩:=m
  obtain⟨av,q,p,hz⟩:=I.list j
  obtain⟨u,hu,ru⟩:=q.get n
  obtain⟨f0,f1,f2,r,f4,f5⟩:=hf it (by simp)
  refine aei st p.isList (x:=u) (by simpa using hu) λl gA sb=>?_
  have I1:Inv X pins σ H { s with heap:=l }:=I.turned (t':=s.toks) (λb o f e=>(sb.2 b f).trans e) f0 f1 r f4 f5
  obtain⟨o,e,c,d⟩:=id gA
  exact⟨u,rfl,y8 (s:={ s with heap:=l }) e c d (by decide) ⟨x,H,I1,ru,⟨rfl,λys hy=>by rw[I.uH hy j];exact n⟩,gA,λb f=>(hf b f).1⟩⟩
 done:=by
  intro X hP hw y hc i pins s σ H E I hf st m
  subst hP hw y
  obtain⟨xs,j,n⟩:=m
  obtain⟨av,q,p,hz⟩:=I.list j
  obtain⟨f0,f1,f2,r,f4,f5⟩:=hf it (by simp)
  have hl:=q.length
  exact aeu (I.ok.hd hc) st p.isList (by simp;omega) λl eb=>⟨rfl,I.turned (t':=s.toks) (λb o f e=>eb b o f e) f0 f1 r f4 f5⟩
 self:=λ_ _ _ _ _ st h=>wpAny_pyIter_listiter st h
theorem y9 {P:ZW}{w:World}{K:ZD}{tg:Expr}(a it:Addr):Turn P w K tg (Ks K a) [it] it (λi h=>h.IsTupleIter it a i) where
 mem:=by simp
 obj:=λi h st b f=>by
  have e:b=it:=by simpa using f
  subst e
  obtain⟨o,e,c,d⟩:=st
  exact⟨o,e,λv z=>by rw[d]at z;cases z⟩
 keep:=λi h l st k=>st.at λo e=>k it (by simp) o e
 item:=by
  intro X hP hw y hc i pins s σ H E I hf st m
  subst hP hw y
  obtain⟨xs,x,j,n⟩:=m
  obtain⟨av,q,p,hz⟩:=I.tuple j
  obtain⟨u,hu,ru⟩:=q.get n
  obtain⟨f0,f1,f2,r,f4,f5⟩:=hf it (by simp)
  refine ad_ st (show s.heap.IsTuple a av.toArray from p) (x:=u) (by simpa using hu) λl gA sb=>?_
  have I1:Inv X pins σ H { s with heap:=l }:=I.turned (t':=s.toks) (λb o f e=>(sb.2 b f).trans e) f0 f1 r f4 f5
  obtain⟨o,e,c,d⟩:=id gA
  exact⟨u,rfl,y8 (s:={ s with heap:=l }) e c d (by decide) ⟨x,H,I1,ru,⟨rfl,λys hy=>by rw[I.mI hy j];exact n⟩,gA,λb f=>(hf b f).1⟩⟩
 done:=by
  intro X hP hw y hc i pins s σ H E I hf st m
  subst hP hw y
  obtain⟨xs,j,n⟩:=m
  obtain⟨av,q,p,hz⟩:=I.tuple j
  obtain⟨f0,f1,f2,r,f4,f5⟩:=hf it (by simp)
  have hl:=q.length
  exact aej (I.ok.hd hc) st (show s.heap.IsTuple a av.toArray from p) (by simp;omega) λl eb=>⟨rfl,I.turned (t':=s.toks) (λb o f e=>eb b o f e) f0 f1 r f4 f5⟩
 self:=λ_ _ _ _ _ st h=>wpAny_pyIter_tupleiter st h
theorem y_ {P:ZW}{w:World}{K:ZD}{tg:Expr}(it:Addr)(lo:Int)(n:Nat):Turn P w K tg (AR lo n) [it] it (λi h=>IsRangeIter h it (lo+(i:Nat)*1) ((n:Int)-(i:Nat)) 1) where
 mem:=by simp
 obj:=λi h st b a=>by
  have e:b=it:=by simpa using a
  subst e
  exact⟨_,st,λv z=>by
   have x:Data.fields _=adx v:=z
   cases x⟩
 keep:=λi h c st k=>k it (by simp) _ st
 item:=by
  intro X m hw l q i pins s σ H E I hf st f
  subst m hw l
  obtain⟨f0,f1,f2,j,f4,p⟩:=hf it (by simp)
  have W:=Walks.range (prog:=X.prog) (w:=X.w) (I.ok.hd q) it lo 1 n
  refine W.item i s _ _ f st λv c u y r kk=>?_
  obtain⟨t,rfl⟩:=y
  have I1:Inv X pins σ H { s with heap:=c,toks:=u }:=I.turned (λb o a e=>kk b o (by simpa using a) e) f0 f1 j f4 p
  refine⟨_,rfl,y8 (s:={ s with heap:=c,toks:=u }) (n:="range_iterator") r rfl rfl (by decide) ⟨.int (lo+i),H,I1,⟨t,?_⟩,⟨rfl,rfl⟩,r,λb a=>(hf b a).1⟩⟩
  rw[Int.mul_one]
 done:=by
  intro X m hw l q i pins s σ H E I hf st f
  subst m hw l
  obtain⟨f0,f1,f2,j,f4,p⟩:=hf it (by simp)
  exact wpAny_pyNext_range_end (I.ok.hd q) st (by have:n<=i:=f;omega) λc eb=>⟨rfl,I.turned (t':=s.toks) (λb o a e=>eb b o a e) f0 f1 j f4 p⟩
 self:=λ_ _ _ _ _ st h=>wpAny_pyIter_rangeiter st h
section
variable {X:Cx}{tg:Expr}
noncomputable def OR (K:ZD)(tl:TE):TI:=λσ H R=>tl σ H λx H1=>∃a,x = .ref a/\(∃xs,c_ K H1 a xs)/\R (F7 K a) H1
noncomputable def TB (K:ZD)(tl:TE):TI:=λσ H R=>tl σ H λx H1=>∃a,x = .ref a/\(∃xs,dR K H1 a xs)/\R (Ks K a) H1
theorem xM {l:Expr}{tl:TE}(hl:PE X l tl):PI X tg l (OR X.K tl):=by
 intro pins s σ H R I h
 refine bf (hl pins s σ H _ I h) λv s1 ⟨x,H1,c,i,q1⟩=>?_
 obtain⟨a,e,⟨xs,f⟩,q⟩:=q1
 subst e
 cases i
 obtain⟨m,k,p,n⟩:=c.list f
 refine wpAny_pyIter_list p.isList ?_
 refine⟨s1.heap.objs.size,[s1.heap.objs.size],_,_,H1,rfl,c.kept (t':=s1.toks) λb o e=>Zy _ e,AS a _,⟨_,ZF _ rfl,rfl,rfl⟩,λb j=>?_,q⟩
 have e:b=s1.heap.objs.size:=by simpa using j
 subst e
 exact c.mJ (ZA _) (c.bo.fresh (ZA _))
theorem Kt {l:Expr}{tl:TE}(hl:PE X l tl):PI X tg l (TB X.K tl):=by
 intro pins s σ H R I h
 refine bf (hl pins s σ H _ I h) λv s1 ⟨x,H1,c,i,q1⟩=>?_
 obtain⟨a,e,⟨xs,f⟩,q⟩:=q1
 subst e
 cases i
 obtain⟨k,m,p,n⟩:=c.tuple f
 refine acp (show s1.heap.IsTuple a k.toArray from p) ?_
 refine⟨s1.heap.objs.size,[s1.heap.objs.size],_,_,H1,rfl,c.kept (t':=s1.toks) λb o e=>Zy _ e,y9 a _,⟨_,ZF _ rfl,rfl,rfl⟩,λb j=>?_,q⟩
 have e:b=s1.heap.objs.size:=by simpa using j
 subst e
 exact c.mJ (ZA _) (c.bo.fresh (ZA _))
theorem uI {pins:List (Addr×Obj)}{σ:St}{H:Hp}{s:Zq}{R:It->Hp->Prop}{E:Value->Zq->Prop}{lo hi:Int}{t u v:Tok}{tk:Nat}(I:Inv X pins σ H s)(h1:-(2 ^ 62)<=lo)(h2:lo<2 ^ 62)(h3:-(2 ^ 62)<=hi)(h4:hi<2 ^ 62)
   (q:R (AR lo (hi-lo).toNat) H):wpAny (model X.prog X.w) X.A (pyIter (.ref s.heap.objs.size)) (Q0 X pins σ tg R) E { s with heap:=s.heap.push { cls:=.type "range",data:=.fields #[.int lo t,.int hi u,.int 1 v] },toks:=tk }:=by
 refine wpAny_pyIter_range (IsRange.new ..) (small_one h1 h2 h3 h4) ?_
 have a:Inv X pins σ H { s with heap:=s.heap.push { cls:=.type "range",data:=.fields #[.int lo t,.int hi u,.int 1 v] },toks:=tk }:=I.kept λb o e=>Zy _ e
 refine⟨(s.heap.push { cls:=.type "range",data:=.fields #[.int lo t,.int hi u,.int 1 v] }).objs.size,[(s.heap.push { cls:=.type "range",data:=.fields #[.int lo t,.int hi u,.int 1 v] }).objs.size],_,_,H,rfl,
   a.kept (t':=tk) λb o e=>Zy _ e,y_ _ lo (hi-lo).toNat,?_,λb f=>?_,q⟩
 . have c:lo+((0:Nat):Int)*1=lo:=by simp
   have h:(((hi-lo).toNat:Nat):Int)-((0:Nat):Int)=Builtin.Range.rangeSize lo hi 1:=by rw[rangeSize_one];split<;>omega
   show IsRangeIter _ _ (lo+((0:Nat):Int)*1) ((((hi-lo).toNat:Nat):Int)-((0:Nat):Int)) 1
   rw[c,h]
   exact ZF _ rfl
 . have e:b=(s.heap.push { cls:=.type "range",data:=.fields #[.int lo t,.int hi u,.int 1 v] }).objs.size:=by simpa using f
   subst e
   exact a.mJ (ZA _) (a.bo.fresh (ZA _))
noncomputable def OS (ta:TA):TI:=λσ H R=>ta σ H λa H1=>∃j:Int,a = [.int j] /\ -(2 ^ 62)<=j/\j<2 ^ 62/\R (AR 0 j.toNat) H1
noncomputable def OT (ta:TA):TI:=λσ H R=>ta σ H λa H1=>∃i j:Int,a = [.int i,.int j]/\(-(2 ^ 62)<=i/\i<2 ^ 62 /\ -(2 ^ 62)<=j/\j<2 ^ 62)/\R (AR i (j-i).toNat) H1
theorem AU {a:Expr}{ta:TA}{p pos:Pos}(hg:Gl X "range")(hm:X.mg "range" = none)(ha:PA X [a] ta)(hs:ZU [a] X.env = [(false,eval a X.env)]:=by rfl):PI X tg (.Call (.Name "range" p) [a] [] pos) (OS ta):=by
 intro pins s σ H R I h
 refine Call_ (kH I hg hm boot_range (abl (bf (ha pos pins s σ H _ I h) λus s1 ⟨i,H1,f,b,q1⟩=>?_) hs rfl))
 obtain⟨j,e,q1,c,q⟩:=q1
 subst e
 cases b with
 |cons r rr =>
  cases rr
  obtain⟨t,rfl⟩:=r
  exact call_range_1 (uI f (by omega) (by omega) q1 c (by simpa using q))
theorem AV {a b:Expr}{ta:TA}{p pos:Pos}(hg:Gl X "range")(hm:X.mg "range" = none)(ha:PA X [a,b] ta)(hs:ZU [a,b] X.env = [(false,eval a X.env),(false,eval b X.env)]:=by rfl)(oK:ZU [b] X.env = [(false,eval b X.env)]:=by rfl):
  PI X tg (.Call (.Name "range" p) [a,b] [] pos) (OT ta):=by
 intro pins s σ H R I h
 refine Call_ (kH I hg hm boot_range (abl (bf (ha pos pins s σ H _ I h) λus s1 ⟨o,H1,m,c,q1⟩=>?_) (by rw[hs,oK]) (by rw[oK];rfl)))
 obtain⟨i,j,e,⟨q1,k,f,l⟩,q⟩:=q1
 subst e
 cases c with
 |cons r rr =>
  cases rr with
  |cons r' rr =>
   cases rr
   obtain⟨t,rfl⟩:=r
   obtain⟨n,rfl⟩:=r'
   exact call_range_2 (uI m q1 k f l q)
noncomputable def TC (wi:TI)(g:TG)(tb:TS):TS:=λD σ H=>wi σ H λJ H1=>∃W:Nat->Nat->St->Hp->Prop,(∃m,W 0 m σ H1) /\ ∀i m σ H,W i m σ H ->
 (J.stop i H/\D.nx σ H)\/(J.go i H /\ ∃N:St->Hp->Prop,(∀σ' H',N σ' H'->∃m',m' < m/\W (i+1) m' σ' H') /\ ∀x H',J.AQ i H x H'->g x σ H' λb a=>tb { D with nx:=N,ct:=N,bk:=D.nx } b a)
noncomputable def mK (fp:List Addr)(h:Heap):List (Addr×Obj):=fp.filterMap λb=>(h.get? b).map λo=>(b,o)
theorem je {fp:List Addr}{h:Heap}{b:Addr}{o:Obj}(hb:b∈fp)(e:h.get? b=some o):(b,o)∈mK fp h:=abK.mpr ⟨b,hb,by rw[e];rfl⟩
theorem AW {fp:List Addr}{h:Heap}{p:Addr×Obj}(hp:p∈mK fp h):p.1∈fp/\h.get? p.1=some p.2:=by
 obtain⟨b,a,e⟩:=abK.mp hp
 cases q:h.get? b with
 |none=>rw[q]at e;cases e
 |some o =>
  rw[q]at e
  have c:(b,o)=p:=aaM e
  subst c
  exact⟨a,q⟩
theorem Inv.pinned {pins:List (Addr×Obj)}{σ:St}{H:Hp}{s:Zq}{fp:List Addr}(I:Inv X pins σ H s)(hf:∀b∈fp,gq X pins H b)(ho:∀b∈fp,∃o,s.heap.get? b=some o /\ ∀v,o.data ≠ .cell v):Inv X (pins++mK fp s.heap) σ H s :=
 I.xI λp f=>(ZN.mp f).elim (λz=>I.pin p (aao _ z)) λz=>by
  obtain⟨a,e⟩:=AW z
  obtain⟨f0,f1,f2,_⟩:=hf p.1 a
  obtain⟨o,c,d⟩:=ho p.1 a
  rw[e]at c;cases c
  exact⟨e,f0,f1,f2,d⟩
theorem Inv.lD {pins pl:List (Addr×Obj)}{σ:St}{H:Hp}{s:Zq}(I:Inv X (pins++pl) σ H s):Inv X pins σ H s:=I.xI λp a=>I.pin p (aao _ (aeF _ a))
theorem Ku {iter:Expr}{body:List Stmt}{wi:TI}{g:TG}{tb:TS}{pos:Pos}(hp:adw (model X.prog X.w) X.A X.env X.xe)(hc:X.calm=true)(hi:PI X tg iter wi)(hg:PG X tg g)(hb:gO X body tb)
   (hs:∀x,aaf iter X.env x=pure x:=by intro _;rfl):PS X (.For tg iter body [] pos) (TC wi g tb):=by
 intro pins s σ H D I h
 refine wpAny_For (bf (hi pins s σ H _ I h) λv s1 h1=>bf h1 λKr s2 h2=>?_) hs
 obtain⟨it,p,tn,J,H2,e,I2,T,WC,f2,W,⟨m0,w0⟩,turn⟩:=h2
 subst e
 have z:∀{H':Hp},(∀b∈p,H' b=none)->∀b∈p,gq X pins H' b:=λhn b hb=>⟨hn b hb,(f2 b hb).2⟩
 refine codeAny_forLoop_any (λn s'=>∃i σ' H',Inv X pins σ' H' s'/\tn i s'.heap/\(∀b∈p,H' b=none)/\W i n σ' H') ?_ m0 ⟨0,σ,H2,I2,WC,λb hb=>(f2 b hb).1,w0⟩
 rintro n s3 ⟨i,l,y,I3,Q1,Q2,w3⟩
 rcases turn i n l y w3 with⟨stop,qn⟩|⟨go,N,hN,step⟩
 . refine abn hp (bf (T.done X rfl rfl rfl hc i pins s3 l y X.xe I3 (z Q2) Q1 stop) λr s4 ⟨hr,I4⟩=>?_)
   subst hr
   exact ac1 ⟨l,y,I4,qn⟩
 . refine abn hp (bf (T.item X rfl rfl rfl hc i pins s3 l y X.xe I3 (z Q2) Q1 go) λr s4 ⟨u,hr,h4⟩=>?_)
   subst hr
   refine abn hp (bf h4 λ_ s5 ⟨x,H5,I5,r5,y5,Kv,Kw⟩=>?_)
   have ae:=I5.pinned (z Kw) (T.obj _ _ Kv)
   refine abn hp (bf (hg _ s5 l H5 x u _ ae r5 (step x H5 y5)) λ_ s6 ⟨σ6,H6,I6,q6⟩=>?_)
   refine abn hp (bf (hb _ s6 σ6 H6 _ I6 q6) λf s7 k=>?_)
   have again:∀{j:St} {a:Hp},Inv X (pins++mK p s5.heap) j a s7->N j a->∃m,m<n /\ ∃i σ' H',Inv X pins σ' H' s7/\tn i s7.heap/\(∀b∈p,H' b=none)/\W i m σ' H':=fun {j a} c q=>by
    obtain⟨m',hm,w7⟩:=hN j a q
    refine⟨m',hm,i+1,j,a,c.lD,T.keep _ _ _ Kv λb hb o e=>(c.pin (b,o) (aao _ (aao _ (je hb e)))).1,λb hb=>?_,w7⟩
    obtain⟨o,e,d⟩:=T.obj _ _ Kv b hb
    exact(c.pin (b,o) (aao _ (aao _ (je hb e)))).2.1
   cases f with
   |next=>obtain⟨j,a,c,q⟩:=k;exact again c q
   |cont=>obtain⟨j,a,c,q⟩:=k;exact again c q
   |brk=>obtain⟨j,a,c,k⟩:=k;exact⟨j,a,c.lD,k⟩
   |ret v=>obtain⟨x7,j,a,c,r7,k⟩:=k;exact⟨x7,j,a,c.lD,r7,k⟩
end
abbrev R2:=V->V->Hp->VK->Prop
noncomputable def bO (X:Cx)(f:Value->Value->Sem Value)(r:R2):Prop :=
 ∀(pins:List (Addr×Obj)) (s:Zq) (σ:St) (H:Hp) (x y:V) (v u:Value) (Q:VK),Inv X pins σ H s->RelV x v->RelV y u->r x y H Q ->
  wpAny (model X.prog X.w) X.A (f v u) (EP X pins σ Q) X.xe s
noncomputable def AX (X:Cx)(f:Value->Sem Value)(r:V->Hp->VK->Prop):Prop :=
 ∀(pins:List (Addr×Obj)) (s:Zq) (σ:St) (H:Hp) (x:V) (v:Value) (Q:VK),Inv X pins σ H s->RelV x v->r x H Q ->
  wpAny (model X.prog X.w) X.A (f v) (EP X pins σ Q) X.xe s
noncomputable def b_ (X:Cx)(f:Value)(r:List V->Hp->VK->Prop):Prop :=
 ∀(pins:List (Addr×Obj)) (s:Zq) (σ:St) (H:Hp) (xs:List V) (us:List Value) (Q:VK),Inv X pins σ H s->Vals xs us->r xs H Q ->
  wpAny (model X.prog X.w) X.A (call f us) (EP X pins σ Q) X.xe s
noncomputable def TF (X:Cx)(r:V->Hp->(Bool->Hp->Prop)->Prop):Prop :=
 ∀(pins:List (Addr×Obj)) (s:Zq) (σ:St) (H:Hp) (x:V) (v:Value) (Q:Bool->Hp->Prop),Inv X pins σ H s->RelV x v->r x H Q ->
  wpAny (model X.prog X.w) X.A (truthy v) (TP X pins σ Q) X.xe s
noncomputable def AY (r:R2)(ta tb:TE):TE:=λσ H Q=>ta σ H λx H1=>tb σ H1 λy a=>r x y a Q
noncomputable def WD (r:V->Hp->VK->Prop)(ta:TE):TE:=λσ H Q=>ta σ H λx H1=>r x H1 Q
noncomputable def rI (C:Int->Int->Prop)(g:Int->Int->V):R2:=λx y H Q=>∃i j,x = .int i/\y = .int j/\C i j/\Q (g i j) H
noncomputable def oM (g:Int->Int->V):R2:=λx y H Q=>∃i j,x = .int i/\y = .int j/\Q (g i j) H
noncomputable def rU (g:Int->V):V->Hp->VK->Prop:=λx H Q=>∃i,x = .int i/\Q (g i) H
section
variable {X:Cx}{a b c:Expr}{ta tb tc:TE}{pos:Pos}
theorem DB (ha:PE X a ta)(hb:PE X b tb){pins:List (Addr×Obj)}{s:Zq}{σ:St}{H:Hp}{R:V->V->Hp->Prop}(I:Inv X pins σ H s)
  (h:ta σ H λx H1=>tb σ H1 λy H2=>R x y H2) {Q:Value->Zq->Prop} {f:Value->Value->Sem Value}
  (hf:∀v u s2 x y H2,Inv X pins σ H2 s2->RelV x v->RelV y u->R x y H2->wpAny (model X.prog X.w) X.A (f v u) Q X.xe s2):
  wpAny (model X.prog X.w) X.A (eval a X.env) (λv s₁=>wpAny (model X.prog X.w) X.A (eval b X.env) (λu s₂=>wpAny (model X.prog X.w) X.A (f v u) Q X.xe s₂) X.xe s₁) X.xe s:=by
 refine bf (ha pins s σ H _ I h) λv s1 ⟨x,H1,j,c,q1⟩=>?_
 refine bf (hb pins s1 σ H1 _ j q1) λu s2 ⟨y,H2,e,i,k⟩=>?_
 exact hf v u s2 x y H2 e c i k
theorem OU {op:aco}{r:R2}(ho:bO X (aaz op) r)(ha:PE X a ta)(hb:PE X b tb):PE X (.BinOp a op b pos) (AY r ta tb):=by
 intro pins s σ H Q I h
 exact wpAny_BinOp (DB ha hb I h λv u s2 x y i f c e q=>ho pins s2 σ i x y v u Q f c e q)
theorem OW {op:UnaryOp}{r:V->Hp->VK->Prop}(ho:AX X (unaryOp op) r)(ha:PE X a ta):PE X (.UnaryOp op a pos) (WD r ta):=by
 intro pins s σ H Q I h
 exact UnaryOp_ (bf (ha pins s σ H _ I h) λv s1 ⟨x,H1,c,b,q1⟩=>ho pins s1 σ H1 x v Q c b q1)
theorem F8 {f:Value->Value->Sem Value}{C:Int->Int->Prop}{g:Int->Int->Int}
  (rule:∀(i j:Int) (t u:Tok) (s:Zq) (Q:Value->Zq->Prop) (E:Value->Zq->Prop),C i j->Q (.int (g i j) s.toks) { s with toks:=s.toks+1 }->wpAny (model X.prog X.w) X.A (f (.int i t) (.int j u)) Q E s):
  bO X f (rI C λi j=>.int (g i j)):=by
 intro pins s σ H x y v u Q I b a h
 obtain⟨i,j,rfl,rfl,e,q⟩:=h
 obtain⟨t,rfl⟩:=b
 obtain⟨c,rfl⟩:=a
 exact rule i j t c s _ _ e ⟨.int (g i j),H,I.tok _,⟨_,rfl⟩,q⟩
theorem Kx {f:Value->Value->Sem Value}{g:Int->Int->Int}
  (rule:∀(i j:Int) (t u:Tok) (s:Zq) (Q:Value->Zq->Prop) (E:Value->Zq->Prop),Q (.int (g i j) s.toks) { s with toks:=s.toks+1 }->wpAny (model X.prog X.w) X.A (f (.int i t) (.int j u)) Q E s):
  bO X f (oM λi j=>.int (g i j)):=by
 intro pins s σ H x y v u Q I b a h
 obtain⟨i,j,rfl,rfl,q⟩:=h
 obtain⟨t,rfl⟩:=b
 obtain⟨c,rfl⟩:=a
 exact rule i j t c s _ _ ⟨.int (g i j),H,I.tok _,⟨_,rfl⟩,q⟩
theorem ze {f:Value->Value->Sem Value}{g:Int->Int->Bool}
  (rule:∀(i j:Int) (t u:Tok) (s:Zq) (Q:Value->Zq->Prop) (E:Value->Zq->Prop),Q (.bool (g i j)) s->wpAny (model X.prog X.w) X.A (f (.int i t) (.int j u)) Q E s):
  bO X f (oM λi j=>.bl (g i j)):=by
 intro pins s σ H x y v u Q I b a h
 obtain⟨i,j,rfl,rfl,q⟩:=h
 obtain⟨t,rfl⟩:=b
 obtain⟨c,rfl⟩:=a
 exact rule i j t c s _ _ ⟨.bl (g i j),H,I,rfl,q⟩
def TH (i j:Int):Prop:=0<j/\j<1073741824
def TJ (i j:Int):Prop:=0<=j/\j<=1000000/\i.natAbs<2 ^ 64
def DC (i j:Int):Prop:=(-(2 ^ 64)<i/\i<2 ^ 64)\/(-(2 ^ 64)<j/\j<2 ^ 64)
theorem DC.ok {i j:Int}(h:DC i j):IntMulOk i j:=by
 rcases h with⟨h1,h2⟩|⟨h1,h2⟩
 . exact .of_left (intBits_le_64 h1 h2)
 . exact .of_right (intBits_le_64 h1 h2)
theorem Ky:bO X (aaz .Add) (oM λi j=>.int (i+j)):=Kx λ_ _ _ _ _ _ _ q=>add_int q
theorem Kz:bO X (aaz .Sub) (oM λi j=>.int (i-j)):=Kx λ_ _ _ _ _ _ _ q=>sub_int q
theorem KA:bO X (aaz .Mult) (rI DC λi j=>.int (i*j)):=F8 λ_ _ _ _ _ _ _ a q=>mul_int q a.ok
theorem HL:bO X (aaz .FloorDiv) (rI TH λi j=>.int (i / j)):=F8 λi j _ _ _ _ _ a q=>by
 have b:(0:Int)<j:=a.1
 have c:j<1073741824:=a.2
 exact floordiv_int (by omega) (by rw[Int.fdiv_eq_ediv_of_nonneg i (by omega)];exact q) (.inl (PyProof.noPylong_small (by omega)))
theorem KC:bO X (aaz .Mod) (rI (λ_ j=>0<j) λi j=>.int (i % j)):=F8 λi j _ _ _ _ _ a q=>by
 have b:(0:Int)<j:=a
 exact mod_int' (by omega) (by rw[Int.fmod_eq_emod_of_nonneg i (by omega)];exact q)
theorem KD:bO X (aaz .Pow) (rI TJ λi j=>.int (i ^ j.toNat)):=F8 λ_ _ _ _ _ _ _ a q=>pow_int_small a.1 a.2.1 a.2.2 q
theorem WE {f:Value->Sem Value}{g:Int->Int}
  (rule:∀(i:Int) (t:Tok) (s:Zq) (Q:Value->Zq->Prop) (E:Value->Zq->Prop),Q (.int (g i) s.toks) { s with toks:=s.toks+1 }->wpAny (model X.prog X.w) X.A (f (.int i t)) Q E s):
  AX X f (rU λi=>.int (g i)):=by
 intro pins s σ H x v Q I a h
 obtain⟨i,rfl,q⟩:=h
 obtain⟨t,rfl⟩:=a
 exact rule i t s _ _ ⟨.int (g i),H,I.tok _,⟨_,rfl⟩,q⟩
theorem KG:AX X (unaryOp .USub) (rU λi=>.int (-i)):=WE λ_ _ _ _ _ q=>neg_int q
end
section
variable {X:Cx}{a b c:Expr}{ta tb tc:TE}{pos:Pos}
theorem AZ {pins:List (Addr×Obj)}{σ:St}{H:Hp}{s:Zq}{Q:VK}{k k':Bool}(I:Inv X pins σ H s)(q:Q (.bl k) H)(e:k=k'):EP X pins σ Q (.bool k') s:=by
 subst e
 exact⟨.bl k,H,I,rfl,q⟩
theorem OX:bO X (aam .Lt) (oM λi j=>.bl (decide (i<j))):=ze λ_ _ _ _ _ _ _ q=>lt_int q
theorem OY:bO X (aam .LtE) (oM λi j=>.bl (decide (i<=j))):=ze λ_ _ _ _ _ _ _ q=>le_int q
theorem OZ:bO X (aam .Gt) (oM λi j=>.bl (decide (j<i))):=ze λ_ _ _ _ _ _ _ q=>gt_int q
theorem O0:bO X (aam .GtE) (oM λi j=>.bl (decide (j<=i))):=ze λ_ _ _ _ _ _ _ q=>ge_int q
theorem KH:bO X (aam .Is) (λx y H Q=>y = .aq/\Q (.bl (decide (x = .aq))) H):=by
 intro pins s σ H x y v u Q I a b h
 obtain⟨rfl,q⟩:=h
 cases b
 refine is_none_gen (AZ I q ?_)
 cases x<;>first
  | (cases a;rfl)
  | (obtain⟨t,rfl⟩:=a;rfl)
theorem HM:bO X (aam .IsNot) (λx y H Q=>y = .aq/\Q (.bl (!decide (x = .aq))) H):=by
 intro pins s σ H x y v u Q I a b h
 obtain⟨rfl,q⟩:=h
 cases b
 refine isnot_none_gen (AZ I q ?_)
 cases x<;>first
  | (cases a;rfl)
  | (obtain⟨t,rfl⟩:=a;rfl)
theorem HN {op:CmpOp}{r:R2}(ho:bO X (aam op) r)(ha:PE X a ta)(hb:PE X b tb)(hm:acM op b=false):PE X (.Compare a [op] [b] pos) (AY r ta tb):=by
 intro pins s σ H Q I h
 exact wpAny_Compare1 (DB ha hb I h λv u s2 x y i f c e q=>ho pins s2 σ i x y v u Q f c e q) hm
noncomputable def t8 (t:TE):TT:=λσ H Q=>t σ H λx a=>∃k,x = .bl k/\Q k a
theorem HP {op:CmpOp}{r:R2}(ho:bO X (aam op) r)(ha:PE X a ta)(hb:PE X b tb)(hm:acM op b=false):PT X (.Compare a [op] [b] pos) (t8 (AY r ta tb)):=by
 intro pins s σ H Q I h
 refine wpAny_isTrue_Compare1 (bf (ha pins s σ H _ I h) λv s1 ⟨x,H1,I1,i,q1⟩=>bf (hb pins s1 σ H1 _ I1 q1) λu s2 ⟨y,p,m,l,n⟩=>
  bf (ho pins s2 σ p x y v u _ m i l n) λc s3 ⟨z,o,q,f,k,e,j⟩=>?_) hm
 subst e
 cases f
 exact aba ⟨o,q,j⟩
noncomputable def DD (K:ZD)(x:V)(H:Hp)(k:Bool):Prop :=
 match x with
 |.aq=>k=false
 |.bl b=>k=b
 |.int i=>k=(i != 0)
 |.str y=>y.length<=ZQ/\k=((y.length:Int) != 0)
 |.AH y=>y.size<=ZQ/\k=((y.size:Int) != 0)
 |.ref p=>(∃xs,c_ K H p xs/\k = !xs.isEmpty)\/(∃xs,dR K H p xs/\k = !xs.isEmpty) \/ ∃dE,H p=some (.dK dE)/\k = !dE.isEmpty
 |_=>False
theorem zf {κ:Type}{dE:List (κ×V)}{vs:List (κ×Value)}(r:KV dE vs):(!vs.isEmpty)= !dE.isEmpty:=by
 cases r<;>rfl
theorem p_ {xs:List V}{av:List Value}(r:Vals xs av):(!av.toArray.isEmpty)= !xs.isEmpty:=by
 cases r<;>simp
theorem kI:(ZQ:Nat)<2 ^ 63:=by rw[aaP];decide
theorem KI:TF X (λx H Q=>∃k,DD X.K x H k/\Q k H):=by
 intro pins s σ H x v Q I c h
 obtain⟨k,e,q⟩:=h
 have z:=kI
 have u:ZQ=16777216:=aaP
 cases x with
 |aq =>
  cases c
  have a:k=false:=e
  subst a
  exact truthy_none ⟨H,I,q⟩
 |bl b =>
  cases c
  have a:k=b:=e
  subst a
  exact aba ⟨H,I,q⟩
 |int i =>
  obtain⟨t,rfl⟩:=c
  have a:k=(i != 0):=e
  subst a
  exact PySem.P.truthy_int ⟨H,I,q⟩
 |str y =>
  obtain⟨t,rfl⟩:=c
  obtain⟨l,a⟩:y.length<=ZQ/\k=((y.length:Int) != 0):=e
  subst a
  exact PySem.P.truthy_str (by omega) ⟨H,I.tok _,q⟩
 |AH y =>
  obtain⟨t,rfl⟩:=c
  obtain⟨l,a⟩:y.size<=ZQ/\k=((y.size:Int) != 0):=e
  subst a
  exact PySem.W.truthy_bytes (by omega) ⟨H,I.tok _,q⟩
 |ref p =>
  cases c
  have a:(∃xs,c_ X.K H p xs/\k = !xs.isEmpty)\/(∃xs,dR X.K H p xs/\k = !xs.isEmpty) \/ ∃dE,H p=some (.dK dE)/\k = !dE.isEmpty:=e
  rcases a with⟨xs,hx,a⟩|⟨xs,hx,a⟩|⟨dE,hx,a⟩
  . subst a
    obtain⟨o,r,f,j⟩:=I.list hx
    have hlen:=r.length
    exact wpAny_truthy_list f.isList (by simp only[Zz];omega) ⟨H,I.tok _,by rw[p_ r];exact q⟩
  . subst a
    obtain⟨o,r,f,j⟩:=I.tuple hx
    have hlen:=r.length
    exact truthy_tuple f (by simp only[Zz];omega) ⟨H,I.tok _,by rw[p_ r];exact q⟩
  . subst a
    obtain⟨j,n,vs,r,m⟩:dE.length<=ZQ/\(p == abi)=false /\ ∃vs,KV dE vs/\s.heap.DictOf (dQ X.prog X.w) p vs:=I.bo p _ hx
    have hlen:dE.length=vs.length:=Paired.length r
    exact wpAny_truthy_dict n m (by omega) ⟨H,I.tok _,by rw[zf r];exact q⟩
 |_=>exact(show False from e).elim
theorem DF (ha:PE X a ta)(he:∀whole,isTrue a X.env whole=(do let v <- whole;aet a.pos;abA [v] (truthy v))):
  PT X a (λσ H Q=>ta σ H λx H'=>∃k,DD X.K x H' k/\Q k H'):=by
 intro pins s σ H Q I h
 exact isTrue_plain (bf (ha pins s σ H _ I h) λv s1 ⟨x,H1,c,b,q1⟩=>KI pins s1 σ H1 x v Q c b q1) (he _)
theorem zg:bO X (aaz .Add) (λx y H Q=>∃i j,x = .str i/\y = .str j/\i.length+j.length<=ZQ/\Q (.str (i++j)) H):=by
 intro pins s σ H x y v u Q I b a h
 obtain⟨i,j,rfl,rfl,e,q⟩:=h
 obtain⟨t,rfl⟩:=b
 obtain⟨c,rfl⟩:=a
 exact add_str (λc f=>⟨.str (i++j),H,I.tok _,⟨_,rfl⟩,q⟩) e
theorem vals1 {x:V}{us:List Value}(r:Vals [x] us):∃u,us = [u]/\RelV x u:=by
 cases r with
 |cons r1 r2=>cases r2;exact⟨_,rfl,r1⟩
theorem vals2 {x y:V}{us:List Value}(r:Vals [x,y] us):∃u w',us = [u,w']/\RelV x u/\RelV y w':=by
 cases r with
 |cons r1 r2 =>
  cases r2 with
  |cons r3 r4=>cases r4;exact⟨_,_,rfl,r1,r3⟩
theorem A0 (hc:X.calm=true):b_ X (.builtin "max") (λxs H Q=>∃i j,xs = [.int i,.int j]/\Q (.int (if j>i then j else i)) H):=by
 intro pins s σ H xs us Q I r h
 obtain⟨i,j,rfl,q⟩:=h
 obtain⟨u,b,rfl,⟨t,rfl⟩,⟨a,rfl⟩⟩:=vals2 r
 refine max_two_ints (I.ok.hd hc) λc e k=>⟨_,H,I.kept k,?_,q⟩
 by_cases hj:j>i
 . rw[if_pos hj,if_pos hj];exact⟨_,rfl⟩
 . rw[if_neg hj,if_neg hj];exact⟨_,rfl⟩
theorem A1 (hc:X.calm=true):b_ X (.builtin "min") (λxs H Q=>∃i j,xs = [.int i,.int j]/\Q (.int (if j<i then j else i)) H):=by
 intro pins s σ H xs us Q I r h
 obtain⟨i,j,rfl,q⟩:=h
 obtain⟨u,b,rfl,⟨t,rfl⟩,⟨a,rfl⟩⟩:=vals2 r
 refine min_two_ints (I.ok.hd hc) λc e k=>⟨_,H,I.kept k,?_,q⟩
 by_cases hj:j<i
 . rw[if_pos hj,if_pos hj];exact⟨_,rfl⟩
 . rw[if_neg hj,if_neg hj];exact⟨_,rfl⟩
theorem sE:b_ X (.type "int") (λxs H Q=>(∃i,xs = [.int i]/\Q (.int i) H) \/ ∃k,xs = [.bl k]/\Q (.int (if k then 1 else 0)) H):=by
 intro pins s σ H xs us Q I r h
 rcases h with⟨i,rfl,q⟩|⟨k,rfl,q⟩
 . obtain⟨u,rfl,t,rfl⟩:=vals1 r
   exact call_int_int ⟨.int i,H,I,⟨_,rfl⟩,q⟩
 . obtain⟨u,rfl,a⟩:=vals1 r
   cases a
   exact call_int_bool ⟨.int (if k then 1 else 0),H,I.tok _,⟨_,rfl⟩,q⟩
end
structure cV (k:Nat)(A:Z0):Prop where
 hd:A.handled=none
 dp:A.depth+3*k+5<recursionLimit
 un:A.units+16*k+200<cLine
 gd:A.guards=some []
theorem cV.deeper {k:Nat}{A:Z0}(r:cV (k+1) A)(env:Env):cV k (A.deeper env):=
 ⟨r.hd,by have:=r.dp;show A.depth+1+3*k+5<_;omega,by have:=r.un;show A.units+3+16*k+200<_;omega,by first|exact r.gd| (simp[Around.deeper];exact r.gd)⟩
theorem cV.depth {k:Nat}{A:Z0}(r:cV k A):A.depth<recursionLimit:=by have:=r.dp;omega
theorem cV.units {k:Nat}{A:Z0}(r:cV k A):A.units+64<cLine:=by have:=r.un;omega
noncomputable def KJ:TA:=λ_ H Q=>Q [] H
noncomputable def O1 (ta:TE)(tr:TA):TA:=λσ H Q=>ta σ H λx H1=>tr σ H1 λxs a=>Q (x::xs) a
section
variable {X:Cx}{e:Expr}{es:List Expr}{te:TE}{t:TA}{pos:Pos}
theorem qa:PA X [] KJ:=λ_ _ _ _ H Q I h=>Calls.spliced_nil ⟨[],H,I,.nil,h⟩
theorem kJ (ha:PE X e te)(hr:PA X es t)(hs:ZU (e::es) X.env=(false,eval e X.env)::ZU es X.env:=by rfl):PA X (e::es) (O1 te t):=by
 intro pos pins s σ H Q I h
 rw[hs]
 show wpAny _ _ (spliced ((false,eval e X.env)::abe pos (ZU es X.env))) _ _ s
 refine Calls.spliced_cons (bf (ha pins s σ H _ I h) λu s1 ⟨x,H1,j,a,q1⟩=>?_)
 exact bf (hr pos pins s1 σ H1 _ j q1) λus s2 ⟨xs,i,c,b,f⟩=>⟨x::xs,i,c,.cons a b,f⟩
noncomputable def TK (t:TA):TE:=λσ H Q=>t σ H λxs H1=>xs.length<=ZQ /\ ∀p,H1 p=none->Q (.ref p) (upd H1 p (.tup xs))
noncomputable def TM (t:TA):TE:=λσ H Q=>t σ H λxs H1=>xs.length<=ZQ /\ ∀p,H1 p=none->Q (.ref p) (upd H1 p (.lst xs))
theorem KN {x1}(h:PA X es t):PE X (.Tuple es x1 pos) (TK t):=by
 intro pins s σ H Q I c
 refine wpAny_Tuple_spliced (bf (h pos pins s σ H _ I c) λus s1 ⟨xs,H1,a,r,z,q⟩=>⟨by rw[<- r.length];exact z,?_⟩)
 have hf:H1 s1.heap.objs.size=none:=a.bo.fresh (ZA _)
 refine⟨.ref s1.heap.objs.size,upd H1 s1.heap.objs.size (.tup xs),a.laid (t':=s1.toks) (λb u e=>Zy _ e) (ZA _) ?_,rfl,q _ hf⟩
 exact⟨z,us,r,⟨_,ZF _ rfl,rfl,⟨_,rfl⟩,rfl⟩⟩
theorem A2 (h:PA X es t):PE X (.List es pos) (TM t):=by
 intro pins s σ H Q I c
 refine wpAny_List_spliced (bf (h pos pins s σ H _ I c) λus s1 ⟨xs,H1,a,r,z,q⟩=>⟨by rw[<- r.length];exact z,?_⟩)
 have hf:H1 s1.heap.objs.size=none:=a.bo.fresh (ZA _)
 refine⟨.ref s1.heap.objs.size,upd H1 s1.heap.objs.size (.lst xs),a.laid (t':=s1.toks) (λb u e=>Zy _ e) (ZA _) ?_,rfl,q _ hf⟩
 exact⟨z,us,0,r,ZF _ rfl⟩
end
abbrev Sp:=List V->Hp->VK->XK->Prop
abbrev mL:=List Env->Hp->Zq->XK->Value->Zq->Prop
structure zh (P:ZW)(w:World)(K:ZD)(mg:Str->Option Value)(base:Heap)(A:Z0)(outer:List Env)(s:Zq)(H:Hp):Prop where
 frames:A.frames=some outer
 mod:Mod K mg base
 bs:∀b o,base.get? b=some o->s.heap.get? b=some o/\H b=none
 sv:base.objs.size<=s.heap.objs.size
 jC:s.heap.FunFrames base outer
 xG:∀b∈l5 outer,H b=none
 bo:eY P w H s.heap
 bare:acR s.gens
noncomputable def CE (outer:List Env)(P:ZW)(w:World)(H:Hp)(s:Zq)(Q:VK)(u:Value)(s':Zq):Prop :=
 ∃v H',s'.os=s.os/\acR s'.gens/\Un (l5 outer) [] H H' s.heap s'.heap/\eY P w H' s'.heap/\RelV v u/\Q v H'
noncomputable def CR (CX:mL)(outer:List Env)(P:ZW)(w:World)(H:Hp)(s:Zq)(Q:VK)(E:XK)(r:Result)(s':Zq):Prop :=
 match r with
 |.ok (.ret u)=>CE outer P w H s Q u s'
 |.ok _=>False
 |.error e=>CX outer H s E e s'
structure dF (P:ZW)(w:World)(K:ZD)(mg:Str->Option Value)(base:Heap)(CX:mL)(k:Nat)(f:Addr)(fd:aaG)(ps:List Str)(sp:Sp):Prop where
 len:∀vs H Q E,sp vs H Q E->vs.length=ps.length
 run:∀(A:Z0) (outer:List Env) (s:Zq) (H:Hp) (args:Args) (us:List Value) (vs:List V) (Q:VK) (E:XK),cV k A->zh P w K mg base A outer s H->afl s fd args (ps.zip us)->Vals vs us->sp vs H Q E ->
  acS (model P w) A (.call (.ref f) args) (CR CX outer P w H s Q E) s
theorem dF.imp {P:ZW}{w:World}{K:ZD}{mg:Str->Option Value}{base:Heap}{CX:mL}{k:Nat}{f:Addr}{fd:aaG}{ps:List Str}{sp Q3:Sp}(F:dF P w K mg base CX k f fd ps sp)
  (h:∀vs H Q E,Q3 vs H Q E->sp vs H Q E):dF P w K mg base CX k f fd ps Q3 :=
 ⟨λvs H Q E q=>F.len vs H Q E (h _ _ _ _ q),λA outer s H args us vs Q E a he b e c=>F.run A outer s H args us vs Q E a he b e (h _ _ _ _ c)⟩
section
variable {X:Cx}{pins:List (Addr×Obj)}{σ:St}{H:Hp}{s s':Zq}
theorem Inv.TN (I:Inv X pins σ H s):zh X.prog X.w X.K X.mg X.base X.A X.stack s H :=
 ⟨I.ok.frames,I.ok.mod,I.bs,aaJ I.ok.sv I.sz,I.stack,I.xH,I.bo,I.bare⟩
theorem Inv.after {Q:VK}{u:Value}(I:Inv X pins σ H s)(h:CE X.stack X.prog X.w H s Q u s'):EP X pins σ Q u s':=by
 obtain⟨v,f,os,bare,un,c,r,q⟩:=h
 obtain⟨a,g,d,t,e⟩:=s'
 obtain rfl:e=s.os:=os
 exact⟨v,f,I.call (h':=a) (g':=g) (d':=d) (t':=t) (ch:=[]) un c bare (λb z=>absurd z (by simp)),r,q⟩
end
noncomputable def t9 (sp:Sp)(oN:List V)(E:XK)(t:TA):TE:=λσ H Q=>t σ H λa H1=>sp (a++oN) H1 Q E
noncomputable def Binds (K:ZD)(fd:aaG)(ps:List Str)(ds:List Value):Prop :=
 ∀(s:Zq) (us:List Value),K.In s.heap->(us++ds).length=ps.length->afl s fd ⟨us,[]⟩ (ps.zip (us++ds))
theorem Binds.all {K:ZD}{fd:aaG}{ps:List Str}(h:∀us:List Value,us.length=ps.length->bindArgs fd ⟨us,[]⟩=pure (ps.zip us)):Binds K fd ps []:=λs us _ a=>by
 rw[aa6]at a ⊢
 exact .of_eq (h us a)
def Passes (CX:mL)(X:Cx)(E:XK):Prop:=∀(pins:List (Addr×Obj)) (σ:St) (H:Hp) (s:Zq) (e:Value) (s':Zq),Inv X pins σ H s->CX X.stack H s E e s'->X.xe e s'
section
variable {X:Cx}{CX:mL}{k:Nat}{f C:Addr}{fd:aaG}{ps:List Str}{sp:Sp}{oN:List V}{ds:List Value}{E:XK}{x m:Str}{p pos apos:Pos}{e o:Expr}{es:List Expr}{ta:TE}{t:TA}
theorem uJ {pins:List (Addr×Obj)}{σ:St}{H:Hp}{s:Zq}{Q:VK}{us:List Value}{vs:List V}(F:dF X.prog X.w X.K X.mg X.base CX k f fd ps sp)(hr:cV k X.A)(hb:Binds X.K fd ps ds)(hd:Vals oN ds)(hx:Passes CX X E)
  (I:Inv X pins σ H s) (r:Vals vs us) (h:sp (vs++oN) H Q E):wpAny (model X.prog X.w) X.A (call (.ref f) us) (EP X pins σ Q) X.xe s:=by
 have b:Vals (vs++oN) (us++ds):=r.append hd
 have c:(us++ds).length=ps.length:=by rw[<- b.length];exact F.len _ _ _ _ h
 refine wpAny_call (ae_ (F.run X.A X.stack s H ⟨us,[]⟩ (us++ds) (vs++oN) Q E hr I.TN (hb s us I.gL c) b h) λr i a=>?_)
 cases r with
 |error e=>exact hx pins σ H s e i I a
 |ok fl =>
  cases fl with
  |ret u=>exact I.after a
  |next=>exact abu a
  |brk=>exact abu a
  |cont=>exact abu a
theorem HQ (F:dF X.prog X.w X.K X.mg X.base CX k f fd ps sp)(hr:cV k X.A)(hg:Gl X x)(hm:X.mg x=some (.ref f))(hk:aa3 X.K (.ref f)=true)(hb:Binds X.K fd ps ds)(hd:Vals oN ds)(hx:Passes CX X E)
  (ha:PA X (e::es) t) (jD:(x == ("__debug__":Str))=false:=by decide) (he:ZU (e::es) X.env=(false,eval e X.env)::ZU es X.env:=by rfl) (j9:(abe pos (ZU es X.env)).any (·.1)=false:=by rfl):
  PE X (.Call (.Name x p) (e::es) [] pos) (t9 sp oN E t):=by
 intro pins s σ H Q I h
 refine abL (rF I hg hm ?_ jD)
 refine afa (h₀:=X.base) I.ok.mod.FV hk (bf (ha pos pins s σ H _ I h) λus s1 ⟨b,H1,a,r,q⟩=>⟨a.gL,?_⟩) he j9
 exact uJ F hr hb hd hx a r q
theorem DH (F:dF X.prog X.w X.K X.mg X.base CX k f fd ps sp)(hr:cV k X.A)(hg:Gl X x)(hm:X.mg x=some (.ref f))(hk:aa3 X.K (.ref f)=true)(hb:Binds X.K fd ps ds)(hd:Vals oN ds)(hx:Passes CX X E)
  (jD:(x == ("__debug__":Str))=false:=by decide):PE X (.Call (.Name x p) [] [] pos) (t9 sp oN E KJ):=by
 intro pins s σ H Q I h
 refine abL (rF I hg hm ?_ jD)
 exact PySem.W.callWith_K0 I.gL hk (uJ (us:=[]) F hr hb hd hx I .nil h)
structure Mk (K:ZD)(C f:Addr):Prop where
 makes:PySem.W.makesIn K C=true
 init:PySem.W.findIn K (.ref C) "__init__" = some (some (.ref f))
 fn:PySem.W.isFn K (.ref f)=true
 kp:aa3 K (.ref C)=true
end
structure jv (N P:List Str)(sc:Scope):Prop where
 kind:sc.kind = .function
 co:sc.isCoroutine=false
 gen:sc.isGenerator=false
 nd:N.Nodup
 pre:N.take P.length=P
 par:∀x∈P,sc.names.lookup x=some .local\/sc.names.lookup x=some .cell
 KO:∀y∈sc.names,y.2 ≠ .free
theorem sF {kindOf:Str->Option abh}{x:Str}:∀{binds:List (Str×Value)} {m:Str->Option Value},(∀v,(x,v) ∉ binds)->bindL kindOf binds m x=m x
 | [],_,_=>rfl
 | (n,v)::r,m,h=>by
  unfold bindL
  rw[sF λw hw=>h w (ZV _ hw)]
  split
  . have:x≠n:=by rintro rfl;exact h v ZR
    simp[this]
  . rfl
theorem sG {kindOf:Str->Option abh}{x:Str}:∀{binds:List (Str×Value)} {m:Str->Option Value},(∀v,(x,v) ∉ binds)->bindC kindOf binds m x=m x
 | [],_,_=>rfl
 | (n,v)::r,m,h=>by
  unfold bindC
  rw[sG λw hw=>h w (ZV _ hw)]
  split
  . rfl
  . have:x≠n:=by rintro rfl;exact h v ZR
    simp[this]
theorem sH {kindOf:Str->Option abh}{x:Str}{v:Value}:∀{P:List Str} {vs:List Value} {i:Nat} {m:Str->Option Value},P.Nodup->P[i]? = some x->vs[i]? = some v->kindOf x=some .local ->
  bindL kindOf (P.zip vs) m x=some v
 | [],_,_,_,_,h,_,_=>by simp at h
 |_::_,[],_,_,_,_,h,_=>by simp at h
 |p::P,w::vs,0,m,nd,h1,h2,hk=>by
  simp at h1 h2;subst h1;subst h2
  show bindL kindOf ((p,w)::P.zip vs) m p=_
  unfold bindL
  rw[sF λv a=>(aaS.mp nd).1 (aed a).1,if_pos hk]
  simp
 |p::P,w::vs,i+1,m,nd,h1,h2,hk=>by
  show bindL kindOf ((p,w)::P.zip vs) m x=_
  unfold bindL
  exact sH (i:=i) (aaS.mp nd).2 (by simpa using h1) (by simpa using h2) hk
theorem sI {kindOf:Str->Option abh}{x:Str}{v:Value}:∀{P:List Str} {vs:List Value} {i:Nat} {m:Str->Option Value},P.Nodup->P[i]? = some x->vs[i]? = some v->kindOf x≠some .local ->
  bindC kindOf (P.zip vs) m x=some v
 | [],_,_,_,_,h,_,_=>by simp at h
 |_::_,[],_,_,_,_,h,_=>by simp at h
 |p::P,w::vs,0,m,nd,h1,h2,hk=>by
  simp at h1 h2;subst h1;subst h2
  show bindC kindOf ((p,w)::P.zip vs) m p=_
  unfold bindC
  rw[sG λv a=>(aaS.mp nd).1 (aed a).1,if_neg hk]
  simp
 |p::P,w::vs,i+1,m,nd,h1,h2,hk=>by
  show bindC kindOf ((p,w)::P.zip vs) m x=_
  unfold bindC
  exact sI (i:=i) (aaS.mp nd).2 (by simpa using h1) (by simpa using h2) hk
noncomputable def start (N:List Str)(vs:List V):St:=vs.map some++Zo (N.length-vs.length) none
noncomputable def mM (CX:mL)(P:ZW)(w:World)(K:ZD)(mg:Str->Option Value)(base:Heap)(N:List Str)(qual:Str)(scope:Scope)(f:Addr)(cd:Value)(A:Z0)(outer:List Env)(s:Zq)(H:Hp)(E:XK):Cx where
 prog:=P
 w:=w
 K:=K
 mg:=mg
 base:=base
 A:=A.deeper (ac3 qual scope s.heap.objs.size f cd)
 N:=N
 s₀:=s
 H₀:=H
 env:=ac3 qual scope s.heap.objs.size f cd
 outer:=outer
 stack:=ac3 qual scope s.heap.objs.size f cd::outer
 ex:=[]
 calm:=true
 fn:=λ_=>true
 pn:=[]
 xe:=λe b=>wpAny (model P w) (A.deeper (ac3 qual scope s.heap.objs.size f cd)) (leaving (ac3 qual scope s.heap.objs.size f cd) e) (λ_ a=>CX outer H s E e a) (λc a=>CX outer H s E c a) b
theorem uK {sc:Scope}{n:Nat}{x:Str}(h:sc.names.lookup x=some .cell):∃c,(aaF n sc.names []).lookup x=some c:=by
 have q:=aek sc.names n [] (.inl h)
 exact acq.mp q
theorem A4 {CX:mL}{P:ZW}{w:World}{K:ZD}{mg:Str->Option Value}{base:Heap}{N ps:List Str}{qual:Str}{scope:Scope}{f:Addr}{cd:Value}{A:Z0}{outer:List Env}{s s1:Zq}{H:Hp}{E:XK}{us:List Value}{vs:List V}
   (S:jv N ps scope) (hd:A.handled=none) (e0:zh P w K mg base A outer s H) (hl:vs.length=ps.length) (r:Vals vs us)
   (x:InCallC s s.heap.objs.size (bindL (ac3 qual scope s.heap.objs.size f cd).kindOf (ps.zip us) λ_=>none) (aaF (s.heap.objs.size+1) scope.names []) (bindC (ac3 qual scope s.heap.objs.size f cd).kindOf (ps.zip us) λ_=>none) s1):
   Inv (mM CX P w K mg base N qual scope f cd A outer s H E) [] (start N vs) H s1:=by
 have j9:ps.length<=N.length:=by have:=congrArg afC S.pre;rw[aa2]at this;omega
 obtain⟨h1,tk,rfl,hk⟩:=x.done
 have A5:∀b:Addr,b ∉ (mM CX P w K mg base N qual scope f cd A outer s H E).ex:=λb z=>absurd (show b∈([]:List Addr) from z) (by simp)
 refine⟨⟨e0.mod,S.kind,rfl,rfl,ZA _,λy z c h1 j=>?_,λy l=>?_,λy c _ h=>?_,λ_=>hd,Around.frames_deeper e0.frames,.inr ⟨rfl,rfl⟩,λb z=>absurd z (A5 b),e0.bs,e0.sv,λb _ _=>A5 b,λb z=>absurd z (A5 b),e0.jC,e0.xG⟩,
   rfl,e0.bare,Un.kept hk,⟨_,x.toInCall.ns,λi y v h1 j h3=>?_⟩,λy c h=>⟨_,x.cell y c h⟩,e0.bo.fresh (ZA _),λy c h=>?_,λp m=>absurd (show p∈([]:List (Addr×Obj)) from m) (by simp),e0.bo.kept hk,?_⟩
 . exact name_of_addr x.apart (aaH h1) (aaH j)
 . have l:scope.names.lookup y=some .cell\/scope.names.lookup y=some .free:=l
   rcases l with l|l
   . exact uK l
   . exact absurd rfl (S.KO _ (aaH l))
 . exact acX (x.above y c (aaH h))
 . have o:i<vs.length:=by
     unfold start at j
     by_cases o:i<vs.length
     . exact o
     . rw[ZS (by simpa using o)]at j
       rw[abd]at j
       split at j<;>cases j
   have ha:vs[i]? = some v:=by
     unfold start at j
     rw[Zx (by simpa using o),ZG]at j
     cases e:vs[i]? with
     |none=>rw[e]at j;cases j
     |some a=>rw[e]at j;cases j;rfl
   obtain⟨u,hu,rv⟩:=r.get ha
   have m:ps[i]? = some y:=by
     rw[<- S.pre,aan (by omega)];exact h1
   have Q4:ps.Nodup:=by rw[<- S.pre];exact S.nd.sublist (afo _ _)
   refine⟨u,rv,?_⟩
   rcases S.par y (ZZ m)with k|k
   . exact .inl ⟨k,sH Q4 m hu k⟩
   . obtain⟨c,e⟩:=uK (n:=s.heap.objs.size+1) k
     refine .inr ⟨.inl k,c,e,?_⟩
     have q:=x.cell y c e
     rw[sI Q4 m hu (by show scope.names.lookup y≠_;rw[k];decide)]at q
     exact q
 . exact e0.bo.fresh (acX (x.above y c (aaH h)))
 . unfold start
   show _=N.length
   rw[ZE,Z3,List.length_replicate]
   omega
theorem O2 {CX:mL}{P:ZW}{w:World}{K:ZD}{mg:Str->Option Value}{base:Heap}{k:Nat}{f:Addr}{name qual:Str}{params:Arguments}{body:List Stmt}{scope:Scope}{dV kV doc pm dS ct oc:Value}{an od:Option Addr}
  {uL:Array (Option Value)} {N ps:List Str} {sp:Sp} (lk:K.lookup f=some ⟨oc,od,.func (abB name qual params body scope dV kV doc pm an dS ct),uL⟩) (oI:adl K dS qual=true) (S:jv N ps scope)
  (len:∀vs H Q E,sp vs H Q E->vs.length=ps.length)
  (zi:∀(A:Z0) (outer:List Env) (s:Zq) (H:Hp) (vs:List V) (Q:VK) (E:XK),cV k (A.deeper (ac3 qual scope s.heap.objs.size f dS))->sp vs H Q E ->
    ∃t,gO (mM CX P w K mg base N qual scope f dS A outer s H E) body t/\t { nx:=λ_ H'=>Q .aq H',rt:=Q } (start N vs) H):
  dF P w K mg base CX (k+1) f (abB name qual params body scope dV kV doc pm an dS ct) ps sp:=by
 refine⟨len,λA outer s H args us vs Q E j c hb r l=>?_⟩
 have hl:=len _ _ _ _ l
 have m:K.In s.heap:=c.mod.FV.keeps λb o e=>(c.bs b o e).1
 have lim:s.heap.NoLimit:=c.mod.nolimit.keeps λb o e=>(c.bs b o e).1
 have t_:∀y∈ps.zip us,scope.names.lookup y.1=some .local\/(scope.names.lookup y.1=some .cell/\((aaF (s.heap.objs.size+1) scope.names []).lookup y.1).isSome=true):=λ⟨n,v⟩ hy=>by
  rcases S.par n (aed hy).1 with q|q
  . exact .inl q
  . exact .inr ⟨q,aek _ _ _ (.inl q)⟩
 refine codeAny_call_function j.depth (m _ _ lk) rfl S.co S.gen rfl (PySem.W.codeRec_of m oI) (hb _ _ _ _ ?_)
 refine wpAny_newFunctionEnv_cells S.kind t_ λenv he s1 x=>?_
 subst he
 refine⟨lim.keeps x.toInCall.keep,codeAny_func ?_⟩
 obtain⟨t,p,z⟩:=zi A outer s H vs Q E (j.deeper _) l
 have I:Inv (mM CX P w K mg base N qual scope f dS A outer s H E) [] (start N vs) H s1:=A4 S j.hd c hl r x
 refine acY (p [] s1 (start N vs) H _ I z) (λfl s' a=>?_) λe s' a=>a
 have fin:∀{h:St} {H':Hp} {v:V} {u:Value},Inv (mM CX P w K mg base N qual scope f dS A outer s H E) [] h H' s'->RelV v u->Q v H'->CE outer P w H s Q u s' :=
  fun {h H' v u} J i q=>⟨v,H',J.os,J.bare,J.base,J.bo,i,q⟩
 cases fl with
 |ret u =>
  obtain⟨v,h,H',J,i,q⟩:=a
  exact fin J i q
 |next =>
  obtain⟨h,H',J,q⟩:=a
  exact fin (v:=V.aq) (u:=ab3) J rfl q
 |brk =>
  obtain⟨_,_,_,q⟩:=a
  exact abu q
 |cont =>
  obtain⟨_,_,_,q⟩:=a
  exact abu q
section
variable {X:Cx}{x:Str}{p pos:Pos}{e:Expr}{es:List Expr}{t:TA}{id T:String}{r:List V->Hp->VK->Prop}
noncomputable def Q5 (r:List V->Hp->VK->Prop)(t:TA):TE:=λσ H Q=>t σ H λa H1=>r a H1 Q
theorem uM (hc:b_ X (.builtin id) r)(hg:Gl X x)(hm:X.mg x=none)(hv:aa0 x=some (.builtin id))(ha:PA X (e::es) t)(hn:x ≠ "__name__":=by decide)(jD:(x == ("__debug__":Str))=false:=by decide)
  (he:ZU (e::es) X.env=(false,eval e X.env)::ZU es X.env:=by rfl) (j9:(abe pos (ZU es X.env)).any (·.1)=false:=by rfl):PE X (.Call (.Name x p) (e::es) [] pos) (Q5 r t):=by
 intro pins s σ H Q I h
 refine abL (kH I hg hm hv ?_ hn jD)
 exact PyProof.Rows.callWith_builtin1 (bf (ha pos pins s σ H _ I h) λus s1 ⟨b,H1,c,a,q1⟩=>hc pins s1 σ H1 b us Q c a q1) he j9
theorem A6 (hc:b_ X (.type T) r)(hg:Gl X x)(hm:X.mg x=none)(hv:aa0 x=some (.type T))(ha:PA X (e::es) t)(hn:x ≠ "__name__":=by decide)(jD:(x == ("__debug__":Str))=false:=by decide)
  (he:ZU (e::es) X.env=(false,eval e X.env)::ZU es X.env:=by rfl) (j9:(abe pos (ZU es X.env)).any (·.1)=false:=by rfl):PE X (.Call (.Name x p) (e::es) [] pos) (Q5 r t):=by
 intro pins s σ H Q I h
 refine abL (kH I hg hm hv ?_ hn jD)
 exact abl (bf (ha pos pins s σ H _ I h) λus s1 ⟨b,H1,c,a,q1⟩=>hc pins s1 σ H1 b us Q c a q1) he j9
end
end L2
namespace HT
open PySem PyProof.Rows
section
open PySem.SeqAt
open PySem.AutoSeq1 (wpAny_loadPart')
open PySem.MeetsSeq PySem.MeetsSeq2 PySem.MeetsSeq3
end
section
variable {prog:ZW}{w:World}{A:Z0}{E:Value->Zq->Prop}{s:Zq}
theorem HR {t b:Addr}{vs ws:List Value}{Q:Value->Zq->Prop}(ht:IsTup s.heap t vs.toArray)(hb:IsTup s.heap b ws.toArray)(hv:vs ≠ [])
   (h1:ws = []->Q (.ref t) s) (h2:ws ≠ []->Q (.ref s.heap.objs.size) { s with heap:=s.heap.push { cls:=.type "tuple",data:=.seq (vs++ws).toArray } })
   (f7:vs.length+ws.length<=ZQ):wpAny (model prog w) A (aaz .Add (.ref t) (.ref b)) Q E s:=by
 obtain⟨⟨cls,h,data,f⟩,a,l,n,hd⟩:=id ht
 obtain⟨⟨m,i,data2,k⟩,c,j,n2,hd2⟩:=id hb
 simp only at l hd j hd2
 subst l hd j hd2
 have e:vs.toArray++ws.toArray=(vs++ws).toArray:=by simp
 by_cases hw:ws = []
 . exact adZ ⟨_,a,rfl⟩ ⟨_,c,rfl⟩ ad0 aeQ acG acA (acr _ _)
    (tuple_addW1 t b vs.toArray ws.toArray n n2 h i f k (by simpa using hv) (by simp[hw])) ⟨a,c,h1 hw⟩
 . refine adZ ⟨_,a,rfl⟩ ⟨_,c,rfl⟩ ad0 aeQ acG acA (acr _ _)
    (tuple_addW2 t b vs.toArray ws.toArray n n2 h i f k (by simpa using hv) (by simpa using hw) (by rw[Zz,Zz];exact f7)) ⟨a,c,?_⟩
   rw[e]
   exact h2 hw
noncomputable def bh (n d:Nat):Option Int->Nat
 |none=>d
 |some v=>if v<0 then(v+(n:Int)).toNat else min v.toNat n
theorem uN (n d:Nat):bh n d none=d:=rfl
theorem rH (n d k:Nat):bh n d (some (k:Int))=min k n:=by
 show(if(k:Int)<0 then((k:Int)+(n:Int)).toNat else min (k:Int).toNat n)=min k n
 rw[if_neg (by omega),abr]
theorem KP (n d:Nat)(hd:d<=n)(o:Option Int):bh n d o<=n:=by
 cases o with
 |none=>exact hd
 |some v =>
  show(if v<0 then(v+(n:Int)).toNat else min v.toNat n)<=n
  by_cases hv:v<0
  . rw[if_pos hv];omega
  . rw[if_neg hv];exact Nat.min_le_right _ _
theorem xN (v:Int)(n d:Nat):(if v<0 then max (v+(n:Int)) 0 else min v (n:Int))=((bh n d (some v):Nat):Int):=by
 show(if v<0 then max (v+(n:Int)) 0 else min v (n:Int))=(((if v<0 then(v+(n:Int)).toNat else min v.toNat n):Nat):Int)
 by_cases hv:v<0
 . simp only[if_pos hv];omega
 . simp only[if_neg hv];omega
theorem zj (lo hi:Option Int)(n:Nat):acj lo hi 1 (n:Int)=(((bh n 0 lo:Nat):Int),((bh n n hi:Nat):Int)):=by
 have a:¬((1:Int)<0):=by omega
 unfold acj
 simp only[a,if_false]
 refine adm ?_ ?_
 . cases lo with
   |none=>rfl
   |some v=>exact xN v n 0
 . cases hi with
   |none=>rfl
   |some v=>exact xN v n n
theorem zo (i j:Nat):abv (i:Int) (j:Int) 1=j-i:=by
 unfold abv
 have a:(1:Int)>0:=by omega
 simp only[a,if_true,Int.ediv_one]
 split<;>omega
theorem qb {v:Value}{o:Option Int}{Q:Option Int->Zq->Prop}(p:ac4 v o)(h:Q o s):wpAny (model prog w) A (Builtin.Slice.slicePartIndex v) Q E s:=by
 cases p with
 |none=>exact slicePart_none h
 |int i t=>exact slicePart_int h
theorem jE {sl:Addr}{vl vu:Value}{lo hi:Option Int}{n:Nat}{Q:Int×Int×Nat->Zq->Prop}(hs:s.heap.IsSliceOf sl vl vu .none)(pl:ac4 vl lo)(pu:ac4 vu hi)
  (h:Q (((bh n 0 lo:Nat):Int),1,bh n n hi-bh n 0 lo) s):wpAny (model prog w) A (adF (.ref sl) (pure (n:Int))) Q E s:=by
 obtain⟨os,a,c,b⟩:=id hs
 unfold adF Builtin.Slice.sliceFields
 refine Zn (Zn (acf a b (x:=vl) rfl (Zn (acf a b (x:=vu) rfl (Zn (acf a b (x:=.none) rfl (Zu ?_)))))))
 refine Zn (slicePart_none ?_)
 show wpAny _ _ (if((1:Int)== 0)=true then _ else _) _ _ s
 rw[if_neg (by decide)]
 refine Zn (qb pl (Zn (qb pu (Zn (Zu ?_)))))
 show wpAny _ _ (match acj lo hi 1 (n:Int)with| (lo,hi)=>pure (lo,(1:Int),abv lo hi 1)) _ _ s
 rw[zj lo hi n]
 show wpAny _ _ (pure (((bh n 0 lo:Nat):Int),(1:Int),abv ((bh n 0 lo:Nat):Int) ((bh n n hi:Nat):Int) 1)) _ _ s
 rw[zo]
 exact Zu h
theorem DL (xs:Array Value)(i k:Nat):((Zp k).filterMap λ(m:Nat)=>xs[((i:Int)+(m:Int)*1).toNat]?).toArray=((xs.toList.drop i).take k).toArray:=by
 have e:(λ(m:Nat)=>xs[((i:Int)+(m:Int)*1).toNat]?)=λm=>xs[i+m]?:=by
  funext m
  have:((i:Int)+(m:Int)*1).toNat=i+m:=by omega
  rw[this]
 rw[e]
 have:=pick_run xs i k
 rw[List.filterMap_map]at this
 have a:((λx=>xs[x]?) ∘ λx=>i+x)=λm=>xs[i+m]?:=rfl
 rw[a]at this
 rw[this]
theorem oF {t sl:Addr}{items:Array Value}{vl vu:Value}{lo hi:Option Int}{Q:Value->Zq->Prop}(ht:IsTup s.heap t items)(hs:s.heap.IsSliceOf sl vl vu .none)(pl:ac4 vl lo)(pu:ac4 vu hi)
  (hw:¬(bh items.size 0 lo=0/\bh items.size items.size hi=items.size))
  (h:Q (.ref s.heap.objs.size) { s with heap:=s.heap.push { cls:=.type "tuple",data:=.seq ((items.toList.drop (bh items.size 0 lo)).take (bh items.size items.size hi-bh items.size 0 lo)).toArray } })
  (f7:items.size<=ZQ):wpAny (model prog w) A (adn (.ref t) (.ref sl)) Q E s:=by
 have a:sizeOk (.seq ((items.toList.drop (bh items.size 0 lo)).take (bh items.size items.size hi-bh items.size 0 lo)).toArray):=by
  show((items.toList.drop (bh items.size 0 lo)).take (bh items.size items.size hi-bh items.size 0 lo)).toArray.size<=ZQ
  rw[Zz,aa2,afN,ach]
  omega
 have i:bh items.size items.size hi<=items.size:=KP _ _ (ZA _) hi
 obtain⟨os,c,f,j⟩:=id hs
 have b:s.TypeIs (.ref sl) "slice":=⟨os,c,f⟩
 unfold adn
 try with_reducible refine Z5 ?_
 first|refine Zn (Zu ?_)|skip
 refine Zn (acD ht.typeIs (by decide) ?_)
 refine Zn (aaB (name:=Zt "__getitem__") ht.typeIs aat
  (aai aat ht.typeIs aeW ?_ (args_tuple_getitem _ _)))
 show wpAny _ _ (ab_ (.ref t) >>= _) _ _ s
 refine Zn (tupleItemsOf_ ht ?_)
 refine Zn (abU b ?_)
 rw[if_pos (by decide)]
 refine Zn (jE hs pl pu ?_)
 have e:¬((((bh items.size 0 lo:Nat):Int)== 0&&(1:Int)== 1&&(bh items.size items.size hi-bh items.size 0 lo)== items.size)=true):=by
  intro q
  rw[Zv,Zv]at q
  have q1:((bh items.size 0 lo:Nat):Int)=0:=eq_of_beq q.1.1
  have k:bh items.size items.size hi-bh items.size 0 lo=items.size:=eq_of_beq q.2
  exact hw ⟨by omega,by omega⟩
 show wpAny _ _ (if(((bh items.size 0 lo:Nat):Int)== 0&&(1:Int)== 1&&(bh items.size items.size hi-bh items.size 0 lo)== items.size)=true then _ else _) _ _ s
 rw[if_neg e,DL]
 first
  |exact Zn (m:=abC _) (aaU (Zu ⟨_,rfl,Zu h⟩) a)
  |exact Zn (m:=abC _) (aaU (Zn (Zu (Zu ⟨_,rfl,Zu h⟩))) a)
  |exact Zn (Zn (m:=abC _) (aaU (Zu (Zu ⟨_,rfl,Zu h⟩)) a))
  |exact Zn (Zn (m:=abC _) (aaU (Zu ⟨_,rfl,Zu h⟩) a))
end
end HT
namespace L2
open PySem PySem.Spec PyProof.Rows
abbrev TO:=St->Hp->(Option Int->Hp->Prop)->Prop
noncomputable def PO (X:Cx)(e:Option Expr)(t:TO):Prop :=
 ∀(pins:List (Addr×Obj)) (s:Zq) (σ:St) (H:Hp) (Q:Option Int->Hp->Prop),Inv X pins σ H s->t σ H Q ->
  wpAny (model X.prog X.w) X.A (evalPart e X.env) (λu a=>∃o H',Inv X pins σ H' a/\ac4 u o/\Q o H') X.xe s
noncomputable def HU:TO:=λ_ H Q=>Q none H
noncomputable def O3 (t:TE):TO:=λσ H Q=>t σ H λx H1=>∃i,x = .int i/\Q (some i) H1
theorem intsAre_of {ns:List Int}:∀{us:List Value},Vals (ns.map V.int) us->ado us ns:=by
 induction ns with
 |nil=>intro us r;rw[ac5]at r;cases r;exact .nil
 |cons n ns ih =>
  intro us r
  rw[Z9]at r
  cases r with
  |cons r1 r2 =>
   obtain⟨t,e⟩:=r1
   subst e
   exact .cons n t (ih r2)
section
variable {X:Cx}{e:Expr}{te:TE}{lo hi:Option Expr}{tl th:TO}{pos p2:Pos}
theorem HV:PO X none HU:=by
 intro pins s σ H Q I h
 rw[evalPart_none]
 exact Zu ⟨none,H,I,.none,h⟩
theorem HW (h:PE X e te):PO X (some e) (O3 te):=by
 intro pins s σ H Q I hw
 rw[evalPart_some]
 refine bf (h pins s σ H _ I hw) λu s1 ⟨x,H1,b,a,q1⟩=>?_
 obtain⟨i,rfl,q⟩:=q1
 obtain⟨t,rfl⟩:=a
 exact⟨some i,H1,b,.int i t,q⟩
noncomputable def oO (X:Cx)(r:V->Option Int->Option Int->Hp->VK->Prop):Prop :=
 ∀(pins:List (Addr×Obj)) (s:Zq) (σ:St) (H:Hp) (x:V) (v vl vu:Value) (lo hi:Option Int) (sl:Addr) (Q:VK),Inv X pins σ H s->RelV x v->s.heap.IsSliceOf sl vl vu .none->ac4 vl lo->ac4 vu hi->r x lo hi H Q ->
  ∃T id,typeLookup (.type T) "__getitem__" = pure (some (.builtin id))/\s.TypeIs v T/\wpAny (model X.prog X.w) X.A (adn v (.ref sl)) (EP X pins σ Q) X.xe s
theorem oO.or {r r':V->Option Int->Option Int->Hp->VK->Prop}(h:oO X r)(h':oO X r'):oO X (λx lo hi H Q=>r x lo hi H Q\/r' x lo hi H Q):=by
 intro pins s σ H x v b e lo hi a Q I c f i pu q
 rcases q with q|q
 . exact h pins s σ H x v b e lo hi a Q I c f i pu q
 . exact h' pins s σ H x v b e lo hi a Q I c f i pu q
noncomputable def WH (r:V->Option Int->Option Int->Hp->VK->Prop)(te:TE)(tl th:TO):TE:=λσ H Q=>te σ H λx H1=>tl σ H1 λl b=>th σ b λu a=>r x l u a Q
theorem DM {r:V->Option Int->Option Int->Hp->VK->Prop}(hr:oO X r)(he:PE X e te)(hl:PO X lo tl)(hu:PO X hi th):PE X (.Subscript e (.Slice lo hi none p2) pos) (WH r te tl th):=by
 intro pins s σ H Q I h
 refine Subscript_ (bf (he pins s σ H _ I h) λv s1 ⟨x,H1,I1,m,q1⟩=>?_)
 refine wpAny_Slice (bf (hl pins s1 σ H1 _ I1 q1) λa s2 ⟨l,z,o,pl,p⟩=>bf (hu pins s2 σ z _ o p) λc s3 ⟨u,f,I3,pu,n⟩=>?_)
 rw[evalPart_none]
 refine Zu ?_
 have j:Inv X pins σ f { s3 with heap:=s3.heap.push { cls:=.type "slice",data:=.fields #[a,c,.none] } }:=I3.kept (t':=s3.toks) λb ob q=>Zy _ q
 obtain⟨T,id,y,k,i⟩:=hr pins { s3 with heap:=s3.heap.push { cls:=.type "slice",data:=.fields #[a,c,.none] } } σ f x v a c l u s3.heap.objs.size Q j m (Heap.IsSliceOf.new ..) pl pu n
 show wpAny (model X.prog X.w) X.A (subscriptTail e (.Slice lo hi none p2) v (.ref s3.heap.objs.size)) (EP X pins σ Q) X.xe { s3 with heap:=s3.heap.push { cls:=.type "slice",data:=.fields #[a,c,.none] } }
 exact tail_any (ops:=[.ref s3.heap.objs.size,v]) k y i (by with_unfolding_all rfl)
noncomputable def mP (xs:List V)(lo hi:Option Int):List V:=(xs.drop (HT.bh xs.length 0 lo)).take (HT.bh xs.length xs.length hi-HT.bh xs.length 0 lo)
theorem oP (xs:List V)(lo hi:Option Int):(mP xs lo hi).length<=xs.length:=by
 unfold mP
 rw[aa2,afN]
 omega
noncomputable def KR (K:ZD):V->Option Int->Option Int->Hp->VK->Prop:=λx lo b H Q=>∃a xs,x = .ref a/\dR K H a xs /\
 ¬(HT.bh xs.length 0 lo=0/\HT.bh xs.length xs.length b=xs.length) /\ ∀p,H p=none->Q (.ref p) (upd H p (.tup (mP xs lo b)))
theorem KS:oO X (KR X.K):=by
 intro pins s σ H x v u y lo c p Q I j k m pu h
 obtain⟨a,xs,rfl,i,hw,q⟩:=h
 cases j
 obtain⟨l,r,e,f⟩:=I.tuple i
 have hlen:l.toArray.size=xs.length:=by rw[Zz];exact r.length.symm
 refine⟨"tuple",_,aat.lookup,e.typeIs,?_⟩
 refine HT.oF e k m pu (by rw[hlen];exact hw) ?_ (by rw[hlen];exact f)
 rw[hlen]
 refine⟨.ref s.heap.objs.size,_,I.laid (t':=s.toks) (o:=.tup (mP xs lo c)) (λb n q=>Zy _ q) (ZA _) ?_,rfl,q _ (I.bo.fresh (ZA _))⟩
 exact⟨aaJ (oP xs lo c) f,_,(r.drop (HT.bh xs.length 0 lo)).take (HT.bh xs.length xs.length c-HT.bh xs.length 0 lo),f6.new _ _⟩
noncomputable def O4 (K:ZD):R2:=λx y H Q=>∃a b xs ys,x = .ref a/\y = .ref b/\dR K H a xs/\dR K H b ys/\xs ≠ []/\xs.length+ys.length<=ZQ /\
 (ys = []->Q (.ref a) H)/\(ys ≠ []->∀p,H p=none->Q (.ref p) (upd H p (.tup (xs++ys))))
theorem Vals.rJ {xs:List V}{us:List Value}(r:Vals xs us):us = []↔ xs = []:=by
 cases r with
 |nil=>simp
 |cons _ _=>simp
theorem HY:bO X (aaz .Add) (O4 X.K):=by
 intro pins s σ H x y v u Q I l j h
 obtain⟨a,b,xs,m,rfl,rfl,n,p,i,f,q1,r⟩:=h
 cases l
 cases j
 obtain⟨av,e,p1,_⟩:=I.tuple n
 obtain⟨jF,c,k,_⟩:=I.tuple p
 refine HT.HR p1 k (λz=>i (e.rJ.mp z)) (λz=>⟨.ref a,H,I,rfl,q1 (c.rJ.mp z)⟩) (λz=>?_) (by rw[<- e.length,<- c.length];exact f)
 refine⟨.ref s.heap.objs.size,_,I.laid (t':=s.toks) (o:=.tup (xs++m)) (λb ob q=>Zy _ q) (ZA _) ?_,rfl,r (λw=>z (c.rJ.mpr w)) _ (I.bo.fresh (ZA _))⟩
 exact⟨by rw[ZE];exact f,_,e.append c,f6.new _ _⟩
end
noncomputable def j_ (n:Nat)(i:Int):Option Nat:=if 0<=i then(if i<n then some i.toNat else none)else if -(n:Int)<=i then some (i+n).toNat else none
noncomputable def bJ {α:Type}(xs:List α)(i:Int):Option α:=(j_ xs.length i).bind λj=>xs[j]?
theorem xO {n:Nat}{i:Int}{j:Nat}(h:j_ n i=some j):seqIndex? i n=some j/\j<n /\ -(n:Int)<=i/\i<n:=by
 unfold j_ at h
 by_cases h0:0<=i
 . rw[if_pos h0]at h
   by_cases h1:i<n
   . rw[if_pos h1]at h
     have e:i.toNat=j:=aaM h
     exact⟨by rw[afD h0 h1,e],by omega,by omega,h1⟩
   . rw[if_neg h1]at h;cases h
 . rw[if_neg h0]at h
   by_cases h1:-(n:Int)<=i
   . rw[if_pos h1]at h
     have e:(i+n).toNat=j:=aaM h
     exact⟨by rw[seqIndex_neg (by omega) h1,e],by omega,h1,by omega⟩
   . rw[if_neg h1]at h;cases h
theorem rK {α:Type}{xs:List α}{i:Int}{v:α}(h:bJ xs i=some v):∃j,seqIndex? i xs.length=some j/\xs[j]? = some v/\j<xs.length /\ -(xs.length:Int)<=i/\i<xs.length:=by
 unfold bJ at h
 cases e:j_ xs.length i with
 |none=>rw[e]at h;cases h
 |some j =>
  rw[e]at h
  obtain⟨b,f,c,a⟩:=xO e
  exact⟨j,b,h,f,c,a⟩
theorem HZ {α:Type}{xs:List α}{j:Nat}{v:α}(h:xs[j]? = some v):bJ xs (j:Int)=some v:=by
 have a:j<xs.length:=(Zr.mp h).1
 have e:j_ xs.length (j:Int)=some j:=by
  unfold j_
  rw[if_pos (by omega),if_pos (by omega)];simp
 unfold bJ;rw[e];exact h
def nQ (b:Expr):Prop:=∀o i,subscripted b false o i=operate [o,i] (adn o i)
noncomputable def ma (X:Cx)(r:R2):Prop :=
 ∀(value slice:Expr) (pins:List (Addr×Obj)) (s:Zq) (σ:St) (H:Hp) (x y:V) (v u:Value) (Q:VK),Inv X pins σ H s->RelV x v->RelV y u->r x y H Q ->
  subscripted slice false v u=operate [v,u] (adn v u)->wpAny (model X.prog X.w) X.A (subscriptTail value slice v u) (EP X pins σ Q) X.xe s
noncomputable def A7 (X:Cx)(id:String)(r:V->List V->Hp->VK->Prop):Prop :=
 ∀(pins:List (Addr×Obj)) (s:Zq) (σ:St) (H:Hp) (x:V) (xs:List V) (v:Value) (us:List Value) (Q:VK),Inv X pins σ H s->RelV x v->Vals xs us->r x xs H Q ->
  wpAny (model X.prog X.w) X.A (call (.builtin id) (v::us)) (EP X pins σ Q) X.xe s
section
variable {X:Cx}{a b:Expr}{ta tb:TE}{pos:Pos}
theorem ma.or {r r':R2}(h:ma X r)(h':ma X r'):ma X (λx y H Q=>r x y H Q\/r' x y H Q):=by
 intro value slice pins s σ H x y v u Q I a b q c
 rcases q with q|q
 . exact h value slice pins s σ H x y v u Q I a b q c
 . exact h' value slice pins s σ H x y v u Q I a b q c
theorem F_ {r:R2}(hr:ma X r)(ha:PE X a ta)(hb:PE X b tb)(hs:nQ b):PE X (.Subscript a b pos) (AY r ta tb):=by
 intro pins s σ H Q I h
 exact Subscript_ (DB ha hb I h λv u s2 x y i f c e q=>hr a b pins s2 σ i x y v u Q f c e q (hs _ _))
noncomputable def KU (K:ZD):R2:=λx y H Q=>∃p xs i v,x = .ref p/\y = .int i/\c_ K H p xs/\bJ xs i=some v/\Q v H
noncomputable def KY (K:ZD):R2:=λx y H Q=>∃p xs i v,x = .ref p/\y = .int i/\dR K H p xs/\bJ xs i=some v/\Q v H
noncomputable def KZ:R2:=λx y H Q=>∃z i c,x = .str z/\y = .int i/\z.length<=ZQ/\bJ z.cps.toList i=some c/\Q (.str ⟨#[c]⟩) H
theorem H4:ma X (KU X.K):=by
 intro value slice pins s σ H x y v u Q I rx l h f
 obtain⟨p,xs,i,z,rfl,rfl,hq,he,q⟩:=h
 cases rx
 obtain⟨t,rfl⟩:=l
 obtain⟨av,r,c,hz⟩:=I.list hq
 obtain⟨j,a,m,h3,k,n⟩:=rK he
 obtain⟨w,e,o⟩:=r.get m
 have hl:=r.length
 have hn:=kI
 have fin:EP X pins σ Q w s:=⟨z,H,I,o,q⟩
 by_cases h0:0<=i
 . have b:i.toNat=j:=by
    rw[afD h0 n]at a
    exact aaM a
   exact item_listR c.isList h0 (by omega) (by rw[b];simpa using e) fin f
 . have b:(i+(av.toArray.size:Int)).toNat=j:=by
    rw[seqIndex_neg (by omega) k]at a
    rw[Zz,<- hl]
    exact aaM a
   exact abP (x:=w) c.isList.typeIs slot_list_getitem.lookup
    (wpAny_getItem_list_neg (Q:=λr s'=>r=w/\EP X pins σ Q r s') c.isList (by omega) (by rw[Zz]<;>omega) (by omega) (by rw[b];simpa using e) ⟨rfl,fin⟩) f
theorem K4:ma X (KY X.K):=by
 intro value slice pins s σ H x y v u Q I f b h n
 obtain⟨p,xs,i,z,rfl,rfl,k,he,q⟩:=h
 cases f
 obtain⟨t,rfl⟩:=b
 obtain⟨av,r,a,hz⟩:=I.tuple k
 obtain⟨j,h1,c,h3,h4,h5⟩:=rK he
 obtain⟨w,l,e⟩:=r.get c
 have o:=r.length
 have hn:=kI
 have fin:EP X pins σ Q w s:=⟨z,H,I,e,q⟩
 exact abP (x:=w) a.typeIs aat.lookup
  (getItem_tuple (j:=j) (Q:=λr m=>r=w/\EP X pins σ Q r m) a (by omega) (by omega) (by rw[Zz,<- o];exact h1) (by simpa using l) ⟨rfl,fin⟩) n
theorem K5:ma X KZ:=by
 intro value slice pins s σ H x y v u Q I m f h n
 obtain⟨z,i,c,rfl,rfl,hz,he,q⟩:=h
 obtain⟨t,rfl⟩:=m
 obtain⟨r,rfl⟩:=f
 obtain⟨j,a,k,h3,b,l⟩:=rK he
 have o:z.cps.toList.length=z.length:=by simp[Str.length]
 rw[o]at a b l
 have hn:=kI
 exact tail_any (aeG s z t) slot_str_getitem.lookup (getItem_str (c:=c) (by
  have e:decide (i < -(2 ^ 63:Int))=false:=decide_eq_false (by omega)
  have p:decide (i>=2 ^ 63)=false:=decide_eq_false (by omega)
  rw[e,p,adG]) (by rw[a];simpa using k) ⟨.str ⟨#[c]⟩,H,I.tok _,⟨_,rfl⟩,q⟩) n
noncomputable def WI (K:ZD):R2:=λx y H Q=>KU K x y H Q\/KY K x y H Q\/KZ x y H Q
theorem A8:ma X (WI X.K):=H4.or (K4.or K5)
theorem zp (av:List Value)(n j:Nat)(u:Value):aa7 (·.setIfInBounds j u) { cls:=.type "list",data:=.seq av.toArray n }={ cls:=.type "list",data:=.seq (av.set j u).toArray n }:=by
 simp[aa7]
theorem Inv.lst {pins:List (Addr×Obj)}{σ:St}{H:Hp}{s:Zq}{p:Addr}{xs:List V}(I:Inv X pins σ H s)(h:H p=some (.lst xs)):
  ∃(av:List Value) (n:Nat),Vals xs av/\s.heap.get? p=some { cls:=.type "list",data:=.seq av.toArray n }/\xs.length<=ZQ:=by
 obtain⟨z,av,n,r,e⟩:=I.bo p _ h
 exact⟨av,n,r,e,z⟩
theorem Inv.K6 {pins:List (Addr×Obj)}{σ:St}{H:Hp}{s:Zq}{p:Addr}{xs ys:List V}{av its':List Value}{n n':Nat}{f:Obj->Obj}(I:Inv X pins σ H s)(h:H p=some (.lst xs))
  (ho:s.heap.get? p=some { cls:=.type "list",data:=.seq av.toArray n }) (hf:f { cls:=.type "list",data:=.seq av.toArray n }={ cls:=.type "list",data:=.seq its'.toArray n' }) (r:Vals ys its') (hz:ys.length<=ZQ) (t:Nat):
  Inv X pins σ (upd H p (.lst ys)) { s with heap:=s.heap.update p f,toks:=t }:=by
 have e:(s.heap.update p f).get? p=some { cls:=.type "list",data:=.seq its'.toArray n' }:=by
  rw[abo f ho (by rw[hf]<;>rfl),hf]
 refine I.write (x:=p) (e:=p) (by rw[h];trivial) (.inl rfl) (λb u a q=>(abQ _ _ (abg a)).trans q) ⟨_,e⟩ ?_
 exact⟨hz,its',n',r,e⟩
noncomputable def O5:V->V->V->Hp->(Hp->Prop)->Prop:=λo i v H Q=>∃p xs k j,o = .ref p/\i = .int k/\H p=some (.lst xs)/\j_ xs.length k=some j/\Q (upd H p (.lst (xs.set j v)))
theorem set_list:Dv X O5:=by
 intro pins s σ H o i v ov iv u Q I ro ri z h
 obtain⟨p,xs,k,j,rfl,rfl,l,hj,q⟩:=h
 cases ro
 obtain⟨t,rfl⟩:=ri
 obtain⟨y,n,r,b,hz⟩:=I.lst l
 obtain⟨a,h2,x,f⟩:=xO hj
 have e:=r.length
 have hn:=kI
 have m:Inv X pins σ (upd H p (.lst (xs.set j v))) { s with heap:=s.heap.update p (aa7 (·.setIfInBounds j u)) }:=
   I.K6 l b (zp y n j u) (r.set z j) (by rw[abM];exact hz) s.toks
 by_cases h0:0<=k
 . have c:k.toNat=j:=by
    rw[afD h0 f]at a
    exact aaM a
   exact PySem.W.ki_setAt b h0 (by omega) (by rw[Zz,<- e];exact f) (by rw[c];exact⟨_,m,q⟩)
 . have c:(k+(y.toArray.size:Int)).toNat=j:=by
    rw[seqIndex_neg (by omega) x]at a
    rw[Zz,<- e]
    exact aaM a
   exact PySem.W.ki_setBack b (by omega) (by rw[Zz,<- e];exact x) (by omega) (by rw[c];exact⟨_,m,q⟩)
theorem uQ (lo hi:Option Int)(n:Nat):(acg lo hi none n).1=((HT.bh n 0 lo:Nat):Int)/\(acg lo hi none n).2.1=((HT.bh n n hi:Nat):Int)/\(acg lo hi none n).2.2=1:=by
 refine⟨?_,?_,rfl⟩
 . cases lo with
   |none=>simp[acg,HT.bh]
   |some i =>
    simp only[acg,HT.bh,afO,show(1:Int)>0 by decide,if_true]
    by_cases h:i<0
    . simp only[h,if_true]<;>omega
    . simp only[h,if_false]<;>omega
 . cases hi with
   |none=>simp[acg,HT.bh]
   |some i =>
    simp only[acg,HT.bh,afO,show(1:Int)>0 by decide,if_true]
    by_cases h:i<0
    . simp only[h,if_true]<;>omega
    . simp only[h,if_false]<;>omega
theorem tT (av:List Value)(lo hi:Option Int):slicePick av.toArray lo hi none=((av.drop (HT.bh av.length 0 lo)).take (HT.bh av.length av.length hi-HT.bh av.length 0 lo)).toArray:=by
 obtain⟨a,c,b⟩:=uQ lo hi av.toArray.size
 unfold slicePick
 rw[a,c,b]
 simp only[sliceRange_one,pick_run,Zz]<;>rfl
noncomputable def K7 (K:ZD):V->Option Int->Option Int->Hp->VK->Prop:=λx lo b H Q=>∃a xs,x = .ref a/\c_ K H a xs /\ ∀p,H p=none->Q (.ref p) (upd H p (.lst (mP xs lo b)))
theorem H_:oO X (K7 X.K):=by
 intro pins s σ H x v u y lo c p Q I i j k pu h
 obtain⟨a,xs,rfl,f,q⟩:=h
 cases i
 obtain⟨n,r,e,l⟩:=I.list f
 have hlen:=r.length
 refine⟨"list",_,slot_list_getitem.lookup,e.isList.typeIs,?_⟩
 refine wpAny_getItem_list_slice e.isList j k pu .none (by simp) ?_ (by rw[Zz]<;>omega)
 rw[tT,<- hlen]
 refine⟨.ref s.heap.objs.size,_,I.laid (t':=s.toks) (o:=.lst (mP xs lo c)) (λb m q=>Zy _ q) (ZA _) ?_,rfl,q _ (I.bo.fresh (ZA _))⟩
 exact⟨aaJ (oP xs lo c) l,_,0,(r.drop (HT.bh xs.length 0 lo)).take (HT.bh xs.length xs.length c-HT.bh xs.length 0 lo),ZF _ rfl⟩
noncomputable def gP:V->Bool
 |.aq=>true
 |.bl _=>true
 |.int _=>true
 |.str _=>true
 |_=>false
noncomputable def sL:V->V->Bool
 |.aq,.aq=>true
 |.bl a,.bl b=>a == b
 |.bl a,.int b=>(if a then 1 else 0)== b
 |.int a,.bl b=>a == (if b then 1 else 0)
 |.int a,.int b=>a == b
 |.str a,.str b=>a == b
 |_,_=>false
theorem K8 {A:Z0}{s:Zq}{y x:V}{u v:Value}(ry:RelV y u)(rx:RelV x v)(fy:gP y=true)(fx:gP x=true):SeqAt.EqAt A s u v (sL y x):=by
 cases y with
 |aq =>
  cases ry
  cases x with
  |aq=>cases rx;exact SeqAt.EqAt.same _
  |bl b=>cases rx;exact SeqAt.EqAt.none_bool b
  |int b=>obtain⟨t,rfl⟩:=rx;exact SeqAt.EqAt.none_int b t
  |str b=>obtain⟨t,rfl⟩:=rx;exact SeqAt.EqAt.none_str b t
  |_=>exact absurd (show false=true from fx) aaN
 |bl a =>
  cases ry
  cases x with
  |aq=>cases rx;exact SeqAt.EqAt.bool_none a
  |bl b=>cases rx;exact SeqAt.EqAt.bool_bool a b
  |int b=>obtain⟨t,rfl⟩:=rx;exact SeqAt.EqAt.bool_int a b t
  |str b=>obtain⟨t,rfl⟩:=rx;exact SeqAt.EqAt.bool_str a b t
  |_=>exact absurd (show false=true from fx) aaN
 |int a =>
  obtain⟨c,rfl⟩:=ry
  cases x with
  |aq=>cases rx;exact SeqAt.EqAt.int_none a c
  |bl b=>cases rx;exact SeqAt.EqAt.int_bool a c b
  |int b=>obtain⟨t,rfl⟩:=rx;exact SeqAt.EqAt.int_int a c b t
  |str b=>obtain⟨t,rfl⟩:=rx;exact ae5 a c b t
  |_=>exact absurd (show false=true from fx) aaN
 |str a =>
  obtain⟨c,rfl⟩:=ry
  cases x with
  |aq=>cases rx;exact SeqAt.EqAt.str_none a c
  |bl b=>cases rx;exact SeqAt.EqAt.str_bool a c b
  |int b=>obtain⟨t,rfl⟩:=rx;exact ae6 a c b t
  |str b=>obtain⟨t,rfl⟩:=rx;exact SeqAt.EqAt.str_str a c b t
  |_=>exact absurd (show false=true from fx) aaN
 |_=>exact absurd (show false=true from fy) aaN
noncomputable def xP (x:V)(u:Value):Bool:=match u with
 |.none=>sL .aq x
 |.bool b=>sL (.bl b) x
 |.int i _=>sL (.int i) x
 |.str z _=>sL (.str z) x
 |_=>false
theorem uR {x y:V}{u:Value}(r:RelV y u)(f:gP y=true):xP x u=sL y x:=by
 cases y with
 |aq=>cases r;rfl
 |bl b=>cases r;rfl
 |int i=>obtain⟨t,rfl⟩:=r;rfl
 |str z=>obtain⟨t,rfl⟩:=r;rfl
 |_=>exact absurd (show false=true from f) aaN
theorem pF {A:Z0}{s:Zq}{x:V}{v:Value}(rx:RelV x v)(fx:gP x=true):∀{xs:List V} {us:List Value},Vals xs us->xs.all gP=true->∀u∈us,SeqAt.EqAt A s u v (xP x u)
 |_,_,.nil,_=>λu hu=>by cases hu
 |y::xs,u::us,.cons r t,f=>λa hu=>by
  rw[acN,Zv]at f
  rcases ZI.mp hu with rfl|hu
  . rw[uR r f.1];exact K8 r rx f.1 fx
  . exact pF rx fx t f.2 a hu
theorem uS:b_ X (.builtin "len") (λxs H Q=>∃p ys,xs = [.ref p]/\(c_ X.K H p ys\/dR X.K H p ys)/\Q (.int ys.length) H):=by
 intro pins s σ H xs us Q I r h
 obtain⟨p,ys,rfl,a,q⟩:=h
 obtain⟨u,rfl,e⟩:=vals1 r
 cases e
 have j:=kI
 rcases a with a|a
 . obtain⟨f,b,c,i⟩:=I.list a
   have hlen:=b.length
   exact Calls.call_len_list c.isList (by simp only[Zz]<;>omega) ⟨.int ys.length,H,I.tok _,⟨s.toks+1,by rw[Zz,hlen]⟩,q⟩
 . obtain⟨f,b,c,i⟩:=I.tuple a
   have hlen:=b.length
   exact len_tuple c (by simp only[Zz]<;>omega) ⟨.int ys.length,H,I.tok _,⟨s.toks+1,by rw[Zz,hlen]⟩,q⟩
theorem me:b_ X (.type "tuple") (λxs H Q=>∃p ys,xs = [.ref p]/\((c_ X.K H p ys /\ ∀l,H l=none->Q (.ref l) (upd H l (.tup ys)))\/(dR X.K H p ys/\Q (.ref p) H))):=by
 intro pins s σ H xs us Q I r h
 obtain⟨p,ys,rfl,h⟩:=h
 obtain⟨u,rfl,m⟩:=vals1 r
 cases m
 rcases h with⟨hq,q⟩|⟨hq,q⟩
 . obtain⟨f,c,i,k⟩:=I.list hq
   have hlen:=c.length
   refine call_tuple_list i.isList (λa v=>?_) (by simp only[Zz]<;>omega)
   have j:Inv X pins σ H { s with heap:=a }:=I.kept (t':=s.toks) v
   have n:Inv X pins σ (upd H a.objs.size (.tup ys)) { s with heap:=a.push { cls:=.type "tuple",data:=.seq f.toArray } }:=
    j.laid (t':=s.toks) (λb o e=>Zy _ e) (ZA _) (show cY X.prog X.w _ _ _ (.tup ys) from⟨k,f,c,f6.new _ _⟩)
   exact⟨.ref a.objs.size,_,n,rfl,q _ (j.bo.fresh (ZA _))⟩
 . obtain⟨f,c,i,k⟩:=I.tuple hq
   exact call_tuple_same i ⟨.ref p,H,I,rfl,q⟩
def Q6 (K:ZD)(T:String)(x:V)(H:Hp):Prop:=match x with
 |.str _=>T = "str"
 |.int _=>T = "int"
 |.ref p=>(T = "list" /\ ∃xs,c_ K H p xs)\/(T = "tuple" /\ ∃o,K.lookup p=some o/\o.cls = .type "tuple" /\ o.dict=none) \/
  (T = "dict" /\ ((∃dE,H p=some (.dK dE)) \/ ∃dE,H p=some (.dT dE)))\/(T = "set" /\ ∃S n,H p=some (.set S n))
 |_=>False
theorem uT {pins:List (Addr×Obj)}{σ:St}{H:Hp}{s:Zq}{T:String}{x:V}{v:Value}(I:Inv X pins σ H s)(r:RelV x v)(ty:Q6 X.K T x H):
  s.TypeIs v T /\ ∀a,v = .ref a->∃ob,s.heap.get? a=some ob/\ob.dict=none:=by
 cases x with
 |str z =>
  obtain⟨t,rfl⟩:=r
  cases (show T = "str" from ty)
  exact⟨aeG s z t,λ_ e=>nomatch e⟩
 |int i =>
  obtain⟨t,rfl⟩:=r
  cases (show T = "int" from ty)
  exact⟨acx s i t,λ_ e=>nomatch e⟩
 |ref p =>
  cases r
  rcases ty with⟨rfl,xs,hq⟩|⟨rfl,o,hk,hc,hd⟩|⟨rfl,hk⟩|⟨rfl,S,n,hk⟩
  . obtain⟨h,_,f,_⟩:=I.list hq
    refine⟨f.isList.typeIs,λa e=>?_⟩
    cases e
    obtain⟨o,n,e,c,hd,_⟩:=f
    exact⟨o,e,hd⟩
  . refine⟨⟨o,I.gL p o hk,hc⟩,λa e=>?_⟩
    cases e
    exact⟨o,I.gL _ o hk,hd⟩
  . have z:∃o,s.heap.get? p=some o/\o.ExactDict:=by
     rcases hk with⟨dE,hk⟩|⟨dE,hk⟩
     . obtain⟨_,_,_,_,o,_,_,e,ex,_⟩:=I.bo p _ hk
       exact⟨o,e,ex⟩
     . obtain⟨_,_,_,_,o,_,_,e,ex,_⟩:=I.bo p _ hk
       exact⟨o,e,ex⟩
    obtain⟨o,e,ex⟩:=z
    refine⟨⟨o,e,ex.1⟩,λa b=>?_⟩
    cases b
    exact⟨o,e,ex.2.1⟩
  . obtain⟨o,_,_,_,e,ex,_⟩:=I.bo p _ hk
    refine⟨⟨o,e,ex.1⟩,λa b=>?_⟩
    cases b
    exact⟨o,e,ex.2.1⟩
 |_=>exact abu ty
noncomputable def WJ (K:ZD)(T:String)(r:V->List V->Hp->VK->Prop)(to:TE)(t:TA):TE:=λσ H Q=>to σ H λx H1=>Q6 K T x H1/\t σ H1 λxs a=>r x xs a Q
variable {o e:Expr}{es:List Expr}{to:TE}{t:TA}{name:Str}{apos cK:Pos}{T id:String}{r:V->List V->Hp->VK->Prop}
theorem O6 (pa:PlainAttrs T)(slot:Slot T name id)(Ga:typeOf (.builtin id)=pure (.type "method_descriptor"))(hm:A7 X id r)(ho:PE X o to)(ha:PA X (e::es) t)
  (lE:aca o name X.env (eval o X.env)=eval o X.env:=by rfl)
  (uU:((abe cK (ZU (e::es) X.env)).all (λx=>!x.1)&&(backToKw cK (afE [] X.env)).all (λx=>x.1.isSome)
   && decide ((e::es).length+([]:List adp).length+(if([]:List adp).isEmpty then 0 else 1)<30))=true:=by rfl)
  (lF:(apos.endLine == cK.line)=true:=by rfl) (hs:ZU (e::es) X.env=(false,eval e X.env)::ZU es X.env:=by rfl) (uV:(abe cK (ZU es X.env)).any (·.1)=false:=by rfl):
  PE X (.Call (.Attribute o name apos) (e::es) [] cK) (WJ X.K T r to t):=by
 intro pins s σ H Q I h
 refine ael lE uU lF rfl (bf (ho pins s σ H _ I h) λv s1 ⟨x,H1,c,a,ty,q1⟩=>?_)
 obtain⟨n,f⟩:=uT c a ty
 refine⟨T,id,pa,slot,Ga,n,f,?_⟩
 have b:=ha cK pins s1 σ H1 _ c q1
 rw[hs]at b ⊢
 refine acH (by show(false||(abe cK (ZU es X.env)).any (·.1))=false;rw[uV]<;>rfl) (aeH ?_)
 exact bf b λus s2 ⟨l,m,j,i,k⟩=>hm pins s2 σ m x l v us Q j a i k
end
noncomputable def WK (X:Cx)(id:String)(r:V->List V->Hp->VK->Prop):Prop :=
 ∀(pins:List (Addr×Obj)) (s:Zq) (σ:St) (H:Hp) (x:V) (xs:List V) (v:Value) (us:List Value) (Q:VK),Inv X pins σ H s->RelV x v->Vals xs us->r x xs H Q ->
  wpAny (model X.prog X.w) X.A (call (.builtin id) (v::us)) (EP X pins σ Q) X.xe s
theorem Vals.one:∀{x:V} {us:List Value},Vals [x] us->∃u,us = [u]/\RelV x u
 |_,_,.cons r .nil=>⟨_,rfl,r⟩
theorem Vals.zero:∀{us:List Value},Vals [] us->us = []
 |_,.nil=>rfl
theorem Vals.rep {xs:List V}{us:List Value}(h:Vals xs us):∀k:Nat,Vals (Zo k xs).flatten (Zo k us).flatten
 | 0=>.nil
 |k+1=>by
  rw[aaq,aaq,aaj,aaj]
  exact Vals.append h (Vals.rep h k)
theorem foldl_rep (av:List Value):∀(k:Nat) (acc:List Value),
  af6 (λx1 x2=>x1++x2) acc.toArray (Zo k av.toArray)=(acc++(Zo k av).flatten).toArray
 | 0,acc=>by simp
 |k+1,acc=>by
  have e:acc.toArray++av.toArray=(acc++av).toArray:=by simp
  have a:(acc++av)++(Zo k av).flatten=acc++(Zo (k+1) av).flatten:=by
   rw[aaq,aaj,aak]
  rw[<- a,<- foldl_rep av k (acc++av),<- e,aaq,List.foldl_cons]
section
variable {X:Cx}{pins:List (Addr×Obj)}{σ:St}{H:Hp}{s:Zq}{l b:Addr}{xs ys zs:List V}
theorem Inv.TQ {av its':List Value}{n:Nat}{f:Array Value->Array Value}{t':Nat}(I:Inv X pins σ H s)(hH:H l=some (.lst xs))
  (e:s.heap.get? l=some { cls:=.type "list",data:=.seq av.toArray n }) (hf:f av.toArray=its'.toArray) (hv:Vals ys its') (hz:ys.length<=ZQ):
  Inv X pins σ (upd H l (.lst ys)) { s with heap:=s.heap.update l (aa7 f),toks:=t' }:=by
 have q:=PySem.IsL.update e f
 rw[hf]at q
 refine I.write (x:=l) (e:=l) (by rw[hH];exact trivial) (.inl rfl) (λb u a hu=>(abQ s.heap (aa7 f) (abg a)).trans hu) ⟨_,q⟩ ?_
 exact⟨hz,its',_,hv,q⟩
theorem Inv.TR {av:List Value}{t':Nat}(I:Inv X pins σ H s)(hv:Vals ys av)(hz:ys.length<=ZQ):
  Inv X pins σ (upd H s.heap.objs.size (.lst ys)) { s with heap:=s.heap.push { cls:=.type "list",data:=.seq av.toArray },toks:=t' }:=
 I.laid (λ_ _ q=>Zy _ q) (ZA _) ⟨hz,av,0,hv,ZF _ rfl⟩
theorem Inv.fresh (I:Inv X pins σ H s):H s.heap.objs.size=none:=I.bo.fresh (ZA _)
theorem Inv.TU (I:Inv X pins σ H s)(hH:H l=some (.lst xs)):xs.length<=ZQ /\ ∃(av:List Value) (n:Nat),Vals xs av/\xs.length=av.length/\s.heap.get? l=some { cls:=.type "list",data:=.seq av.toArray n }:=by
 obtain⟨z,av,n,r,e⟩:=I.bo l _ hH
 exact⟨z,av,n,r,r.length,e⟩
theorem DN {n:Nat}(h:n<=ZQ):abD n=false:=by
 unfold abD
 exact decide_eq_false (by omega)
end
section
variable {X:Cx}
noncomputable def Ia:V->List V->Hp->VK->Prop:=λx a H Q=>∃l xs y,x = .ref l/\a = [y]/\H l=some (.lst xs)/\xs.length<ZQ/\Q .aq (upd H l (.lst (xs ++ [y])))
theorem sM:WK X "list.append" Ia:=by
 intro pins s σ H x k v us Q I f c h
 obtain⟨l,xs,y,rfl,rfl,a,m,q⟩:=h
 cases f
 obtain⟨u,rfl,i⟩:=c.one
 obtain⟨z,b,n,r,j,e⟩:=I.TU a
 refine abj F.slot_list_append ⟨_,e,rfl⟩ F.entry_list_append (F.args_list_append_2 _ _) (PySem.list_append l b.toArray n u (by rw[Zz];omega)) ⟨e,?_⟩
 refine⟨.aq,_,I.TQ (its':=b ++ [u]) a e (by simp) (r.append (.cons i .nil)) ?_,rfl,q⟩
 rw[ZE,aag]
 omega
theorem len_rep {α:Type}(xs:List α)(k:Nat):(Zo k xs).flatten.length=k*xs.length:=by
 induction k with
 |zero=>simp
 |succ k ih=>rw[aaq,aaj,ZE,ih,Nat.succ_mul,Nat.add_comm]
end
end L2
namespace A9
open PySem PySem.W PySem.Calls PyProof.Rows
theorem qc {P:Params}{h:Heap}:∀(ns:List Int) (vs:List Value),WellAll P h vs (ns.map WData.int)->ado vs ns:=by
 intro ns
 induction ns with
 |nil =>
  intro vs w
  rw[ac5]at w
  cases w
  exact .nil
 |cons n ns ih =>
  intro vs w
  rw[Z9]at w
  cases w with
  |cons a b =>
   cases a
   exact .cons _ _ (ih _ b)
theorem A_ {l:ab1}{n:Nat}(hn:l.most=some n){P:Params}{h:Heap}{args:List WData}{vals:List Value}
  (zu:l.row.toRowW.claim.pre args=true) (K9:WellAll P h vals args):
  ∃a vs ns,vals = [abz a]/\args = [WData.list (ns.map WData.int)]/\h.get? a=some { cls:=.type "list",data:=.seq vs.toArray }/\ado vs ns/\ns.length<=n:=by
 have j:WShape.hasAll [] args [.list .int]=true:=(pre_splitW zu).1
 have e:l.pre.holds [] { args:=args }=true:=(pre_splitW zu).2
 obtain⟨d,r,rfl,f,i⟩:=hasAllW_cons j
 obtain rfl:=hasAllW_nil i
 obtain⟨xs,rfl,m⟩:=hasW_list f
 obtain⟨ns,rfl⟩:=items_int m
 have hlen:ns.length<=n:=by
  unfold OpenLaw.pre at e
  have b:(WTm.not (.lt (.lit (.int (n:Int))) (.len (.arg 0)))).holds [] { args:=[.list (ns.map .int)] }=true:=by
   have b:=(holds_andW e).1
   rw[hn]at b
   exact b
  have c:=condW_of b (w_not (w_lt w_lit (w_len_list (w_arg rfl))))
  rw[Z3]at c
  refine Nat.le_of_not_lt λq=>?_
  have k:(n:Int)<((ns.length:Nat):Int):=by omega
  first
   | (rw[decide_eq_true k]at c;exact absurd c (by decide))
   | (simp at c;omega)
 cases K9 with
 |cons w1 w2 =>
  cases w2
  cases w1 with
  |list ho lH=>exact⟨_,_,ns,rfl,rfl,ho,qc ns _ lH,hlen⟩
theorem Ba (l:ab1)(args:List WData):l.row.toRowW.claim.post args (.bool true) args=true :=
 postW_of (r:=l.row.toRowW) (X:=(true == true))
  (show WShape.has [] (.bool true) .bool=true by first|rfl|decide|simp[WShape.has,WShape.arms,WShape.armsAll])
  (show(WTm.eq .res (.lit (.bool true))).value [] { args:=args,res:=some (.bool true),after:=args }=some (.bool (true == true)) from w_eq_bool (w_res rfl) w_lit) rfl
theorem xx {l:ab1}{n:Nat}{q:ZW}{loose:List Str}{XP:(Str->Option Value)->Heap->Prop}{YP:World->Heap->Prop}{d:DefRec}
  (hn:l.most=some n) (uW:d.params.defaults = [])
  (call:∀(w:World) (s₀ s₁:Zq) (mg mb:Str->Option Value) (fa:Addr) (o:Obj) (pm cd doc:Value) (a:Addr) (vs:List Value) (ns:List Int),
   Ground q loose [] XP w s₀ mg mb s₁.heap->YP w s₁.heap ->
   s₁.heap.get? fa=some o->o.data = .func (docDef d.name d.params d.body d.scope pm cd doc)->s₁.heap.CodeRec cd d.name->mg d.name=some (.ref fa) ->
   s₁.heap.get? a=some { cls:=.type "list",data:=.seq vs.toArray }->ado vs ns->ns.length<=n->s₁.gens = #[] ->
   acS (model l.prog w) adq (.call (.ref fa) ⟨[.ref a],[]⟩) (λr s'=>r = .ok (.ret (.bool true))/\OldK s₁.heap s'.heap/\s'.os=s₁.os/\acR s'.gens) s₁):
  WalkO q loose XP YP l.row.toRowW d [] (λf vs=>aeI f vs):=by
 intro w s₀ s₁ mg mb G Y fa o pm cd doc m kV e hd s hD j c args vals as p y x v z
 obtain rfl:m = .none:=Dflts.none hD uW
 obtain rfl:kV = .none:=Dflts.noKw hD
 obtain⟨a,vs,ns,rfl,rfl,u,hints,hlen⟩:=A_ hn p v
 refine enter_call (ae_ (call w s₀ s₁ mg mb fa o pm cd doc a vs ns G Y e (fd_plain hd) s j u hints hlen c) λr s' i=>?_)
 obtain⟨rfl,h,k,b⟩:=i
 exact⟨.inl ⟨.bool true,.bool true,[],rfl,λ_=>rfl,.bool true,Ba l _,λ_=>⟨List.Pairwise.nil,λ_ hm=>(nomatch hm)⟩⟩,h,k,b⟩
end A9
namespace L2
open PySem PySem.Spec PyProof.Rows
theorem sN:∀{vs:List Value} {ns:List Int},ado vs ns->Vals (ns.map V.int) vs
 |_,_,.nil=>.nil
 |_,_,.cons n t h=>.cons ⟨t,rfl⟩ (sN h)
def DQ (H:Hp):Prop:=∀b,H b=none \/ ∃o xs,H b=some (.mF o (.lst xs))
theorem DR {P:ZW}{w:World}{K:ZD}{mg mb:Str->Option Value}{CX:mL}{k:Nat}{fa a:Addr}{fd:aaG}{x:Str}{sp:Sp}{s₁:Zq}{vs:List Value}{ns:List Int}
  (KX:K.In s₁.heap) (xQ:s₁.heap.Ns aal mg) (hb:s₁.heap.Ns adL mb) (WN:∀x:Str,x ≠ "__name__"->mb x=aa0 x) (TV:s₁.heap.NoLimit) (hg:s₁.gens = #[])
  (ha:s₁.heap.get? a=some { cls:=.type "list",data:=.seq vs.toArray }) (hi:ado vs ns) (hl:ns.length<=ZQ) (hr:cV k adq)
  (F:∀base:Heap,K.In base->base.Ns aal mg->dF P w K mg base CX k fa fd [x] sp) (O7:∀(s:Zq) (u:Value),afl s fd ⟨[u],[]⟩ [(x,u)])
  (sJ:∀H:Hp,DQ H->c_ K H a (ns.map V.int)->sp [.ref a] H (λv _=>v = .bl true) λ_ _ _=>False)
  (La:∀H e s',CX [] H s₁ (λ_ _ _=>False) e s'->False):
  acS (model P w) adq (.call (.ref fa) ⟨[.ref a],[]⟩) (λr s'=>r = .ok (.ret (.bool true))/\OldK s₁.heap s'.heap/\s'.os=s₁.os/\acR s'.gens) s₁:=by
 have y:=sN hi
 have TX:=hi.length
 have core:∀H:Hp,DQ H->c_ K H a (ns.map V.int)->eY P w H s₁.heap->(∀b,H b≠none->b=a)->(H a≠none->K.lookup a=none) ->
    acS (model P w) adq (.call (.ref fa) ⟨[.ref a],[]⟩) (λr s'=>r = .ok (.ret (.bool true))/\OldK s₁.heap s'.heap/\s'.os=s₁.os/\acR s'.gens) s₁:=by
  intro H hO hS bo hA hK
  have c:∀{b:Addr} {o:Obj},s₁.heap.get? b=some o->H b=none->(lC s₁.heap H).get? b=some o:=λe n=>Dr e n
  have A5:∀{b:Addr} {o:Obj} {i:Array Z4} {ep:Nat},s₁.heap.get? b=some o->o.data = .dict i ep->H b=none:=fun {b o i ep} e d=>by
    cases q:H b with
    |none=>rfl
    |some u =>
      have l:b=a:=hA b (by rw[q];simp)
      subst l
      rw[ha]at e;cases e
      have d':afP vs.toArray _=afc i ep:=d
      cases d'
  have j:∀{b:Addr} {m:Str->Option Value},s₁.heap.Ns b m->(lC s₁.heap H).Ns b m:=fun {b m} ⟨o,i,ep,e,d,r⟩=>⟨o,i,ep,c e (A5 e d),d,r⟩
  have Q7:K.In (lC s₁.heap H):=λb o e=>c (KX b o e) (by
    cases q:H b with
    |none=>rfl
    |some u =>
      have l:b=a:=hA b (by rw[q];simp)
      subst l
      rw[hK (by rw[q];simp)]at e;cases e)
  have hM:Mod K mg (lC s₁.heap H):=⟨Q7,j xQ,⟨mb,j hb,WN⟩,let⟨mc,h1,h2⟩:=TV;⟨mc,j h1,h2⟩⟩
  have e0:zh P w K mg (lC s₁.heap H) adq [] s₁ H:=⟨rfl,hM,λb o e=>Hz e,Nat.le_of_eq (AI _ _),trivial,λb hb=>absurd (show b∈([]:List Addr) from hb) (by simp),bo,.of_eq hg⟩
  refine ae_ ((F _ Q7 (j xQ)).run adq [] s₁ H ⟨[.ref a],[]⟩ [.ref a] [.ref a] _ _ hr e0 (O7 s₁ (.ref a)) (.cons rfl .nil) (sJ H hO hS)) λr s' h=>?_
  cases r with
  |error e=>exact(La H e s' h).elim
  |ok fl =>
    cases fl with
    |next=>exact abu h
    |brk=>exact abu h
    |cont=>exact abu h
    |ret u =>
      obtain⟨v,H',os,bare,un,TY,r',q⟩:=h
      have q':v = .bl true:=q
      subst q'
      obtain rfl:u=acW true:=r'
      refine⟨rfl,OldK.of_keep λb o e=>?_,os,bare⟩
      cases q:H b with
      |none=>exact un.keep b o e q (by intro z;exact absurd (show b∈([]:List Addr) from z) (by simp)) (by simp)
      |some u =>
       rcases hO b with z|⟨ob,xs,z⟩
       . rw[q]at z;cases z
       . have z2:=un.lB b ob _ z
         obtain⟨p,_⟩:=bo b _ z
         obtain⟨e2,_⟩:=TY b _ z2
         rw[e]at p;cases p
         exact e2
 cases hk:K.lookup a with
 |some o =>
  have e:=KX a o hk
  rw[ha]at e
  cases e
  refine core (λ_=>none) (λ_=>.inl rfl) (.inr ⟨_,vs.toArray,_,hk,rfl,rfl,rfl,by rw[Zz,TX];exact hl,by simpa using y⟩) (λb u z=>by have f:(none:Option HO)=some u:=z;cases f) (λb z=>absurd rfl z) λz=>absurd rfl z
 |none =>
  refine core (λb=>if b=a then some (.mF { cls:=.type "list",data:=.seq vs.toArray } (.lst (ns.map V.int)))else none) (λb=>?_) (.inl (.inr ⟨{ cls:=.type "list",data:=.seq vs.toArray },if_pos rfl⟩)) (λb u z=>?_) (λb z=>?_) λ_=>hk
  . by_cases hb:b=a
    . exact .inr ⟨_,_,if_pos hb⟩
    . exact .inl (if_neg hb)
  . by_cases hb:b=a
    . have f:=(if_pos hb).symm.trans z
      cases f
      subst hb
      exact⟨ha,by rw[Z3];exact hl,vs,_,y,ha⟩
    . have f:=(if_neg hb).symm.trans z
      cases f
  . by_cases hb:b=a
    . exact hb
    . exact absurd (if_neg hb) z
theorem Ib {l:ab1}{n k:Nat}{q:ZW}{loose:List Str}{XP:(Str->Option Value)->Heap->Prop}{YP:World->Heap->Prop}{d:DefRec}{K:Params->ZD}{CX:World->mL}{sp:World->Sp}{x:Str}
  (hn:l.most=some n) (WO:n<=ZQ) (uW:d.params.defaults = []) (hr:cV k adq)
  (hY:∀(w:World) (h:Heap),YP w h->(K w.params).In h)
  (F:∀(w:World) (mg:Str->Option Value) (fa:Addr) (h:Heap),(K w.params).In h->h.Ns aal mg->mg d.name=some (.ref fa) ->
   ∃fd:aaG,(∀(s:Zq) (u:Value),afl s fd ⟨[u],[]⟩ [(x,u)]) /\
    ∀base:Heap,(K w.params).In base->base.Ns aal mg->dF l.prog w (K w.params) mg base (CX w) k fa fd [x] (sp w))
  (sJ:∀(w:World) (H:Hp) (a:Addr) (ns:List Int),ns.length<=n->DQ H->c_ (K w.params) H a (ns.map V.int)->sp w [.ref a] H (λv _=>v = .bl true) λ_ _ _=>False)
  (La:∀(w:World) (H:Hp) (s:Zq) (e:Value) (s':Zq),CX w [] H s (λ_ _ _=>False) e s'->False):
  aeR q loose XP YP l.row.toRowW d [] (λf vs=>aeI f vs):=by
 refine A9.xx hn uW λw s₀ y mg mb fa o pm cd doc a vs ns G Y ho hd oI m z hints hlen i=>?_
 have c:=hY w _ Y
 obtain⟨fd,j,hF⟩:=F w mg fa _ c G.T.g m
 exact DR c G.T.g G.T.b G.T.builtins G.T.nolimit i z hints (aaJ hlen WO) hr hF j (λH r p=>sJ w H a ns hlen r p) λH e s'=>La w H y e s'
noncomputable def jw (s:Stmt):Arguments:=match s with
 |.FunctionDef _ a _ _ _ _ _ _ _ _=>a
 |_=>{ posonlyargs:=[],args:=[],vararg:=none,kwonlyargs:=[],kw_defaults:=[],kwarg:=none,defaults:=[] }
noncomputable def eJ (s:Stmt):List Stmt:=match s with
 |.FunctionDef _ _ b _ _ _ _ _ _ _=>b
 |_=>[]
noncomputable def bz (s:Stmt):Scope:=match s with
 |.FunctionDef _ _ _ _ _ _ sc _ _ _=>sc
 |_=>{ kind:=.function,names:=[],isGenerator:=false,isCoroutine:=false }
noncomputable abbrev i8:mL:=λ_ _ _ _ _ _=>False
noncomputable abbrev E0:XK:=λ_ _ _=>False
theorem zw {X:Cx}:Passes i8 X E0:=λ_ _ _ _ _ _ _ h=>h.elim
structure xR (K:ZD)(x qual:Str)(st:Stmt)(f:Addr)(fd:aaG):Prop where
 ex:∃(oc:Value) (od:Option Addr) (kV doc pm:Value) (an:Option Addr) (dS ct:Value) (uL:Array (Option Value)),
  fd=abB x qual (jw st) (eJ st) (bz st) .none kV doc pm an dS ct/\K.lookup f=some ⟨oc,od,.func fd,uL⟩/\adl K dS qual=true
 kp:aa3 K (.ref f)=true
section
variable {P:ZW}{w:World}{K:ZD}{mg:Str->Option Value}{base:Heap}
theorem xR.ok {x qual:Str}{st:Stmt}{f:Addr}{fd:aaG}{N ps:List Str}{k:Nat}{sp:Sp}(F:xR K x qual st f fd)(S:jv N ps (bz st))(len:∀vs H Q E,sp vs H Q E->vs.length=ps.length)
  (zi:∀(dS:Value) (A:Z0) (outer:List Env) (s:Zq) (H:Hp) (vs:List V) (Q:VK) (E:XK),cV k (A.deeper (ac3 qual (bz st) s.heap.objs.size f dS))->sp vs H Q E ->
   ∃t,gO (mM i8 P w K mg base N qual (bz st) f dS A outer s H E).xK (eJ st) t/\t { nx:=λ_ H'=>Q .aq H',rt:=Q } (start N vs) H):dF P w K mg base i8 (k+1) f fd ps sp:=by
 obtain⟨i,l,kV,doc,pm,an,dS,m,j,rfl,c,e⟩:=F.ex
 refine O2 c e S len λA outer s H vs Q E b a=>?_
 obtain⟨t,h,q⟩:=zi dS A outer s H vs Q E b a
 exact⟨t,h.xK,q⟩
theorem Lb {x qual:Str}{st:Stmt}{f:Addr}{oc:Value}{od an:Option Addr}{uL:Array (Option Value)}{kV doc pm dS ct:Value}(l:K.lookup f=some ⟨oc,od,.func (abB x qual (jw st) (eJ st) (bz st) .none kV doc pm an dS ct),uL⟩)
 (c:adl K dS qual=true) (k:aa3 K (.ref f)=true):xR K x qual st f (abB x qual (jw st) (eJ st) (bz st) .none kV doc pm an dS ct):=⟨⟨oc,od,kV,doc,pm,an,dS,ct,uL,rfl,l,c⟩,k⟩
end
end L2
namespace SW
open PySem PySem.Spec PyProof.Rows
noncomputable def tb (P:List Nat)(led:Bool):SetTable:={ mask:=7,place:=P.toArray,dummies:=#[],finger:=0,led:=led,moves:=0,plain:=true }
noncomputable def TZ:List (List Nat):=(Zp 8).map λa=>[a]
noncomputable def T4:List (List Nat):=(Zp 8).flatMap λa=>((Zp 8).filter λb=>decide (a<b)).map λb=>[a,b]
noncomputable def T5:List (List Nat):=(Zp 8).flatMap λa=>((Zp 8).filter λb=>decide (a<b)).flatMap λb=>((Zp 8).filter λc=>decide (b<c)).map λc=>[a,b,c]
noncomputable def WQ:List (List Nat):=[]::(TZ++T4++T5)
noncomputable def qd (led:Bool)(P:List Nat)(k:Nat):Bool:=match(tb P led).freeSlot (k:Int)with
 |some (s,false)=>
  let P':=(SetTable.insertAt P.toArray (aev P.toArray s) s).toList
  decide ((tb P led).put s=(tb P' led,aev P.toArray s))&&WQ.contains P'&&decide (P'.length=P.length+1)&&decide (aev P.toArray s<=P.length)
 |_=>false
end SW
namespace SJ
open PySem
noncomputable def iter (m:Nat):Nat->Nat->Nat
 | 0,i=>i
 |n+1,i=>iter m n ((i*5+1) % (m+1))
noncomputable def hits (m:Nat):Bool:=(Zp (m+1)).all λi=>(Zp (m+1)).all λt=>(Zp (m+1)).any λn=>iter m n i == t
noncomputable def rs (m:Nat)(q:Nat×Nat):ago:={ j:=q.1,more:=SetTable.runEnd m q.1-q.1,i:=q.1,perturb:=q.2,dummy:=none }
structure PI (t:SetTable)(p:ago):Prop where
 j:p.j+p.more<=t.mask
 d:p.dummy=none
end SJ
namespace SW
open PySem PySem.Spec PyProof.Rows
noncomputable def Q8 (ks:List Nat)(k:Nat):List Nat:=if k∈ks then ks else ks ++ [k]
section
variable {prog:ZW}{w:World}{A:Z0}{R:Result->Zq->Prop}{I:Addr}{fp wr:List Addr}{G:Array GenState->Array GenState->Prop}{n:Nat}{P:Nat->Value->Prop}{St:Nat->Zq->Prop}
noncomputable def seen (val:Nat->Nat):Nat->List Nat
 | 0=>[]
 |i+1=>Q8 (seen val i) (val i)
end
end SW
namespace SJ
open PySem PySem.Spec PyProof.Rows
end SJ
namespace SJ
open PySem PySem.Spec PyProof.Rows SW
noncomputable def Q8 (ks:List Int)(k:Int):List Int:=if k∈ks then ks else ks ++ [k]
end SJ
namespace SW
open PySem PySem.Spec PyProof.Rows
noncomputable def zs (ks:List Nat):List Int:=ks.map λ(k:Nat)=>(k:Int)
end SW
namespace L3
open PySem PySem.Spec PyProof.Rows L2
inductive D where
 |aq|bl (b:Bool)|int (i:Int)|str (x:Str)|tup (xs:List D)|lst (xs:List D)|de|ref (n:Nat)|ax (n:Nat)|fn (x:Str)
structure KW where
 fr:ZD
 w:World
 mg:Str->Option Value
instance:Coe KW ZD:=⟨KW.fr⟩
noncomputable abbrev _root_.L2.Cx.kw (X:L2.Cx):KW:=⟨X.K,X.w,X.mg⟩
abbrev G:=List (List D)
abbrev Sg:=List (Option D)
structure Ix where
 ix:List Addr
 hd:List Addr
 kd:Nat->Nat
noncomputable def kb:Nat->Bool
 | 0=>false
 |_+1=>true
def cR (ι:Ix)(n:Nat)(a:Addr)(b:Bool):Prop:=ι.ix[n]? = some a/\kb (ι.kd n)=b
noncomputable def Ix.more (ι:Ix)(p:Addr)(b:Nat):Ix:=⟨ι.ix ++ [p],ι.hd,λi=>if i=ι.ix.length then b else ι.kd i⟩
mutual
noncomputable def aY:Nat->D->Bool
 |_,.aq=>true
 |_,.int _=>true
 |_,.str _=>true
 |n+1,.tup xs=>gQ n xs
 |_,_=>false
noncomputable def gQ:Nat->List D->Bool
 |_,[]=>true
 |n,d::ds=>aY n d&&gQ n ds
end
mutual
noncomputable def hD (w:World):D->Int
 |.int i=>hashInt i
 |.str x=>hashStr w x
 |.aq=>reduceHash 0xFCA86420
 |.tup xs=>reduceHash (adM (Bb w xs))
 |_=>0
noncomputable def Bb (w:World):List D->List Int
 | []=>[]
 |d::ds=>hD w d::Bb w ds
end
noncomputable def dO (a:Addr)(es:List Z4)(c:Nat):HO:=.ext λh=>h.get? a=some { cls:=.type "dict",data:=.dict es.toArray (es.length-c) }
noncomputable def qf:List Z4->List Value
 | []=>[]
 |e::es=>e.key::e.val::qf es
noncomputable def bL:List D->List D
 |k::_::r=>k::bL r
 |_=>[]
inductive jG (w:World):List D->List Z4->Prop
 |nil:jG w [] []
 |cons {k v:D} {r:List D} {e:Z4} {es:List Z4}:aY 6 k=true->e.hash=hD w k->jG w r es->jG w (k::v::r) (e::es)
inductive OV (K:KW)(a:Addr)(xs:List D):Nat->HO->List V->Prop
 |l (vs:List V):OV K a xs 0 (.lst vs) vs
 |d (c:Nat) (es:List Z4) (vs:List V):c<=es.length->Vals vs (qf es)->jG K.w xs es->(bL xs).Nodup->(a == abi)=false->es.length<=ZQ->OV K a xs (c+1) (dO a es c) vs
noncomputable def mQ (K:KW)(H:Hp)(ι:Ix)(a:Addr)(xs:List V):Prop :=
 (Rd H a (.lst xs)/\a ∉ ι.ix/\a ∉ ι.hd) \/
  ∃(o:Obj) (av:Array Value) (n:Nat),K.fr.lookup a=some o/\o.cls = .type "list" /\ o.dict=none/\o.data = .seq av n/\av.size<=ZQ/\Vals xs av.toList
theorem mQ.sq {K H ι a xs}(h:mQ K H ι a xs):c_ K H a xs:=by
 rcases h with⟨h,_⟩|h
 . exact .inl h
 . exact .inr h
noncomputable def mf (K:KW)(H:Hp)(ι:Ix)(a:Addr)(xs:List V):Prop :=
 (Rd H a (.tup xs)/\a ∉ ι.ix) \/
  ∃(o:Obj) (av:Array Value) (n:Nat),K.fr.lookup a=some o/\o.cls = .type "tuple" /\ o.dict=none/\o.data = .seq av n/\av.size<=ZQ/\Vals xs av.toList
theorem mf.sq {K H ι a xs}(h:mf K H ι a xs):dR K H a xs:=by
 rcases h with⟨h,_⟩|h
 . exact .inl h
 . exact .inr h
mutual
noncomputable def Rel (K:KW)(H:Hp)(ι:Ix):D->V->Prop
 |.aq,v=>v = .aq
 |.bl b,v=>v = .bl b
 |.int i,v=>v = .int i
 |.str x,v=>v = .str x
 |.tup xs,v=>∃a vs,v = .ref a/\mf K H ι a vs/\aj K H ι xs vs
 |.lst xs,v=>∃a vs,v = .ref a/\mQ K H ι a vs/\aj K H ι xs vs
 |.de,v=>∃a,v = .ref a/\H a=some (.dK [])/\a ∉ ι.ix
 |.ref n,v=>∃a,v = .ref a/\cR ι n a false
 |.ax n,v=>∃a,v = .ref a/\cR ι n a true
 |.fn x,v=>∃a,v = .ref a/\K.mg x=some (.ref a)
noncomputable def aj (K:KW)(H:Hp)(ι:Ix):List D->List V->Prop
 | [],vs=>vs = []
 |x::xs,vs=>∃v vr,vs=v::vr/\Rel K H ι x v/\aj K H ι xs vr
end
structure Ext (H:Hp)(ι:Ix)(H':Hp)(ι':Ix):Prop where
 same:∀a o,H a=some o->a ∉ ι.ix->H' a=some o
 there:∀a,H a≠none->H' a≠none
 more:∃m,ι'.ix=ι.ix++m /\ ∀a∈m,H a=none
 cH:ι'.hd=ι.hd
 mh:∀i,i < ι.ix.length->ι'.kd i=ι.kd i
structure az (K:KW)(H:Hp)(ι:Ix)(g:G):Prop where
 nd:ι.ix.Nodup
 len:ι.ix.length=g.length
 cH:∀b∈ι.hd,b ∉ ι.ix/\H b≠none
 at_:∀(i:Nat) xs,g[i]? = some xs->∃a o vs,ι.ix[i]? = some a/\H a=some o/\OV K a xs (ι.kd i) o vs/\aj K H ι xs vs
noncomputable def bR (K:KW)(H:Hp)(ι:Ix)(σd:Sg)(σ:L2.St):Prop :=
 σd.length=σ.length /\ ∀(i:Nat) d,σd[i]? = some (some d)->∃v,σ[i]? = some (some v)/\Rel K H ι d v
theorem Ext.refl {H ι}:Ext H ι H ι:=⟨λ_ _ h _=>h,λ_ h=>h,⟨[],by simp,λ_ h=>by simp at h⟩,rfl,λ_ _=>rfl⟩
theorem Ext.old {H ι H1 ι1}(a:Ext H ι H1 ι1){c:Addr}{o:HO}(h:H c=some o)(n:c ∉ ι.ix):c ∉ ι1.ix:=λz=>by
 obtain⟨e,b,f1⟩:=a.more
 rw[b]at z
 rcases ZN.mp z with z|z
 . exact n z
 . rw[f1 c z]at h;cases h
theorem Ext.trans {H ι H1 ι1 H2 ι2}(a:Ext H ι H1 ι1)(b:Ext H1 ι1 H2 ι2):Ext H ι H2 ι2:=by
 obtain⟨j,e,f1⟩:=a.more
 obtain⟨l,k,f2⟩:=b.more
 refine⟨λc o h n=>b.same c o (a.same c o h n) (a.old h n),λc h=>b.there c (a.there c h),⟨j++l,by rw[k,e,aak],λc z=>?_⟩,b.cH.trans a.cH,λi f=>(b.mh i (by rw[e,ZE];omega)).trans (a.mh i f)⟩
 rcases ZN.mp z with z|z
 . exact f1 c z
 . cases q:H c with
   |none=>rfl
   |some o=>exact absurd (f2 c z) (a.there c (by rw[q];simp))
theorem Ext.at {H ι H1 ι1}(a:Ext H ι H1 ι1){i:Nat}{c:Addr}{b:Bool}(h:cR ι i c b):cR ι1 i c b:=by
 obtain⟨j,f,_⟩:=a.more
 have e:=(Zr.mp h.1).1
 refine⟨?_,by rw[a.mh i e];exact h.2⟩
 rw[f,Zx e];exact h.1
theorem mQ.ext {K H ι H1 ι1 a xs}(e:Ext H ι H1 ι1)(h:mQ K H ι a xs):mQ K H1 ι1 a xs:=by
 rcases h with⟨h|⟨o,h⟩,n,k⟩|h
 . exact .inl ⟨.inl (e.same _ _ h n),e.old h n,by rw[e.cH];exact k⟩
 . exact .inl ⟨.inr ⟨o,e.same _ _ h n⟩,e.old h n,by rw[e.cH];exact k⟩
 . exact .inr h
theorem mf.ext {K H ι H1 ι1 a xs}(e:Ext H ι H1 ι1)(h:mf K H ι a xs):mf K H1 ι1 a xs:=by
 rcases h with⟨h|⟨o,h⟩,n⟩|h
 . exact .inl ⟨.inl (e.same _ _ h n),e.old h n⟩
 . exact .inl ⟨.inr ⟨o,e.same _ _ h n⟩,e.old h n⟩
 . exact .inr h
mutual
theorem Rel.ext {K H ι H1 ι1}(e:Ext H ι H1 ι1):∀(d:D) {v:V},Rel K H ι d v->Rel K H1 ι1 d v
 |.aq,v,h=>by simpa[Rel]using h
 |.bl _,v,h=>by simpa[Rel]using h
 |.int _,v,h=>by simpa[Rel]using h
 |.str _,v,h=>by simpa[Rel]using h
 |.tup xs,v,h=>by
  simp only[Rel]at h ⊢
  obtain⟨a,i,c,b,f⟩:=h
  exact⟨a,i,c,b.ext e,aj.ext e xs f⟩
 |.lst xs,v,h=>by
  simp only[Rel]at h ⊢
  obtain⟨a,i,c,b,f⟩:=h
  exact⟨a,i,c,b.ext e,aj.ext e xs f⟩
 |.de,v,h=>by
  simp only[Rel]at h ⊢
  obtain⟨a,c,b,f⟩:=h
  exact⟨a,c,e.same _ _ b f,e.old b f⟩
 |.ref n,v,h=>by
  simp only[Rel]at h ⊢
  obtain⟨a,c,b⟩:=h
  exact⟨a,c,e.at b⟩
 |.ax n,v,h=>by
  simp only[Rel]at h ⊢
  obtain⟨a,c,b⟩:=h
  exact⟨a,c,e.at b⟩
 |.fn x,v,h=>by simpa[Rel]using h
theorem aj.ext {K H ι H1 ι1}(e:Ext H ι H1 ι1):∀(ds:List D) {vs:List V},aj K H ι ds vs->aj K H1 ι1 ds vs
 | [],vs,h=>by simpa[aj]using h
 |d::ds,vs,h=>by
  simp only[aj]at h ⊢
  obtain⟨v,f,a,c,b⟩:=h
  exact⟨v,f,a,Rel.ext e d c,aj.ext e ds b⟩
end
theorem bR.ext {K H ι H1 ι1 σd σ}(e:Ext H ι H1 ι1)(h:bR K H ι σd σ):bR K H1 ι1 σd σ :=
 ⟨h.1,λi d q=>let⟨v,a,b⟩:=h.2 i d q;⟨v,a,Rel.ext e d b⟩⟩
theorem aj.length {K H ι}:∀{ds:List D} {vs:List V},aj K H ι ds vs->ds.length=vs.length
 | [],vs,h=>by simp only[aj]at h;subst h;rfl
 |d::ds,vs,h=>by
  simp only[aj]at h
  obtain⟨v,b,rfl,_,a⟩:=h
  simp[aj.length a]
theorem aj.append {K H ι}:∀{ds es:List D} {vs us:List V},aj K H ι ds vs->aj K H ι es us->aj K H ι (ds++es) (vs++us)
 | [],es,vs,us,h,k=>by simp only[aj]at h;subst h;exact k
 |d::ds,es,vs,us,h,k=>by
  simp only[aj]at h
  obtain⟨v,c,rfl,b,a⟩:=h
  simp only[acP,aj]
  exact⟨v,_,rfl,b,aj.append a k⟩
theorem aj.get {K H ι}:∀{ds:List D} {vs:List V} {i:Nat} {d:D},aj K H ι ds vs->ds[i]? = some d->∃v,vs[i]? = some v/\Rel K H ι d v
 | [],_,_,_,_,e=>by simp at e
 |x::ds,vs,0,d,h,e=>by
  simp only[aj]at h
  obtain⟨v,j,rfl,b,a⟩:=h
  simp at e;subst e;exact⟨v,rfl,b⟩
 |x::ds,vs,i+1,d,h,e=>by
  simp only[aj]at h
  obtain⟨v,j,rfl,b,a⟩:=h
  obtain⟨u,c,f⟩:=aj.get (i:=i) a (by simpa using e)
  exact⟨u,by simpa using c,f⟩
theorem aj.set {K H ι d v}(hv:Rel K H ι d v):∀{ds:List D} {vs:List V} (i:Nat),aj K H ι ds vs->aj K H ι (ds.set i d) (vs.set i v)
 | [],_,_,h=>by simp only[aj]at h;subst h;simp[aj]
 |x::ds,vs,0,h=>by
  simp only[aj]at h
  obtain⟨u,b,rfl,hu,a⟩:=h
  simp only[ady,aj]
  exact⟨v,b,rfl,hv,a⟩
 |x::ds,vs,i+1,h=>by
  simp only[aj]at h
  obtain⟨u,b,rfl,hu,a⟩:=h
  simp only[acs,aj]
  exact⟨u,_,rfl,hu,aj.set hv i a⟩
theorem aj.take {K H ι}:∀{ds:List D} {vs:List V} (n:Nat),aj K H ι ds vs->aj K H ι (ds.take n) (vs.take n)
 |_,_,0,_=>by simp[aj]
 | [],_,n+1,h=>by simp only[aj]at h;subst h;simp[aj]
 |x::ds,vs,n+1,h=>by
  simp only[aj]at h
  obtain⟨u,b,rfl,hu,a⟩:=h
  simp only[aeX,aj]
  exact⟨u,_,rfl,hu,aj.take n a⟩
theorem aj.drop {K H ι}:∀{ds:List D} {vs:List V} (n:Nat),aj K H ι ds vs->aj K H ι (ds.drop n) (vs.drop n)
 |_,_,0,h=>h
 | [],_,n+1,h=>by simp only[aj]at h;subst h;simp[aj]
 |x::ds,vs,n+1,h=>by
  simp only[aj]at h
  obtain⟨u,b,rfl,hu,a⟩:=h
  simp only[aeY]
  exact aj.drop n a
theorem az.at {K H ι g}(h:az K H ι g){n:Nat}{xs:List D}{a:Addr}(e:g[n]? = some xs)(ha:cR ι n a false):∃vs,H a=some (.lst vs)/\aj K H ι xs vs:=by
 obtain⟨b,o,vs,c,i,f,j⟩:=h.at_ n xs e
 rw[ha.1]at c;cases c
 have c:=ha.2
 generalize ι.kd n=k at f c
 cases f with
 |l=>exact⟨vs,i,j⟩
 |d=>cases c
theorem az.oQ {K H ι g}(h:az K H ι g){n:Nat}{xs:List D}{a:Addr}(e:g[n]? = some xs)(ha:cR ι n a true):
  ∃es vs c,H a=some (dO a es c)/\ι.kd n=c+1/\c<=es.length/\Vals vs (qf es)/\jG K.w xs es/\(bL xs).Nodup/\(a == abi)=false/\es.length<=ZQ/\aj K H ι xs vs:=by
 obtain⟨b,o,vs,f,j,i,m⟩:=h.at_ n xs e
 rw[ha.1]at f;cases f
 have f:=ha.2
 generalize ι.kd n=k at i f
 cases i with
 |l=>cases f
 |d c es vs h0 h3 h4 h5 h6 h7=>exact⟨es,vs,c,j,rfl,h0,h3,h4,h5,h6,h7,m⟩
theorem az.su {K H ι g}(h:az K H ι g){a:Addr}(ha:a∈ι.ix):H a≠none:=by
 obtain⟨i,c,e⟩:=abw.mp ha
 have j:i<g.length:=by rw[<- h.len];exact c
 obtain⟨b,_,l,f,k,_⟩:=h.at_ i _ (Zs j)
 rw[Zs c,e]at f
 cases f
 rw[k];simp
theorem Ext.lay {H ι p o}(hp:H p=none):Ext H ι (upd H p o) ι :=
 ⟨λa u h _=>by rw[aT (bY h hp)];exact h,λa h=>by
  by_cases e:a=p
  . subst e;exact absurd hp h
  . rw[aT e];exact h,⟨[],by simp,λ_ h=>by simp at h⟩,rfl,λ_ _=>rfl⟩
theorem az.ext {K H ι g H1}(h:az K H ι g)(e:Ext H ι H1 ι)(k:∀a∈ι.ix,H1 a=H a):az K H1 ι g :=
 ⟨h.nd,h.len,λb f=>⟨(h.cH b f).1,e.there b (h.cH b f).2⟩,λi xs q=>by
  obtain⟨a,o,l,c,j,m,n⟩:=h.at_ i xs q
  exact⟨a,o,l,c,by rw[k a (ZZ c)];exact j,m,aj.ext e xs n⟩⟩
theorem az.lay {K H ι g p o}(h:az K H ι g)(hp:H p=none):az K (upd H p o) ι g :=
 h.ext (Ext.lay hp) λa b=>aT λe=>by subst e;exact h.su b hp
theorem az.fresh {K H ι g p}(h:az K H ι g)(hp:H p=none):p ∉ ι.ix:=λa=>h.su a hp
theorem az.kL {K H ι g p}(h:az K H ι g)(hp:H p=none):p ∉ ι.hd:=λa=>(h.cH p a).2 hp
theorem Ext.eP {H ι p o b}(hp:H p=none):Ext H ι (upd H p o) (ι.more p b):=by
 have e:=Ext.lay (ι:=ι) (o:=o) hp
 refine⟨e.same,e.there,⟨[p],rfl,λa c=>by simp at c;subst c;exact hp⟩,rfl,λi f=>?_⟩
 show(if i=ι.ix.length then b else ι.kd i)=ι.kd i
 rw[if_neg (by omega)]
theorem Ext.push {H ι p o}(hp:H p=none):Ext H ι (upd H p o) (ι.more p 0):=Ext.eP hp
theorem az.eP {K H ι g p o xs vs b}(h:az K H ι g)(hp:H p=none)(ov:OV K p xs b o vs)(r:aj K H ι xs vs):az K (upd H p o) (ι.more p b) (g ++ [xs]):=by
 have x:=h.fresh hp
 refine⟨?_,by simp[Ix.more,h.len],λb c=>⟨λz=>?_,(Ext.eP (ι:=ι) (o:=o) (b:=0) hp).there b (h.cH b c).2⟩,λi ys q=>?_⟩
 . show(ι.ix ++ [p]).Nodup
   rw[abS]
   refine⟨h.nd,by simp,λa u b c=>?_⟩
   simp at c;subst c
   intro e;subst e;exact x u
 . rcases ZN.mp z with z|z
   . exact(h.cH b c).1 z
   . simp at z;subst z;exact(h.cH _ c).2 hp
 . by_cases hi:i<g.length
   . rw[Zx hi]at q
     obtain⟨a,j,us,s,l,m,v⟩:=h.at_ i ys q
     refine⟨a,j,us,(by show(ι.ix ++ [p])[i]? = some a;rw[Zx (by rw[h.len];exact hi)];exact s),?_,?_,aj.ext (Ext.eP hp) ys v⟩
     . rw[aT (bY l hp)];exact l
     . show OV K _ _ (if i=ι.ix.length then b else ι.kd i) j us
       rw[if_neg (by rw[h.len];omega)];exact m
   . rw[ZS (by omega)]at q
     have n:i-g.length=0:=by
       cases e:i-g.length with
       |zero=>rfl
       |succ k=>rw[e]at q;simp at q
     rw[n]at q
     have e:xs=ys:=by simpa using q
     subst e
     have f:i=ι.ix.length:=by rw[h.len];omega
     refine⟨p,o,vs,?_,bG,?_,aj.ext (Ext.eP hp) xs r⟩
     . show(ι.ix ++ [p])[i]? = some p
       rw[f];simp
     . show OV K _ _ (if i=ι.ix.length then b else ι.kd i) o vs
       rw[if_pos f];exact ov
theorem az.push {K H ι g p xs vs}(h:az K H ι g)(hp:H p=none)(r:aj K H ι xs vs):az K (upd H p (.lst vs)) (ι.more p 0) (g ++ [xs]):=h.eP hp (.l vs) r
theorem cR.new {ι:Ix}{p:Addr}{k:Nat}{n:Nat}(h:ι.ix.length=n):cR (ι.more p k) n p (kb k):=by
 subst h
 exact⟨by show(ι.ix ++ [p])[ι.ix.length]? = some p;simp,by show kb (if ι.ix.length=ι.ix.length then k else ι.kd ι.ix.length)=kb k;rw[if_pos rfl]⟩
theorem Ext.put {H ι}{n:Nat}{a o o'}{b:Bool}(ha:cR ι n a b)(h:H a=some o):Ext H ι (upd H a o') ι :=
 ⟨λb o q nb=>by rw[aT (λe=>nb (by rw[e];exact ZZ ha.1))];exact q,λb q=>by
  by_cases e:b=a
  . subst e;rw[bG];simp
  . rw[aT e];exact q,⟨[],by simp,λ_ z=>by simp at z⟩,rfl,λ_ _=>rfl⟩
theorem az.Lc {K H ι g}{n:Nat}{a o o' xs ws}{b:Bool}(h:az K H ι g)(ha:cR ι n a b)(hv:H a=some o)(ov:OV K a xs (ι.kd n) o' ws)(r:aj K H ι xs ws):az K (upd H a o') ι (g.set n xs):=by
 refine⟨h.nd,by simp[h.len],λb k=>⟨(h.cH b k).1,(Ext.put ha hv).there b (h.cH b k).2⟩,λi f q=>?_⟩
 by_cases e:i=n
 . subst e
   have j:i<g.length:=by rw[<- h.len];exact(Zr.mp ha.1).1
   rw[ZL j]at q
   cases q
   exact⟨a,o',ws,ha.1,bG,ov,aj.ext (Ext.put ha hv) _ r⟩
 . rw[ZT (abg e)]at q
   obtain⟨b,u,us,c,p,m,v⟩:=h.at_ i f q
   refine⟨b,u,us,c,?_,m,aj.ext (Ext.put ha hv) f v⟩
   rw[aT ?_]
   . exact p
   . intro z
     subst z
     obtain⟨j,l⟩:=Zr.mp c
     obtain⟨x,s⟩:=Zr.mp ha.1
     exact e ((adX h.nd).mp (l.trans s.symm))
theorem az.put {K H ι g}{n:Nat}{a vs xs ws}(h:az K H ι g)(ha:cR ι n a false)(hv:H a=some (.lst vs))(r:aj K H ι xs ws):az K (upd H a (.lst ws)) ι (g.set n xs):=h.Lc ha hv (by
 have b:=ha.2
 cases e:ι.kd n with
 |zero=>exact .l ws
 |succ k=>rw[e]at b;cases b) r
noncomputable def Ix.hide (ι:Ix)(p:Addr):Ix:=⟨ι.ix,p::ι.hd,ι.kd⟩
mutual
theorem Rel.show {K H ι p}:∀(d:D) {v:V},Rel K H (Ix.hide ι p) d v->Rel K H ι d v
 |.aq,v,h=>by simpa[Rel]using h
 |.bl _,v,h=>by simpa[Rel]using h
 |.int _,v,h=>by simpa[Rel]using h
 |.str _,v,h=>by simpa[Rel]using h
 |.tup xs,v,h=>by
  simp only[Rel]at h ⊢
  obtain⟨a,e,b,f,c⟩:=h
  exact⟨a,e,b,f,aj.show xs c⟩
 |.lst xs,v,h=>by
  simp only[Rel]at h ⊢
  obtain⟨a,e,b,f,c⟩:=h
  refine⟨a,e,b,?_,aj.show xs c⟩
  rcases f with⟨h,n,k⟩|h
  . exact .inl ⟨h,n,λz=>k (ZV _ z)⟩
  . exact .inr h
 |.de,v,h=>by simpa[Rel,Ix.hide]using h
 |.ref n,v,h=>by simpa[Rel,Ix.hide,cR]using h
 |.ax n,v,h=>by simpa[Rel,Ix.hide,cR]using h
 |.fn x,v,h=>by simpa[Rel]using h
theorem aj.show {K H ι p}:∀(ds:List D) {vs:List V},aj K H (Ix.hide ι p) ds vs->aj K H ι ds vs
 | [],vs,h=>by simpa[aj]using h
 |d::ds,vs,h=>by
  simp only[aj]at h ⊢
  obtain⟨v,e,a,c,b⟩:=h
  exact⟨v,e,a,Rel.show d c,aj.show ds b⟩
end
mutual
theorem Rel.hide {K H ι p o}(hp:H p=none):∀(d:D) {v:V},Rel K H ι d v->Rel K (upd H p o) (Ix.hide ι p) d v
 |.aq,v,h=>by simpa[Rel]using h
 |.bl _,v,h=>by simpa[Rel]using h
 |.int _,v,h=>by simpa[Rel]using h
 |.str _,v,h=>by simpa[Rel]using h
 |.tup xs,v,h=>by
  simp only[Rel]at h ⊢
  obtain⟨a,f,c,b,e⟩:=h
  refine⟨a,f,c,?_,aj.hide hp xs e⟩
  rcases b with⟨h|⟨u,h⟩,n⟩|h
  . exact .inl ⟨.inl (by rw[aT (bY h hp)];exact h),n⟩
  . exact .inl ⟨.inr ⟨u,by rw[aT (bY h hp)];exact h⟩,n⟩
  . exact .inr h
 |.lst xs,v,h=>by
  simp only[Rel]at h ⊢
  obtain⟨a,f,c,b,e⟩:=h
  refine⟨a,f,c,?_,aj.hide hp xs e⟩
  have out:∀{u:HO},H a=some u->a ∉ ι.hd->a ∉ (Ix.hide ι p).hd:=λh k z=>by
    rcases ZI.mp z with z|z
    . exact bY h hp z
    . exact k z
  rcases b with⟨h|⟨u,h⟩,n,k⟩|h
  . exact .inl ⟨.inl (by rw[aT (bY h hp)];exact h),n,out h k⟩
  . exact .inl ⟨.inr ⟨u,by rw[aT (bY h hp)];exact h⟩,n,out h k⟩
  . exact .inr h
 |.de,v,h=>by
  simp only[Rel]at h ⊢
  obtain⟨a,c,b,e⟩:=h
  exact⟨a,c,by rw[aT (bY b hp)];exact b,e⟩
 |.ref n,v,h=>by simpa[Rel,Ix.hide,cR]using h
 |.ax n,v,h=>by simpa[Rel,Ix.hide,cR]using h
 |.fn x,v,h=>by simpa[Rel]using h
theorem aj.hide {K H ι p o}(hp:H p=none):∀(ds:List D) {vs:List V},aj K H ι ds vs->aj K (upd H p o) (Ix.hide ι p) ds vs
 | [],vs,h=>by simpa[aj]using h
 |d::ds,vs,h=>by
  simp only[aj]at h ⊢
  obtain⟨v,e,a,c,b⟩:=h
  exact⟨v,e,a,Rel.hide hp d c,aj.hide hp ds b⟩
end
mutual
theorem Rel.grow {K H ι p us ws}(hp:H p=some (.lst us)):∀(d:D) {v:V},Rel K H (Ix.hide ι p) d v->Rel K (upd H p (.lst ws)) (Ix.hide ι p) d v
 |.aq,v,h=>by simpa[Rel]using h
 |.bl _,v,h=>by simpa[Rel]using h
 |.int _,v,h=>by simpa[Rel]using h
 |.str _,v,h=>by simpa[Rel]using h
 |.tup xs,v,h=>by
  simp only[Rel]at h ⊢
  obtain⟨a,f,c,b,e⟩:=h
  refine⟨a,f,c,?_,aj.grow hp xs e⟩
  rcases b with⟨h|⟨u,h⟩,n⟩|h
  . exact .inl ⟨.inl (by rw[aT (y6 h hp (by simp))];exact h),n⟩
  . exact .inl ⟨.inr ⟨u,by rw[aT (y6 h hp (by simp))];exact h⟩,n⟩
  . exact .inr h
 |.lst xs,v,h=>by
  simp only[Rel]at h ⊢
  obtain⟨a,f,c,b,e⟩:=h
  refine⟨a,f,c,?_,aj.grow hp xs e⟩
  rcases b with⟨h,n,k⟩|h
  . have ne:a≠p:=λz=>k (by rw[z];exact ZR)
    rcases h with h|⟨u,h⟩
    . exact .inl ⟨.inl (by rw[aT ne];exact h),n,k⟩
    . exact .inl ⟨.inr ⟨u,by rw[aT ne];exact h⟩,n,k⟩
  . exact .inr h
 |.de,v,h=>by
  simp only[Rel]at h ⊢
  obtain⟨a,c,b,e⟩:=h
  exact⟨a,c,by rw[aT (y6 b hp (by simp))];exact b,e⟩
 |.ref n,v,h=>by simpa[Rel,Ix.hide,cR]using h
 |.ax n,v,h=>by simpa[Rel,Ix.hide,cR]using h
 |.fn x,v,h=>by simpa[Rel]using h
theorem aj.grow {K H ι p us ws}(hp:H p=some (.lst us)):∀(ds:List D) {vs:List V},aj K H (Ix.hide ι p) ds vs->aj K (upd H p (.lst ws)) (Ix.hide ι p) ds vs
 | [],vs,h=>by simpa[aj]using h
 |d::ds,vs,h=>by
  simp only[aj]at h ⊢
  obtain⟨v,e,a,c,b⟩:=h
  exact⟨v,e,a,Rel.grow hp d c,aj.grow hp ds b⟩
end
theorem az.hide {K H ι p o g}(hp:H p=none)(h:az K H ι g):az K (upd H p o) (Ix.hide ι p) g :=
 ⟨h.nd,h.len,λb c=>by
  rcases ZI.mp c with rfl|c
  . exact⟨h.fresh hp,by rw[bG];simp⟩
  . refine⟨(h.cH b c).1,?_⟩
    by_cases e:b=p
    . subst e;rw[bG];simp
    . rw[aT e];exact(h.cH b c).2,λi xs q=>by
  obtain⟨a,o,k,j,f,l,m⟩:=h.at_ i xs q
  exact⟨a,o,k,j,by rw[aT (bY f hp)];exact f,l,aj.hide hp xs m⟩⟩
theorem az.show {K H ι p g}(h:az K H (Ix.hide ι p) g):az K H ι g :=
 ⟨h.nd,h.len,λb f=>h.cH b (ZV _ f),λi xs q=>by
  obtain⟨a,o,j,c,e,k,l⟩:=h.at_ i xs q
  exact⟨a,o,j,c,e,k,aj.show xs l⟩⟩
theorem az.grow {K H ι p us ws g}(hp:H p=some (.lst us))(h:az K H (Ix.hide ι p) g):az K (upd H p (.lst ws)) (Ix.hide ι p) g :=
 ⟨h.nd,h.len,λb f=>⟨(h.cH b f).1,by
   by_cases e:b=p
   . subst e;rw[bG];simp
   . rw[aT e];exact(h.cH b f).2⟩,λi xs q=>by
  obtain⟨a,o,k,c,j,l,m⟩:=h.at_ i xs q
  refine⟨a,o,k,c,?_,l,aj.grow hp xs m⟩
  rw[aT (λe=>(h.cH p ZR).1 (by rw[<- e];exact ZZ c))];exact j⟩
abbrev FE:=Sg->G->Option (D×G)
abbrev FT:=Sg->G->Option (Bool×G)
abbrev FA:=Sg->G->Option (List D×G)
def fY (K:KW)(H:Hp)(ι:Ix)(d:D)(g':G)(Q:VK):Prop:=∀H' ι' v,Ext H ι H' ι'->az K H' ι' g'->Rel K H' ι' d v->Q v H'
def O8 (K:KW)(H:Hp)(ι:Ix)(ds:List D)(g':G)(Q:List V->Hp->Prop):Prop:=∀H' ι' vs,Ext H ι H' ι'->az K H' ι' g'->aj K H' ι' ds vs->Q vs H'
def qg (K:KW)(H:Hp)(ι:Ix)(g':G)(Q:Hp->Prop):Prop:=∀H' ι',Ext H ι H' ι'->az K H' ι' g'->Q H'
inductive tD (K:KW)(f:FE)(σ:L2.St)(H:Hp)(Q:VK):Prop
 |mk (ι:Ix) (σd:Sg) (g:G) (d:D) (g':G) (h0:az K H ι g) (h1:bR K H ι σd σ) (h2:f σd g=some (d,g')) (h3:fY K H ι d g' Q):tD K f σ H Q
inductive i9 (K:KW)(f:FA)(σ:L2.St)(H:Hp)(Q:(List V->Hp->Prop)):Prop
 |mk (ι:Ix) (σd:Sg) (g:G) (d:List D) (g':G) (h0:az K H ι g) (h1:bR K H ι σd σ) (h2:f σd g=some (d,g')) (h3:O8 K H ι d g' Q):i9 K f σ H Q
inductive kM (K:KW)(f:FT)(σ:L2.St)(H:Hp)(Q:(Bool->Hp->Prop)):Prop
 |mk (ι:Ix) (σd:Sg) (g:G) (b:Bool) (g':G) (h0:az K H ι g) (h1:bR K H ι σd σ) (h2:f σd g=some (b,g')) (h3:qg K H ι g' (Q b)):kM K f σ H Q
structure DE (X:Cx)(e:Expr)(f:FE):Prop where of ::
 un:PE X e (tD X.kw f)
structure DA (X:Cx)(es:List Expr)(f:FA):Prop where of ::
 un:PA X es (i9 X.kw f)
structure DT (X:Cx)(e:Expr)(f:FT):Prop where of ::
 un:PT X e (kM X.kw f)
structure DW (X:Cx)(e:Expr)(f:FT):Prop where of ::
 un:PW X e (kM X.kw f)
theorem PE.imp {X:Cx}{e:Expr}{t t':TE}(h:PE X e t)(i:∀σ H Q,t' σ H Q->t σ H Q):PE X e t':=λpins s σ H Q I q=>h pins s σ H Q I (i σ H Q q)
theorem PT.imp {X:Cx}{e:Expr}{t t':TT}(h:PT X e t)(i:∀σ H Q,t' σ H Q->t σ H Q):PT X e t':=λpins s σ H Q I q=>h pins s σ H Q I (i σ H Q q)
theorem PW.imp {X:Cx}{e:Expr}{t t':TT}(h:PW X e t)(i:∀σ H Q,t' σ H Q->t σ H Q):PW X e t':=λw pins s σ H Q I q=>h w pins s σ H Q I (i σ H Q q)
theorem PA.imp {X:Cx}{e:List Expr}{t t':TA}(h:PA X e t)(i:∀σ H Q,t' σ H Q->t σ H Q):PA X e t':=λpos pins s σ H Q I q=>h pos pins s σ H Q I (i σ H Q q)
theorem fY.mono {K H ι H1 ι1 d g' Q}(e:Ext H ι H1 ι1)(p:fY K H ι d g' Q):fY K H1 ι1 d g' Q:=λb a v c r q=>p b a v (e.trans c) r q
theorem qg.mono {K H ι H1 ι1 g' Q}(e:Ext H ι H1 ι1)(p:qg K H ι g' Q):qg K H1 ι1 g' Q:=λc a b r=>p c a (e.trans b) r
theorem tD.bind {K f}{σ:L2.St}{H:Hp}{Q:VK}{ι σd g d g'}(G0:az K H ι g)(S0:bR K H ι σd σ)(h:f σd g=some (d,g'))
  (k:∀H1 ι1 v,Ext H ι H1 ι1->az K H1 ι1 g'->bR K H1 ι1 σd σ->Rel K H1 ι1 d v->Q v H1):tD K f σ H Q :=
 ⟨ι,σd,g,d,g',G0,S0,h,λb a v e r q=>k b a v e r (S0.ext e) q⟩
theorem i9.bind {K f}{σ:L2.St}{H:Hp}{Q:List V->Hp->Prop}{ι σd g d g'}(G0:az K H ι g)(S0:bR K H ι σd σ)(h:f σd g=some (d,g'))
  (k:∀H1 ι1 v,Ext H ι H1 ι1->az K H1 ι1 g'->bR K H1 ι1 σd σ->aj K H1 ι1 d v->Q v H1):i9 K f σ H Q :=
 ⟨ι,σd,g,d,g',G0,S0,h,λb a v e r q=>k b a v e r (S0.ext e) q⟩
theorem kM.bind {K f}{σ:L2.St}{H:Hp}{Q:Bool->Hp->Prop}{ι σd g d g'}(G0:az K H ι g)(S0:bR K H ι σd σ)(h:f σd g=some (d,g'))
  (k:∀H1 ι1,Ext H ι H1 ι1->az K H1 ι1 g'->bR K H1 ι1 σd σ->Q d H1):kM K f σ H Q :=
 ⟨ι,σd,g,d,g',G0,S0,h,λb a e r=>k b a e r (S0.ext e)⟩
section
variable {X:Cx}{a b c e:Expr}{es rest:List Expr}{pos:Pos}{fa fb fc:FE}{fr:FA}{ga gb:FT}
noncomputable def fC (d:D):FE:=λ_ g=>some (d,g)
noncomputable def ab (i:Nat):FE:=λσ g=>match σ[i]? with|some (some d)=>some (d,g)|_=>none
theorem Ld {i j pos}:DE X (.Constant (.int i) j pos) (fC (.int i)):=.of (PE.imp J9 λσ H Q h=>by
 obtain⟨ι,a,g,d,c,G0,b,h,p⟩:=h
 cases h;exact p H ι _ Ext.refl G0 (by simp[Rel]))
theorem Le {i j pos}:DE X (.Constant (.str i) j pos) (fC (.str i)):=.of (PE.imp Ka λσ H Q h=>by
 obtain⟨ι,a,g,d,c,G0,b,h,p⟩:=h
 cases h;exact p H ι _ Ext.refl G0 (by simp[Rel]))
theorem O9 {i j pos}:DE X (.Constant (.bool i) j pos) (fC (.bl i)):=.of (PE.imp OJ λσ H Q h=>by
 obtain⟨ι,a,g,d,c,G0,b,h,p⟩:=h
 cases h;exact p H ι _ Ext.refl G0 (by simp[Rel]))
theorem Lf {j pos}:DE X (.Constant .none j pos) (fC .aq):=.of (PE.imp J_ λσ H Q h=>by
 obtain⟨ι,a,g,d,c,G0,b,h,p⟩:=h
 cases h;exact p H ι _ Ext.refl G0 (by simp[Rel]))
theorem Lg (i:Nat){x:Str}{pos:Pos}(hN:X.N[i]? = some x:=by rfl)(hv:AJ X.env.scope x:=by first|exact Or.inl rfl|exact Or.inr (Or.inl rfl)|exact Or.inr (Or.inr rfl))(hd:(x == ("__debug__":Str))=false:=by decide)
   (oI:(x == ("__classdict__":Str))=false:=by decide):DE X (.Name x pos) (ab i):=.of (PE.imp (J8 hN hv hd oI) λσ H Q h=>by
 obtain⟨ι,j,g,d,g',G0,a,h,p⟩:=h
 unfold ab at h
 split at h
 . rename_i f e
   obtain⟨rfl,rfl⟩:f=d/\g=g':=by cases h;exact⟨rfl,rfl⟩
   obtain⟨v,b,c⟩:=a.2 i _ e
   exact⟨v,b,p H ι v Ext.refl G0 c⟩
 . cases h)
theorem Ic {x:Str}{v:V}{u:Value}{d:D}(hg:Gl X x)(hm:X.mg x=some u)(r:RelV v u)(rd:∀K H ι,Rel K H ι d v)(hd:(x == ("__debug__":Str))=false:=by decide):DE X (.Name x pos) (fC d):=.of (
 PE.imp (rG hg hm r hd) λσ H Q h=>by
  obtain⟨ι,a,g,d,c,G0,b,h,p⟩:=h
  cases h;exact p H ι _ Ext.refl G0 (rd _ _ _))
inductive dz (K:KW)(o:D->D->G->Option (D×G))(x:V)(y:V)(H:Hp)(Q:VK):Prop
 |mk (ι:Ix) (g:G) (d1:D) (d2:D) (d:D) (g':G) (h0:az K H ι g) (h1:Rel K H ι d1 x) (h2:Rel K H ι d2 y) (h3:o d1 d2 g=some (d,g')) (h4:fY K H ι d g' Q):dz K o x y H Q
inductive Lh (K:KW)(o:D->G->Option (D×G))(x:V)(H:Hp)(Q:VK):Prop
 |mk (ι:Ix) (g:G) (d1:D) (d:D) (g':G) (h0:az K H ι g) (h1:Rel K H ι d1 x) (h2:o d1 g=some (d,g')) (h3:fY K H ι d g' Q):Lh K o x H Q
inductive gC (K:KW)(o:List D->G->Option (D×G))(xs:List V)(H:Hp)(Q:VK):Prop
 |mk (ι:Ix) (g:G) (ds:List D) (d:D) (g':G) (h0:az K H ι g) (h1:aj K H ι ds xs) (h2:o ds g=some (d,g')) (h3:fY K H ι d g' Q):gC K o xs H Q
noncomputable def ag (o:D->D->G->Option (D×G))(fa fb:FE):FE:=λσ g=>(fa σ g).bind λr=>(fb σ r.2).bind λq=>o r.1 q.1 q.2
noncomputable def Gf (o:D->G->Option (D×G))(fa:FE):FE:=λσ g=>(fa σ g).bind λr=>o r.1 r.2
theorem bind_some {α β:Type}{x:Option α}{f:α->Option β}{b:β}(h:x.bind f=some b):∃a,x=some a/\f a=some b:=by
 cases x with
 |none=>cases h
 |some a=>exact⟨a,rfl,h⟩
theorem qh {K}{o:D->D->G->Option (D×G)}{σ:L2.St}{H:Hp}{Q:VK}(h:tD K (ag o fa fb) σ H Q):AY (dz K o) (tD K fa) (tD K fb) σ H Q:=by
 obtain⟨ι,s,g,d,l,G0,k,h,p⟩:=h
 obtain⟨⟨m,g1⟩,q,h⟩:=bind_some h
 obtain⟨⟨j,g2⟩,c,h⟩:=bind_some h
 refine tD.bind G0 k q λH1 x v b e S1 f=>?_
 refine tD.bind e S1 c λy n u a r z i=>?_
 exact⟨n,g2,m,j,d,l,r,Rel.ext a _ f,i,h,p.mono (b.trans a)⟩
theorem ke {op:aco}{o:D->D->G->Option (D×G)}(ho:bO X (aaz op) (dz X.kw o))(ha:DE X a fa)(hb:DE X b fb):DE X (.BinOp a op b pos) (ag o fa fb):=.of (
 PE.imp (OU ho ha.un hb.un) λσ H Q h=>qh h)
theorem Li {op:CmpOp}{o:D->D->G->Option (D×G)}(ho:bO X (aam op) (dz X.kw o))(ha:DE X a fa)(hb:DE X b fb)(hm:acM op b=false:=by first|exact Lj _|with_unfolding_all rfl):DE X (.Compare a [op] [b] pos) (ag o fa fb):=.of (
 PE.imp (HN ho ha.un hb.un hm) λσ H Q h=>qh h)
theorem O_ {op:UnaryOp}{o:D->G->Option (D×G)}(ho:AX X (unaryOp op) (Lh X.kw o))(ha:DE X a fa):DE X (.UnaryOp op a pos) (Gf o fa):=.of (
 PE.imp (OW ho ha.un) λσ H Q h=>by
  obtain⟨ι,m,g,d,j,G0,i,h,p⟩:=h
  obtain⟨⟨k,g1⟩,l,h⟩:=bind_some h
  refine tD.bind G0 i l λH1 f v b c S1 e=>?_
  exact⟨f,g1,k,d,j,c,e,h,p.mono b⟩)
noncomputable def gR (r:Option (D×G)):Option (Bool×G):=r.bind λr=>match r.1 with|.bl b=>some (b,r.2)|_=>none
theorem uX {r:Option (D×G)}{b:Bool}{g:G}(h:gR r=some (b,g)):r=some (.bl b,g):=by
 obtain⟨⟨d,g1⟩,a,h⟩:=bind_some h
 cases d with
 |bl k=>cases h;exact a
 |_=>cases h
noncomputable def ay (f:FE):FT:=λσ g=>gR (f σ g)
theorem DU {K f}{σ:L2.St}{H:Hp}{Q:Bool->Hp->Prop}(h:kM K (ay f) σ H Q):t8 (tD K f) σ H Q:=by
 obtain⟨ι,m,g,b,n,G0,j,h,p⟩:=h
 obtain⟨⟨d,g1⟩,l,h⟩:=bind_some h
 cases d with
 |bl k =>
  cases h
  exact tD.bind G0 j l λH1 i v a c S1 e=>⟨b,by simpa[Rel]using e,p H1 i a c⟩
 |_=>cases h
theorem zy {t t':TE}(i:∀σ H Q,t' σ H Q->t σ H Q){σ:L2.St}{H:Hp}{Q:Bool->Hp->Prop}(h:t8 t' σ H Q):t8 t σ H Q:=i σ H _ h
theorem Lk {op:CmpOp}{o:D->D->G->Option (D×G)}(ho:bO X (aam op) (dz X.kw o))(ha:DE X a fa)(hb:DE X b fb)(hm:acM op b=false:=by first|exact Lj _|with_unfolding_all rfl):DT X (.Compare a [op] [b] pos) (ay (ag o fa fb)):=.of (
 PT.imp (HP ho ha.un hb.un hm) λσ H Q h=>zy (λ_ _ _=>qh) (DU h))
noncomputable def kz (d:D)(g:G):Option Bool:=match d with
 |.aq=>some false
 |.bl b=>some b
 |.int i=>some (i != 0)
 |.tup xs=>some (!xs.isEmpty)
 |.lst xs=>some (!xs.isEmpty)
 |.de=>some false
 |.ref n=>match g[n]? with|some xs=>some (!xs.isEmpty)|none=>none
 |.str _=>none
 |.ax _=>none
 |.fn _=>none
noncomputable def uY (f:FE):FT:=λσ g=>(f σ g).bind λr=>(kz r.1 r.2).map λb=>(b,r.2)
theorem aj.isEmpty {K H ι}{ds:List D}{vs:List V}(h:aj K H ι ds vs):ds.isEmpty=vs.isEmpty:=by
 have:=h.length
 cases ds<;>cases vs<;>simp_all
theorem Ie {K H ι g d v b}(G0:az K H ι g)(r:Rel K H ι d v)(h:kz d g=some b):DD K v H b:=by
 cases d with
 |aq=>simp only[Rel]at r;subst r;cases h;rfl
 |bl x=>simp only[Rel]at r;subst r;cases h;rfl
 |int x=>simp only[Rel]at r;subst r;cases h;rfl
 |str x=>cases h
 |tup xs =>
  simp only[Rel]at r;obtain⟨a,c,rfl,f,i⟩:=r;cases h
  exact .inr (.inl ⟨c,f.sq,by rw[i.isEmpty]⟩)
 |lst xs =>
  simp only[Rel]at r;obtain⟨a,c,rfl,f,i⟩:=r;cases h
  exact .inl ⟨c,f.sq,by rw[i.isEmpty]⟩
 |de =>
  simp only[Rel]at r;obtain⟨a,rfl,f,_⟩:=r;cases h
  exact .inr (.inr ⟨[],f,rfl⟩)
 |ref n =>
  simp only[Rel]at r;obtain⟨a,rfl,k⟩:=r
  simp only[kz]at h
  split at h
  . rename_i xs e
    cases h
    obtain⟨c,j,l⟩:=G0.at e k
    exact .inl ⟨c,.of j,by rw[l.isEmpty]⟩
  . cases h
 |ax n=>cases h
 |fn x=>cases h
theorem Ll (ha:DE X a fa)(he:∀whole,isTrue a X.env whole=(do let v <- whole;aet a.pos;abA [v] (truthy v)):=by intro _;rfl):DT X a (uY fa):=.of (
 PT.imp (DF ha.un he) λσ H Q h=>by
  obtain⟨ι,m,g,b,n,G0,j,h,p⟩:=h
  obtain⟨⟨d,g1⟩,l,h⟩:=bind_some h
  cases ht:kz d g1 with
  |none=>rw[ht]at h;cases h
  |some k =>
   rw[ht]at h;cases h
   exact tD.bind G0 j l λH1 i v e c S1 f=>⟨b,Ie c f ht,p H1 i e c⟩)
noncomputable def il (ga gb:FT):FT:=λσ g=>(ga σ g).bind λr=>if r.1=true then gb σ r.2 else some (false,r.2)
noncomputable def uZ (ga gb:FT):FT:=λσ g=>(ga σ g).bind λr=>if r.1=true then some (true,r.2)else gb σ r.2
noncomputable def u5 (ga:FT):FT:=λσ g=>(ga σ g).bind λr=>some (!r.1,r.2)
theorem Ig (ha:DT X a ga):DW X (.BoolOp .And [a] pos) ga:=.of (HC ha.un)
theorem Lm (ha:DT X a ga):DW X (.BoolOp .Or [a] pos) ga:=.of (Kb ha.un)
theorem Ln (ha:DT X a ga)(hb:DW X (.BoolOp .And (b::rest) pos) gb):DW X (.BoolOp .And (a::b::rest) pos) (il ga gb):=.of (
 PW.imp (Kc ha.un hb.un) λσ H Q h=>by
  obtain⟨ι,i,g,k,l,G0,j,h,p⟩:=h
  obtain⟨⟨n,g1⟩,m,h⟩:=bind_some h
  refine kM.bind G0 j m λH1 f c e S1=>?_
  cases n with
  |true=>simp only[if_true]at h ⊢;exact⟨f,i,g1,k,l,e,S1,h,p.mono c⟩
  |false=>simp only[Z1,if_false]at h ⊢;cases h;exact p H1 f c e)
theorem Pa (ha:DT X a ga)(hb:DW X (.BoolOp .Or (b::rest) pos) gb):DW X (.BoolOp .Or (a::b::rest) pos) (uZ ga gb):=.of (
 PW.imp (OK ha.un hb.un) λσ H Q h=>by
  obtain⟨ι,i,g,k,l,G0,j,h,p⟩:=h
  obtain⟨⟨n,g1⟩,m,h⟩:=bind_some h
  refine kM.bind G0 j m λH1 f c e S1=>?_
  cases n with
  |false=>simp only[Z1,if_false]at h ⊢;exact⟨f,i,g1,k,l,e,S1,h,p.mono c⟩
  |true=>simp only[if_true]at h ⊢;cases h;exact p H1 f c e)
theorem DW.dt (h:DW X a ga):DT X a ga:=.of (PW.pt h.un)
theorem Lo (ha:DT X a ga):DT X (.UnaryOp .Not a pos) (u5 ga):=.of (
 PT.imp (Kd ha.un) λσ H Q h=>by
  obtain⟨ι,j,g,k,l,G0,f,h,p⟩:=h
  obtain⟨⟨m,g1⟩,i,h⟩:=bind_some h
  cases h
  exact kM.bind G0 f i λH1 e b c S1=>p H1 e b c)
noncomputable def zA (fa fb:FE):FE:=λσ g=>(gR (fa σ g)).bind λr=>if r.1=true then fb σ r.2 else some (.bl false,r.2)
noncomputable def DV (fa fb:FE):FE:=λσ g=>(gR (fa σ g)).bind λr=>if r.1=true then some (.bl true,r.2)else fb σ r.2
theorem Lp {op}(h:DE X a fa):DE X (.BoolOp op [a] pos) fa:=.of (Ke h.un)
theorem Bc (ha:DE X a fa)(hb:DE X (.BoolOp .And (b::rest) pos) fb):DE X (.BoolOp .And (a::b::rest) pos) (zA fa fb):=.of (
 PE.imp (Kf ha.un hb.un) λσ H Q h=>by
  obtain⟨ι,k,g,d,n,G0,m,h,p⟩:=h
  obtain⟨⟨j,g1⟩,c,h⟩:=bind_some h
  have c:=uX c
  refine tD.bind G0 m c λH1 i v e f S1 l=>⟨j,by simpa[Rel]using l,?_⟩
  cases j with
  |true=>simp only[if_true]at h ⊢;exact⟨i,k,g1,d,n,f,S1,h,p.mono e⟩
  |false=>simp only[Z1,if_false]at h ⊢;cases h;exact p H1 i _ e f (by simp[Rel]))
theorem Gg (ha:DE X a fa)(hb:DE X (.BoolOp .Or (b::rest) pos) fb):DE X (.BoolOp .Or (a::b::rest) pos) (DV fa fb):=.of (
 PE.imp (OM ha.un hb.un) λσ H Q h=>by
  obtain⟨ι,k,g,d,n,G0,m,h,p⟩:=h
  obtain⟨⟨j,g1⟩,c,h⟩:=bind_some h
  have c:=uX c
  refine tD.bind G0 m c λH1 i v e f S1 l=>⟨j,by simpa[Rel]using l,?_⟩
  cases j with
  |false=>simp only[Z1,if_false]at h ⊢;exact⟨i,k,g1,d,n,f,S1,h,p.mono e⟩
  |true=>simp only[if_true]at h ⊢;cases h;exact p H1 i _ e f (by simp[Rel]))
noncomputable def iY (ga:FT)(fa fb:FE):FE:=λσ g=>(ga σ g).bind λr=>if r.1=true then fa σ r.2 else fb σ r.2
theorem Lq (hc:DT X c ga)(ha:DE X a fa)(hb:DE X b fb):DE X (.IfExp c a b pos) (iY ga fa fb):=.of (
 PE.imp (Ds hc.un ha.un hb.un) λσ H Q h=>by
  obtain⟨ι,f,g,d,k,G0,l,h,p⟩:=h
  obtain⟨⟨n,g1⟩,m,h⟩:=bind_some h
  refine kM.bind G0 l m λH1 j e i S1=>?_
  cases n with
  |true=>simp only[if_true]at h ⊢;exact⟨j,f,g1,d,k,i,S1,h,p.mono e⟩
  |false=>simp only[Z1,if_false]at h ⊢;exact⟨j,f,g1,d,k,i,S1,h,p.mono e⟩)
noncomputable def af:FA:=λ_ g=>some ([],g)
noncomputable def aa (fa:FE)(fr:FA):FA:=λσ g=>(fa σ g).bind λr=>(fr σ r.2).bind λq=>some (r.1::q.1,q.2)
theorem Be:DA X [] af:=.of (PA.imp qa λσ H Q h=>by
 obtain⟨ι,a,g,d,c,G0,b,h,p⟩:=h
 cases h;exact p H ι _ Ext.refl G0 (by simp[aj]))
theorem rL (ha:DE X e fa)(hr:DA X es fr)(hs:ZU (e::es) X.env=(false,eval e X.env)::ZU es X.env:=by rfl):DA X (e::es) (aa fa fr):=.of (
 PA.imp (kJ ha.un hr.un hs) λσ H Q h=>by
  obtain⟨ι,q,g,d,x,G0,k,h,p⟩:=h
  obtain⟨⟨y,g1⟩,n,h⟩:=bind_some h
  obtain⟨⟨r,g2⟩,c,h⟩:=bind_some h
  cases h
  refine tD.bind G0 k n λH1 s v b f S1 i=>?_
  refine i9.bind f S1 c λl m u a o z j=>?_
  refine p l m _ (b.trans a) o ?_
  simp only[aj]
  exact⟨_,_,rfl,Rel.ext a _ i,j⟩)
noncomputable def aD (n:Nat):Bool:=decide (n<=16777216)
theorem aD.le {n:Nat}(h:aD n=true):n<=ZQ:=by rw[aaP];exact of_decide_eq_true h
noncomputable def aA (ds:List D)(g:G):Option (D×G):=if aD ds.length=true then some (.tup ds,g)else none
noncomputable def cx (ds:List D)(g:G):Option (D×G):=if aD ds.length=true then some (.lst ds,g)else none
noncomputable def mkRef (ds:List D)(g:G):Option (D×G):=if aD ds.length=true then some (.ref g.length,g ++ [ds])else none
theorem DX {K H ι g ds vs d g' Q}(G0:az K H ι g)(r:aj K H ι ds vs)(h:aA ds g=some (d,g'))(p:fY K H ι d g' Q):vs.length<=ZQ /\ ∀q,H q=none->Q (.ref q) (upd H q (.tup vs)):=by
 unfold aA at h
 split at h
 . rename_i z
   cases h
   refine⟨by rw[<- r.length];exact aD.le z,λq a=>p _ _ _ (Ext.lay a) (G0.lay a) ?_⟩
   simp only[Rel]
   exact⟨q,vs,rfl,.inl ⟨.inl bG,G0.fresh a⟩,aj.ext (Ext.lay a) _ r⟩
 . cases h
theorem DY {K H ι g ds vs d g' Q}(G0:az K H ι g)(r:aj K H ι ds vs)(h:cx ds g=some (d,g'))(p:fY K H ι d g' Q):vs.length<=ZQ /\ ∀q,H q=none->Q (.ref q) (upd H q (.lst vs)):=by
 unfold cx at h
 split at h
 . rename_i z
   cases h
   refine⟨by rw[<- r.length];exact aD.le z,λq a=>p _ _ _ (Ext.lay a) (G0.lay a) ?_⟩
   simp only[Rel]
   exact⟨q,vs,rfl,.inl ⟨.inl bG,G0.fresh a,G0.kL a⟩,aj.ext (Ext.lay a) _ r⟩
 . cases h
theorem DZ {K H ι g ds vs d g' Q}(G0:az K H ι g)(r:aj K H ι ds vs)(h:mkRef ds g=some (d,g'))(p:fY K H ι d g' Q):vs.length<=ZQ /\ ∀q,H q=none->Q (.ref q) (upd H q (.lst vs)):=by
 unfold mkRef at h
 split at h
 . rename_i z
   cases h
   refine⟨by rw[<- r.length];exact aD.le z,λq a=>p _ _ _ (Ext.push a) (G0.push a r) ?_⟩
   simp only[Rel]
   exact⟨q,rfl,cR.new G0.len⟩
 . cases h
noncomputable def aI (m:List D->G->Option (D×G))(fr:FA):FE:=λσ g=>(fr σ g).bind λr=>m r.1 r.2
theorem Bf {x1}(h:DA X es fr):DE X (.Tuple es x1 pos) (aI aA fr):=.of (PE.imp (KN h.un) λσ H Q h=>by
 obtain⟨ι,i,g,d,k,G0,e,h,p⟩:=h
 obtain⟨⟨l,g1⟩,f,h⟩:=bind_some h
 exact i9.bind G0 e f λH1 j v a b S1 c=>DX b c h (p.mono a))
theorem Bg (h:DA X es fr):DE X (.List es pos) (aI cx fr):=.of (PE.imp (A2 h.un) λσ H Q h=>by
 obtain⟨ι,i,g,d,k,G0,e,h,p⟩:=h
 obtain⟨⟨l,g1⟩,f,h⟩:=bind_some h
 exact i9.bind G0 e f λH1 j v a b S1 c=>DY b c h (p.mono a))
theorem u6 (h:DA X es fr):DE X (.List es pos) (aI mkRef fr):=.of (PE.imp (A2 h.un) λσ H Q h=>by
 obtain⟨ι,i,g,d,k,G0,e,h,p⟩:=h
 obtain⟨⟨l,g1⟩,f,h⟩:=bind_some h
 exact i9.bind G0 e f λH1 j v a b S1 c=>DZ b c h (p.mono a))
end
inductive F where
 |nx|rt (d:D)|bk|ct
abbrev FS:=Sg->G->Option (F×Sg×G)
noncomputable def ub (K:KW)(H:Hp)(ι:Ix)(r:F)(b7:Sg)(g':G)(Dn:Ends):Prop :=
 ∀H' ι',Ext H ι H' ι'->az K H' ι' g'->match r with
  |.nx=>∀σ',bR K H' ι' b7 σ'->Dn.nx σ' H'
  |.bk=>∀σ',bR K H' ι' b7 σ'->Dn.bk σ' H'
  |.ct=>∀σ',bR K H' ι' b7 σ'->Dn.ct σ' H'
  |.rt d=>∀v,Rel K H' ι' d v->Dn.rt v H'
inductive Gh (K:KW)(f:FS)(Dn:Ends)(σ:L2.St)(H:Hp):Prop
 |mk (ι:Ix) (σd:Sg) (g:G) (r:F) (b7:Sg) (g':G) (h0:az K H ι g) (h1:bR K H ι σd σ) (h2:f σd g=some (r,b7,g')) (h3:ub K H ι r b7 g' Dn):Gh K f Dn σ H
structure DS (X:Cx)(st:Stmt)(f:FS):Prop where of ::
 un:PS X st (Gh X.kw f)
structure kN (X:Cx)(gD:List Stmt)(f:FS):Prop where of ::
 un:gO X gD (Gh X.kw f)
theorem PS.imp {X:Cx}{e:Stmt}{t t':TS}(h:PS X e t)(i:∀Dn σ H,t' Dn σ H->t Dn σ H):PS X e t':=λpins s σ H Q I q=>h pins s σ H Q I (i Q σ H q)
theorem gO.imp {X:Cx}{e:List Stmt}{t t':TS}(h:gO X e t)(i:∀Dn σ H,t' Dn σ H->t Dn σ H):gO X e t':=λpins s σ H Q I q=>h pins s σ H Q I (i Q σ H q)
theorem ub.mono {K H ι H1 ι1 r b7 g' Dn}(e:Ext H ι H1 ι1)(p:ub K H ι r b7 g' Dn):ub K H1 ι1 r b7 g' Dn:=λf a c b=>p f a (e.trans c) b
noncomputable def aO:FS:=λσ g=>some (.nx,σ,g)
noncomputable def aw (f1 f2:FS):FS:=λσ g=>(f1 σ g).bind λr=>match r.1 with|.nx=>f2 r.2.1 r.2.2|_=>some r
noncomputable def aF (f:FE):FS:=λσ g=>(f σ g).bind λr=>some (.rt r.1,σ,r.2)
noncomputable def uc:FS:=λσ g=>some (.rt .aq,σ,g)
noncomputable def fG (f:FE):FS:=λσ g=>(f σ g).bind λr=>some (.nx,σ,r.2)
noncomputable def bu (c:FT)(f1 f2:FS):FS:=λσ g=>(c σ g).bind λr=>if r.1=true then f1 σ r.2 else f2 σ r.2
section
variable {X:Cx}{st:Stmt}{rest:List Stmt}{f1 f2:FS}{e:Expr}{fe:FE}{pos:Pos}{gc:FT}
theorem Ii:kN X [] aO:=.of (gO.imp HD λc σ H h=>by
 obtain⟨ι,b,g,r,e,f,G0,a,h,p⟩:=h
 cases h
 exact p H ι Ext.refl G0 σ a)
theorem D0 (h1:DS X st f1)(h2:kN X rest f2):kN X (st::rest) (aw f1 f2):=.of (gO.imp (Dt h1.un h2.un) λm σ H h=>by
 obtain⟨ι,i,g,r,j,l,G0,k,h,p⟩:=h
 obtain⟨⟨e,f,g1⟩,h1,h⟩:=bind_some h
 refine⟨ι,i,g,e,f,g1,G0,k,h1,λH1 c a b=>?_⟩
 cases e with
 |nx=>exact λn S1=>⟨c,f,g1,r,j,l,b,S1,h,p.mono a⟩
 |bk=>cases h;exact p H1 c a b
 |ct=>cases h;exact p H1 c a b
 |rt d=>cases h;exact p H1 c a b)
theorem Ik (h1:DS X st f1):kN X [st] f1:=.of (HE h1.un)
theorem Il:DS X (.Pass pos) aO:=.of (PS.imp HF λc σ H h=>by
 obtain⟨ι,b,g,r,e,f,G0,a,h,p⟩:=h
 cases h
 exact p H ι Ext.refl G0 σ a)
theorem Lr (he:DE X e fe):DS X (.Return (some e) pos) (aF fe):=.of (PS.imp (Kh he.un) λo σ H h=>by
 obtain⟨ι,k,g,r,l,m,G0,i,h,p⟩:=h
 obtain⟨⟨n,g1⟩,j,h⟩:=bind_some h
 cases h
 exact tD.bind G0 i j λH1 f v a b S1 c=>p H1 f a b v c)
theorem Im:DS X (.Return none pos) uc:=.of (PS.imp HH λc σ H h=>by
 obtain⟨ι,a,g,r,e,f,G0,b,h,p⟩:=h
 cases h
 exact p H ι Ext.refl G0 _ (by simp[Rel]))
theorem Io (he:DE X e fe)(hs:ab0 e none pos.line X.env=pure false:=by rfl):DS X (.Expr e pos) (fG fe):=.of (PS.imp (HG he.un hs) λo σ H h=>by
 obtain⟨ι,j,g,r,k,m,G0,f,h,p⟩:=h
 obtain⟨⟨n,g1⟩,i,h⟩:=bind_some h
 cases h
 exact tD.bind G0 f i λH1 c v a b S1 l=>p H1 c a b σ S1)
theorem Ls {x j pos pos'}:DS X (.Expr (.Constant (.str x) j pos) pos') aO:=.of (PS.imp Kg λc σ H h=>by
 obtain⟨ι,b,g,r,e,f,G0,a,h,p⟩:=h
 cases h
 exact p H ι Ext.refl G0 σ a)
theorem Pb {c:Expr}{a b:List Stmt}(hc:DT X c gc)(ha:kN X a f1)(hb:kN X b f2):DS X (.If c a b pos) (bu gc f1 f2):=.of (PS.imp (OP hc.un ha.un hb.un) λq σ H h=>by
 obtain⟨ι,f,g,r,i,m,G0,n,h,p⟩:=h
 obtain⟨⟨k,g1⟩,o,h⟩:=bind_some h
 refine kM.bind G0 n o λH1 l e j S1=>?_
 cases k with
 |true=>simp only[if_true]at h ⊢;exact⟨l,f,g1,r,i,m,j,S1,h,p.mono e⟩
 |false=>simp only[Z1,if_false]at h ⊢;exact⟨l,f,g1,r,i,m,j,S1,h,p.mono e⟩)
abbrev FG:=D->Sg->G->Option (Sg×G)
abbrev oS:=List D->Sg->G->Option (Sg×G)
inductive Lu (K:KW)(f:FG)(v:V)(σ:L2.St)(H:Hp)(Q:(L2.St->Hp->Prop)):Prop
 |mk (ι:Ix) (σd:Sg) (g:G) (d:D) (b7:Sg) (g':G) (h0:az K H ι g) (h1:bR K H ι σd σ) (h2:Rel K H ι d v) (h3:f d σd g=some (b7,g')) (h4:∀H' ι' σ',Ext H ι H' ι'->az K H' ι' g'->bR K H' ι' b7 σ'->Q σ' H'):Lu K f v σ H Q
inductive Lv (K:KW)(f:oS)(v:List V)(σ:L2.St)(H:Hp)(Q:(L2.St->Hp->Prop)):Prop
 |mk (ι:Ix) (σd:Sg) (g:G) (d:List D) (b7:Sg) (g':G) (h0:az K H ι g) (h1:bR K H ι σd σ) (h2:aj K H ι d v) (h3:f d σd g=some (b7,g')) (h4:∀H' ι' σ',Ext H ι H' ι'->az K H' ι' g'->bR K H' ι' b7 σ'->Q σ' H'):Lv K f v σ H Q
structure DG (X:Cx)(tg:Expr)(f:FG):Prop where of ::
 un:PG X tg (Lu X.kw f)
structure Bh (X:Cx)(tg:List Expr)(f:oS):Prop where of ::
 un:oJ X tg (Lv X.kw f)
theorem PG.imp {X:Cx}{e:Expr}{t t':TG}(h:PG X e t)(i:∀v σ H Q,t' v σ H Q->t v σ H Q):PG X e t':=λpins s σ H v u Q I r q=>h pins s σ H v u Q I r (i v σ H Q q)
theorem oJ.imp {X:Cx}{e:List Expr}{t t':sD}(h:oJ X e t)(i:∀v σ H Q,t' v σ H Q->t v σ H Q):oJ X e t':=λpins s σ H v u Q I r q=>h pins s σ H v u Q I r (i v σ H Q q)
noncomputable def gN (i:Nat):FG:=λd σ g=>some (σ.set i (some d),g)
theorem bR.set {K H ι σd σ d v}(S:bR K H ι σd σ)(r:Rel K H ι d v)(i:Nat):bR K H ι (σd.set i (some d)) (σ.set i (some v)):=by
 refine⟨by simp[S.1],λj b q=>?_⟩
 by_cases e:i=j
 . subst e
   have a:i < σd.length:=by
    by_cases a:i < σd.length
    . exact a
    . rw[adN.mpr (by simpa using a)]at q;cases q
   rw[ZL a]at q
   cases q
   exact⟨v,by rw[ZL (by rw[<- S.1];exact a)],r⟩
 . rw[ZT e]at q ⊢
   exact S.2 j b q
theorem xS {i:Nat}{x:Str}(hN:X.N.Nodup)(hi:X.N[i]? = some x)(hx:Loc X.env.scope x)(hf:X.fn x=true\/X.env.scope.names.lookup x=some .local:=by first|exact .inl rfl|exact .inr rfl|assumption):DG X (.Name x pos) (gN i):=.of (
 PG.imp (HJ hN hi hx hf) λv σ H Q h=>by
  obtain⟨ι,b,g,d,c,e,G0,a,r,h,p⟩:=h
  cases h
  exact p H ι _ Ext.refl G0 (a.set r i))
noncomputable def gk:oS:=λds σ g=>match ds with| []=>some (σ,g)|_=>none
noncomputable def b9 (t:FG)(u:oS):oS:=λds σ g=>match ds with|d::r=>(t d σ g).bind λq=>u r q.1 q.2| []=>none
theorem Ip:Bh X [] gk:=.of (oJ.imp HK λv σ H Q h=>by
 obtain⟨ι,b,g,d,c,e,G0,a,r,h,p⟩:=h
 cases d with
 |nil=>cases h;simp only[aj]at r;exact⟨r,p H ι _ Ext.refl G0 a⟩
 |cons _ _=>cases h)
theorem D1 {e:Expr}{es:List Expr}{t:FG}{u:oS}(h1:DG X e t)(h2:Bh X es u)
  (hs:(aaO (e::es) X.env).map (·.2)=ab9 e X.env::(aaO es X.env).map (·.2):=by rfl):Bh X (e::es) (b9 t u):=.of (oJ.imp (Dx h1.un h2.un hs) λv σ H Q h=>by
 obtain⟨ι,c,g,d,f,o,G0,l,r,h,p⟩:=h
 cases d with
 |nil=>cases h
 |cons d ds =>
  simp only[aj]at r
  obtain⟨v0,vr,rfl,q,m⟩:=r
  obtain⟨⟨b,g1⟩,h1,h⟩:=bind_some h
  exact⟨v0,vr,rfl,ι,c,g,d,b,g1,G0,l,q,h1,λH1 k σ' a j S1=>⟨k,b,g1,ds,f,o,j,S1,aj.ext a _ m,h,λn s i y x z=>p n s i (a.trans y) x z⟩⟩)
noncomputable def gT (n:Nat)(t:oS):FG:=λd σ g=>match d with|.tup xs=>if xs.length=n then t xs σ g else none|_=>none
theorem Lw {es:List Expr}{k:Nat}{t:oS}{n:Nat}(hc:X.calm=true)(h:Bh X es t)
  (hn:(aaO es X.env).length=n:=by rfl) (dA:(aaO es X.env).findIdx? (·.1)=none:=by rfl):DG X (.Tuple es k pos) (gT n t):=.of (PG.imp (Ki hc h.un hn dA) λv σ H Q h=>by
 obtain⟨ι,c,g,d,e,l,G0,i,r,h,p⟩:=h
 cases d with
 |tup xs =>
  simp only[Rel]at r
  obtain⟨a,j,rfl,f,b⟩:=r
  simp only[gT]at h
  split at h
  . rename_i z
    exact⟨a,j,rfl,f.sq,by rw[<- b.length];exact z,ι,c,g,xs,e,l,G0,i,b,h,p⟩
  . cases h
 |_=>cases h)
noncomputable def aC (f:FE)(t:FG):FS:=λσ g=>(f σ g).bind λr=>(t r.1 σ r.2).bind λq=>some (.nx,q.1,q.2)
theorem Iq {K t}{fe:FE}{Dn σ H}(h:Gh K (aC fe t) Dn σ H):Dy (tD K fe) (Lu K t) Dn σ H:=by
 obtain⟨ι,b,g,r,y,z,G0,k,h,p⟩:=h
 obtain⟨⟨n,g1⟩,q,h⟩:=bind_some h
 obtain⟨⟨m,g2⟩,c,h⟩:=bind_some h
 cases h
 exact tD.bind G0 k q λH1 j v a e S1 f=>⟨j,b,g1,n,m,g2,e,S1,f,c,λl o i u s x=>p l o (a.trans u) s i x⟩
theorem u7 {tg:Expr}{t:FG}(he:DE X e fe)(hg:DG X tg t)(hs:adE [tg] e pos.line X.env=pure false:=by rfl)(hw:acL [tg] e X.env=pure none:=by rfl)
 (h1:(aaO [tg] X.env).map (·.2)= [ab9 tg X.env]:=by rfl):DS X (.Assign [tg] e pos) (aC fe t):=.of (PS.imp (Kk he.un hg.un hs hw h1) λa σ H h=>Iq h)
theorem Bi {i:Nat}{x:Str}{pos':Pos}(hN:X.N.Nodup)(hi:X.N[i]? = some x)(hx:Loc X.env.scope x)(he:DE X e fe)(hs:ab0 e (some (.Name x pos')) pos.line X.env=pure false:=by rfl)(hf:X.fn x=true\/X.env.scope.names.lookup x=some .local:=by first|exact .inl rfl|exact .inr rfl|assumption):
  DS X (.Assign [.Name x pos'] e pos) (aC fe (gN i)):=.of (PS.imp (Kl hN hi hx he.un hs hf) λq σ H h=>by
 obtain⟨ι,l,g,r,m,n,G0,j,h,p⟩:=h
 obtain⟨⟨o,g1⟩,k,h⟩:=bind_some h
 cases h
 exact tD.bind G0 j k λH1 f v a b S1 c=>p H1 f a b _ (S1.set c i))
noncomputable def putD (o i v:D)(g:G):Option G:=match o,i with
 |.ref n,.int k=>match g[n]? with
  |some xs=>match j_ xs.length k with
   |some j=>some (g.set n (xs.set j v))
   |none=>none
  |none=>none
 |_,_=>none
end
abbrev FI:=Sg->G->Option (List D×G)
structure jH (H:Hp)(ι:Ix)(H':Hp)(ι':Ix):Prop where
 same:∀a o,H a=some o->a ∉ ι.ix->H' a=some o
 there:∀a,H a≠none->H' a≠none
 more:∃m,ι'.ix=ι.ix++m /\ ∀a∈m,H a=none
 cH:∃hs,ι'.hd=hs++ι.hd /\ ∀b∈hs,H b=none
 mh:∀i,i < ι.ix.length->ι'.kd i=ι.kd i
theorem Ext.eZ {H ι H1 ι1}(e:Ext H ι H1 ι1):jH H ι H1 ι1:=⟨e.same,e.there,e.more,⟨[],e.cH,λ_ z=>by simp at z⟩,e.mh⟩
theorem jH.old {H ι H1 ι1}(a:jH H ι H1 ι1){c:Addr}{o:HO}(h:H c=some o)(n:c ∉ ι.ix):c ∉ ι1.ix:=λz=>by
 obtain⟨e,b,f1⟩:=a.more
 rw[b]at z
 rcases ZN.mp z with z|z
 . exact n z
 . rw[f1 c z]at h;cases h
theorem jH.Lx {H ι H1 ι1}(a:jH H ι H1 ι1){c:Addr}{o:HO}(h:H c=some o)(n:c ∉ ι.hd):c ∉ ι1.hd:=λz=>by
 obtain⟨e,b,f1⟩:=a.cH
 rw[b]at z
 rcases ZN.mp z with z|z
 . rw[f1 c z]at h;cases h
 . exact n z
theorem jH.at {H ι H1 ι1}(a:jH H ι H1 ι1){i:Nat}{c:Addr}{b:Bool}(h:cR ι i c b):cR ι1 i c b:=by
 obtain⟨j,f,_⟩:=a.more
 have e:=(Zr.mp h.1).1
 refine⟨?_,by rw[a.mh i e];exact h.2⟩
 rw[f,Zx e];exact h.1
theorem mQ.eZ {K H ι H1 ι1 a xs}(e:jH H ι H1 ι1)(h:mQ K H ι a xs):mQ K H1 ι1 a xs:=by
 rcases h with⟨h|⟨o,h⟩,n,k⟩|h
 . exact .inl ⟨.inl (e.same _ _ h n),e.old h n,e.Lx h k⟩
 . exact .inl ⟨.inr ⟨o,e.same _ _ h n⟩,e.old h n,e.Lx h k⟩
 . exact .inr h
theorem mf.eZ {K H ι H1 ι1 a xs}(e:jH H ι H1 ι1)(h:mf K H ι a xs):mf K H1 ι1 a xs:=by
 rcases h with⟨h|⟨o,h⟩,n⟩|h
 . exact .inl ⟨.inl (e.same _ _ h n),e.old h n⟩
 . exact .inl ⟨.inr ⟨o,e.same _ _ h n⟩,e.old h n⟩
 . exact .inr h
mutual
theorem Rel.eZ {K H ι H1 ι1}(e:jH H ι H1 ι1):∀(d:D) {v:V},Rel K H ι d v->Rel K H1 ι1 d v
 |.aq,v,h=>by simpa[Rel]using h
 |.bl _,v,h=>by simpa[Rel]using h
 |.int _,v,h=>by simpa[Rel]using h
 |.str _,v,h=>by simpa[Rel]using h
 |.tup xs,v,h=>by
  simp only[Rel]at h ⊢
  obtain⟨a,i,c,b,f⟩:=h
  exact⟨a,i,c,b.eZ e,aj.eZ e xs f⟩
 |.lst xs,v,h=>by
  simp only[Rel]at h ⊢
  obtain⟨a,i,c,b,f⟩:=h
  exact⟨a,i,c,b.eZ e,aj.eZ e xs f⟩
 |.de,v,h=>by
  simp only[Rel]at h ⊢
  obtain⟨a,c,b,f⟩:=h
  exact⟨a,c,e.same _ _ b f,e.old b f⟩
 |.ref n,v,h=>by
  simp only[Rel]at h ⊢
  obtain⟨a,c,b⟩:=h
  exact⟨a,c,e.at b⟩
 |.ax n,v,h=>by
  simp only[Rel]at h ⊢
  obtain⟨a,c,b⟩:=h
  exact⟨a,c,e.at b⟩
 |.fn x,v,h=>by simpa[Rel]using h
theorem aj.eZ {K H ι H1 ι1}(e:jH H ι H1 ι1):∀(ds:List D) {vs:List V},aj K H ι ds vs->aj K H1 ι1 ds vs
 | [],vs,h=>by simpa[aj]using h
 |d::ds,vs,h=>by
  simp only[aj]at h ⊢
  obtain⟨v,f,a,c,b⟩:=h
  exact⟨v,f,a,Rel.eZ e d c,aj.eZ e ds b⟩
end
noncomputable def lI (K:KW)(J:It)(H:Hp)(ι:Ix)(ds:List D):Prop :=
 ∀(i:Nat) H1 ι1 g1,jH H ι H1 ι1->az K H1 ι1 g1->(ds.length<=i->J.stop i H1) /\ ∀d,ds[i]? = some d->J.go i H1 /\ ∀x H2,J.AQ i H1 x H2->Ext H1 ι1 H2 ι1/\az K H2 ι1 g1/\Rel K H2 ι1 d x
inductive Q_ (K:KW)(f:FI)(σ:L2.St)(H:Hp)(R:(It->Hp->Prop)):Prop
 |mk (ι:Ix) (σd:Sg) (g:G) (ds:List D) (g':G) (h0:az K H ι g) (h1:bR K H ι σd σ) (h2:f σd g=some (ds,g')) (h3:∀H' ι' J,Ext H ι H' ι'->az K H' ι' g'->lI K J H' ι' ds->R J H'):Q_ K f σ H R
structure DI (X:Cx)(tg iter:Expr)(f:FI):Prop where of ::
 un:PI X tg iter (Q_ X.kw f)
theorem PI.imp {X:Cx}{tg e:Expr}{t t':TI}(h:PI X tg e t)(i:∀σ H Q,t' σ H Q->t σ H Q):PI X tg e t':=λpins s σ H Q I q=>h pins s σ H Q I (i σ H Q q)
theorem lI.lst {K H ι a vs ds}(hq:mQ K H ι a vs)(hr:aj K H ι ds vs):lI K (F7 K a) H ι ds:=λi H1 j g1 b e =>
 ⟨λf=>⟨vs,(hq.eZ b).sq,by rw[<- hr.length];exact f⟩,λd hd=>by
  obtain⟨v,c,h⟩:=(aj.eZ b _ hr).get hd
  refine⟨⟨vs,v,(hq.eZ b).sq,c⟩,λx k y=>?_⟩
  obtain⟨rfl,y⟩:=y
  have:=y vs (hq.eZ b).sq
  rw[c]at this;cases this
  exact⟨Ext.refl,e,h⟩⟩
theorem lI.T6 {K H ι a vs ds}(hq:mf K H ι a vs)(hr:aj K H ι ds vs):lI K (Ks K a) H ι ds:=λi H1 j g1 b e =>
 ⟨λf=>⟨vs,(hq.eZ b).sq,by rw[<- hr.length];exact f⟩,λd hd=>by
  obtain⟨v,c,h⟩:=(aj.eZ b _ hr).get hd
  refine⟨⟨vs,v,(hq.eZ b).sq,c⟩,λx k y=>?_⟩
  obtain⟨rfl,y⟩:=y
  have:=y vs (hq.eZ b).sq
  rw[c]at this;cases this
  exact⟨Ext.refl,e,h⟩⟩
theorem lI.ic {K H ι}{lo:Int}{n:Nat}:lI K (AR lo n) H ι ((Zp n).map λ(k:Nat)=>D.int (lo+k)):=λi H1 h g1 f b =>
 ⟨λc=>(by show n<=i;simpa using c),λd hd=>by
  have a:i<n:=by
   have:=(Zr.mp hd).1
   simpa using this
  refine⟨a,λx j y=>?_⟩
  obtain⟨rfl,rfl⟩:=y
  have e:d=D.int (lo+i):=by simpa[ZG,aac a]using hd.symm
  subst e
  exact⟨Ext.refl,b,by simp[Rel]⟩⟩
section
variable {X:Cx}{tg l a b:Expr}{fe:FE}{fr:FA}{pos p:Pos}
noncomputable def ud (f:FE):FI:=λσ g=>(f σ g).bind λr=>match r.1 with|.tup xs=>some (xs,r.2)|_=>none
noncomputable def ue (f:FE):FI:=λσ g=>(f σ g).bind λr=>match r.1 with|.lst xs=>some (xs,r.2)|_=>none
theorem Ly (hl:DE X l fe):DI X tg l (ud fe):=.of (PI.imp (Kt hl.un) λσ H Q h=>by
 obtain⟨ι,q,g,ds,r,G0,k,h,p⟩:=h
 obtain⟨⟨n,g1⟩,o,h⟩:=bind_some h
 cases n with
 |tup xs =>
  cases h
  refine tD.bind G0 k o λH1 j v e f S1 c=>?_
  simp only[Rel]at c
  obtain⟨a,m,rfl,b,i⟩:=c
  exact⟨a,rfl,⟨m,b.sq⟩,p H1 j _ e f (.T6 b i)⟩
 |_=>cases h)
theorem Lz (hl:DE X l fe):DI X tg l (ue fe):=.of (PI.imp (xM hl.un) λσ H Q h=>by
 obtain⟨ι,q,g,ds,r,G0,k,h,p⟩:=h
 obtain⟨⟨n,g1⟩,o,h⟩:=bind_some h
 cases n with
 |lst xs =>
  cases h
  refine tD.bind G0 k o λH1 j v e f S1 c=>?_
  simp only[Rel]at c
  obtain⟨a,m,rfl,b,i⟩:=c
  exact⟨a,rfl,⟨m,b.sq⟩,p H1 j _ e f (.lst b i)⟩
 |_=>cases h)
noncomputable def cE (i:Int):Bool:=acy i.natAbs 4611686018427387903
theorem cE.and {i:Int}(h:cE i=true):-(2 ^ 62)<=i/\i<2 ^ 62:=by
 have:=aaK h
 omega
theorem cE.of {i:Int}(h1:-1000000<=i)(h2:i<=1000000):cE i=true:=aa4 (by omega)
noncomputable def dB (fr:FA):FI:=λσ g=>(fr σ g).bind λr=>match r.1 with| [.int j]=>if cE j=true then some ((Zp j.toNat).map λ(k:Nat)=>D.int (0+k),r.2)else none|_=>none
noncomputable def Ra (fr:FA):FI:=λσ g=>(fr σ g).bind λr=>match r.1 with| [.int i,.int j]=>if(cE i&&cE j)=true then some ((Zp (j-i).toNat).map λ(k:Nat)=>D.int (i+k),r.2)else none|_=>none
theorem Pc (hg:Gl X "range")(hm:X.mg "range" = none)(ha:DA X [a] fr)(hs:ZU [a] X.env = [(false,eval a X.env)]:=by rfl):DI X tg (.Call (.Name "range" p) [a] [] pos) (dB fr):=.of (
 PI.imp (AU hg hm ha.un hs) λσ H Q h=>by
  obtain⟨ι,l,g,ds,m,G0,i,h,p⟩:=h
  obtain⟨⟨n,g1⟩,k,h⟩:=bind_some h
  refine i9.bind G0 i k λH1 f v c e S1 b=>?_
  dsimp only at h
  split at h
  . rename_i j
    split at h
    . rename_i z
      cases h
      simp only[aj,Rel]at b
      obtain⟨_,_,rfl,rfl,rfl⟩:=b
      exact⟨j,rfl,(cE.and z).1,(cE.and z).2,p H1 f _ c e .ic⟩
    . cases h
  . cases h)
theorem Pe (hg:Gl X "range")(hm:X.mg "range" = none)(ha:DA X [a,b] fr)(hs:ZU [a,b] X.env = [(false,eval a X.env),(false,eval b X.env)]:=by rfl)(oK:ZU [b] X.env = [(false,eval b X.env)]:=by rfl):DI X tg (.Call (.Name "range" p) [a,b] [] pos) (Ra fr):=.of (
 PI.imp (AV hg hm ha.un hs oK) λσ H Q h=>by
  obtain⟨ι,n,g,ds,o,G0,l,h,p⟩:=h
  obtain⟨⟨q,g1⟩,m,h⟩:=bind_some h
  refine i9.bind G0 l m λH1 k v e f S1 c=>?_
  dsimp only at h
  split at h
  . rename_i i j
    split at h
    . rename_i z
      rw[Zv]at z
      cases h
      simp only[aj,Rel]at c
      obtain⟨_,_,rfl,rfl,_,_,rfl,rfl,rfl⟩:=c
      exact⟨i,j,rfl,⟨(cE.and z.1).1,(cE.and z.1).2,(cE.and z.2).1,(cE.and z.2).2⟩,p H1 k _ e f .ic⟩
    . cases h
  . cases h)
noncomputable def forL (t:FG)(b:FS):List D->FS
 | [],σ,g=>some (.nx,σ,g)
 |d::ds,σ,g=>(t d σ g).bind λq=>(b q.1 q.2).bind λr=>match r.1 with
  |.nx=>forL t b ds r.2.1 r.2.2
  |.ct=>forL t b ds r.2.1 r.2.2
  |.bk=>some (.nx,r.2.1,r.2.2)
  |.rt d=>some (.rt d,r.2.1,r.2.2)
noncomputable def gr (i:FI)(t:FG)(b:FS):FS:=λσ g=>(i σ g).bind λr=>forL t b r.1 σ r.2
noncomputable def kf (c:FT)(b:FS):Nat->FS
 | 0,_,_=>none
 |n+1,σ,g=>(c σ g).bind λk=>if k.1=true then(b σ k.2).bind λr=>match r.1 with
   |.nx=>kf c b n r.2.1 r.2.2
   |.ct=>kf c b n r.2.1 r.2.2
   |.bk=>some (.nx,r.2.1,r.2.2)
   |.rt d=>some (.rt d,r.2.1,r.2.2)
  else some (.nx,σ,k.2)
noncomputable def Gi (n:Nat)(c:FT)(b:FS):FS:=kf c b n
inductive LA (X:Cx)(gc:FT)(b:FS)(H:Hp)(ι:Ix)(r:F)(b7:Sg)(g':G)(m:Nat)(σ2:L2.St)(H2:Hp):Prop
 |mk (ι2:Ix) (ql:Sg) (g2:G) (e2:Ext H ι H2 ι2) (G2:az X.kw H2 ι2 g2) (S2:bR X.kw H2 ι2 ql σ2) (hf:kf gc b m ql g2=some (r,b7,g')):LA X gc b H ι r b7 g' m σ2 H2
theorem D2 {c:Expr}{body:List Stmt}{gc:FT}{b:FS}(n:Nat)(hp:adw (model X.prog X.w) X.A X.env X.xe)(hc:DT X c gc)(hb:kN X body b):DS X (.While c body [] pos) (Gi n gc b):=.of (PS.imp (Dz hp hc.un hb.un) λDn σ H h=>by
 obtain⟨ι,σd,g,r,u,g',G0,S0,h,p⟩:=h
 refine⟨LA X gc b H ι r u g',⟨n,ι,σd,g,Ext.refl,G0,S0,h⟩,?_⟩
 rintro m σ2 H2 ⟨ι2,ql,g2,e2,G2,S2,hf⟩
 cases m with
 |zero=>cases hf
 |succ m =>
  simp only[kf]at hf
  obtain⟨⟨k,g3⟩,h3,hf⟩:=bind_some hf
  refine kM.bind G2 S2 h3 λH3 ι3 e3 z x=>?_
  cases k with
  |false =>
   simp only[Z1,if_false]at hf ⊢
   cases hf
   exact p H3 ι3 (e2.trans e3) z σ2 x
  |true =>
   simp only[if_true]at hf ⊢
   obtain⟨⟨y,j,l⟩,h4,hf⟩:=bind_some hf
   refine⟨LA X gc b H ι r u g' m,λσ5 H5 q=>⟨m,ad1 _,q⟩,?_⟩
   refine⟨ι3,ql,g3,y,j,l,z,x,h4,λs e e7 i=>?_⟩
   have f:=e2.trans (e3.trans e7)
   cases y with
   |nx=>exact λo a=>⟨e,j,l,f,i,a,hf⟩
   |ct=>exact λo a=>⟨e,j,l,f,i,a,hf⟩
   |bk=>cases hf;exact λo a=>p s e f i o a
   |rt d=>cases hf;exact λv r7=>p s e f i v r7)
end
abbrev Fn:=List D->G->Option (D×G)
noncomputable def mn (K:KW)(n:Nat)(fn:Fn):Sp:=λa H Q _=>a.length=n /\ ∃ι g ds d g',az K H ι g/\aj K H ι ds a/\fn ds g=some (d,g')/\fY K H ι d g' Q
mutual
noncomputable def b5 (n:Nat):D->Bool
 |.ref k=>decide (k<n)
 |.ax k=>decide (k<n)
 |.tup xs=>aX n xs
 |.lst xs=>aX n xs
 |_=>true
noncomputable def aX (n:Nat):List D->Bool
 | []=>true
 |d::ds=>b5 n d&&aX n ds
end
noncomputable def settle (n:Nat)(d:D)(g':G):Option (D×G):=
 if g'.length=n then some (d,g')else
  if(g'.take n).all (aX n)then
   match d with
   |.ref k=>if k<n then some (d,g'.take n)else match g'[k]? with
    |some xs=>if aX n xs then some (.lst xs,g'.take n)else none
    |none=>none
   |d=>if b5 n d then some (d,g'.take n)else none
  else none
noncomputable def ao (keep:Bool)(nN nP:Nat)(b:FS):Fn:=λds g =>
 if ds.length=nP then(b (ds.map some++Zo (nN-nP) none) g).bind λr=>match r.1 with
  |.rt d=>if keep then some (d,r.2.2)else settle g.length d r.2.2
  |.nx=>if keep then some (.aq,r.2.2)else settle g.length .aq r.2.2
  |_=>none
 else none
noncomputable def Ix.cut (ι:Ix)(n:Nat):Ix:=⟨ι.ix.take n,ι.hd,ι.kd⟩
mutual
theorem Rel.cut {K H ι}(n:Nat):∀(d:D) {v:V},b5 n d=true->Rel K H ι d v->Rel K H (Ix.cut ι n) d v
 |.aq,v,_,h=>by simpa[Rel]using h
 |.bl _,v,_,h=>by simpa[Rel]using h
 |.int _,v,_,h=>by simpa[Rel]using h
 |.str _,v,_,h=>by simpa[Rel]using h
 |.tup xs,v,z,h=>by
  simp only[Rel]at h ⊢
  obtain⟨a,i,c,b,e⟩:=h
  refine⟨a,i,c,?_,aj.cut n xs z e⟩
  rcases b with⟨b,hn⟩|b
  . exact .inl ⟨b,λm=>hn (ab4 m)⟩
  . exact .inr b
 |.lst xs,v,z,h=>by
  simp only[Rel]at h ⊢
  obtain⟨a,i,c,b,e⟩:=h
  refine⟨a,i,c,?_,aj.cut n xs z e⟩
  rcases b with⟨b,hn,hh⟩|b
  . exact .inl ⟨b,λm=>hn (ab4 m),hh⟩
  . exact .inr b
 |.de,v,_,h=>by
  simp only[Rel]at h ⊢
  obtain⟨a,c,b,e⟩:=h
  exact⟨a,c,b,λm=>e (ab4 m)⟩
 |.ref k,v,z,h=>by
  simp only[Rel]at h ⊢
  obtain⟨a,c,b⟩:=h
  have f:k<n:=of_decide_eq_true z
  exact⟨a,c,by show(ι.ix.take n)[k]? = some a;rw[aan f];exact b.1,b.2⟩
 |.ax k,v,z,h=>by
  simp only[Rel]at h ⊢
  obtain⟨a,c,b⟩:=h
  have f:k<n:=of_decide_eq_true z
  exact⟨a,c,by show(ι.ix.take n)[k]? = some a;rw[aan f];exact b.1,b.2⟩
 |.fn x,v,_,h=>by simpa[Rel]using h
theorem aj.cut {K H ι}(n:Nat):∀(ds:List D) {vs:List V},aX n ds=true->aj K H ι ds vs->aj K H (Ix.cut ι n) ds vs
 | [],vs,_,h=>by simpa[aj]using h
 |d::ds,vs,z,h=>by
  simp only[aj]at h ⊢
  simp only[aX,Zv]at z
  obtain⟨v,e,a,c,b⟩:=h
  exact⟨v,e,a,Rel.cut n d z.1 c,aj.cut n ds z.2 b⟩
end
theorem az.cut {K H ι g}(n:Nat)(h:az K H ι g)(z:(g.take n).all (aX n)=true):az K H (Ix.cut ι n) (g.take n):=by
 refine⟨h.nd.sublist (afo _ _),by simp[Ix.cut,h.len],λb e=>⟨λm=>(h.cH b e).1 (ab4 m),(h.cH b e).2⟩,λi xs q=>?_⟩
 have c:i<n:=by
  have:=(Zr.mp q).1
  rw[aa2]at this;omega
 rw[aan c]at q
 obtain⟨a,o,k,f,j,l,p⟩:=h.at_ i xs q
 refine⟨a,o,k,(by show(ι.ix.take n)[i]? = some a;rw[aan c];exact f),j,l,aj.cut n xs ?_ p⟩
 exact ZY.mp z xs (ZZ (i:=i) (by rw[aan c];exact q))
theorem Ext.cut {H ι H' ι' n}(e:Ext H ι H' ι')(hn:ι.ix.length=n):Ext H ι H' (Ix.cut ι' n):=by
 obtain⟨m,a,f⟩:=e.more
 refine⟨e.same,e.there,⟨[],?_,λ_ z=>by simp at z⟩,e.cH,e.mh⟩
 subst hn
 show ι'.ix.take _=_
 rw[a];simp
theorem Bj {K H ι g H' ι' g' d Rb dd v}(G0:az K H ι g)(e:Ext H ι H' ι')(G1:az K H' ι' g')(r:Rel K H' ι' d v)(h:settle g.length d g'=some (dd,Rb)):
   ∃kO,Ext H ι H' kO/\az K H' kO Rb/\Rel K H' kO dd v:=by
 unfold settle at h
 split at h
 . cases h;exact⟨ι',e,G1,r⟩
 split at h
 . rename_i z
   refine⟨Ix.cut ι' g.length,e.cut G0.len,?_⟩
   have Gc:=G1.cut g.length z
   split at h
   . rename_i k
     split at h
     . rename_i f
       cases h
       exact⟨Gc,Rel.cut _ _ (decide_eq_true f) r⟩
     . rename_i f
       split at h
       . rename_i xs n
         split at h
         . rename_i c
           cases h
           refine⟨Gc,?_⟩
           simp only[Rel]at r ⊢
           obtain⟨a,rfl,b⟩:=r
           obtain⟨q,s,o⟩:=G1.at n b
           refine⟨a,q,rfl,.inl ⟨.inl s,λm=>?_,λm=>(G1.cH a m).1 (ZZ b.1)⟩,aj.cut _ _ c o⟩
           obtain⟨j,l,i⟩:=abw.mp (show a∈ι'.ix.take g.length from m)
           have x:j<g.length:=by rw[aa2]at l;omega
           have y:j < ι'.ix.length:=by rw[aa2]at l;omega
           rw[List.getElem_take]at i
           obtain⟨u,p⟩:=Zr.mp b.1
           have:j=k:=(adX G1.nd).mp (i.trans p.symm)
           omega
         . cases h
       . cases h
   . split at h
     . rename_i c
       cases h
       exact⟨Gc,Rel.cut _ _ c r⟩
     . cases h
 . cases h
section
variable {P:ZW}{w:World}{K:KW}{mg:Str->Option Value}{base:Heap}
theorem Ir {k n f fd ps}{fn:Fn}(hn:∀ds g,fn ds g=none):dF P K.w K.fr K.mg base i8 k f fd ps (mn K n fn):=
 ⟨λb H Q E ⟨_,ι,g,ds,d,a,_,_,h,_⟩=>(by rw[hn]at h;cases h),λA outer s H args us b Q E _ _ _ _ ⟨_,ι,g,ds,d,a,_,_,h,_⟩=>(by rw[hn]at h;cases h)⟩
theorem zB {K H ι ds vs}{N:List Str}(r:aj K H ι ds vs)(hl:ds.length<=N.length):bR K H ι (ds.map some++Zo (N.length-ds.length) none) (L2.start N vs):=by
 have e:=r.length
 refine⟨by unfold L2.start;simp[e],λi d q=>?_⟩
 have a:i<ds.length:=by
  by_cases a:i<ds.length
  . exact a
  . rw[ZS (by simpa using a),abd]at q
    split at q<;>cases q
 rw[Zx (by simpa using a),ZG]at q
 cases hd:ds[i]? with
 |none=>rw[hd]at q;cases q
 |some d' =>
  rw[hd]at q;cases q
  obtain⟨v,c,b⟩:=r.get hd
  refine⟨v,?_,b⟩
  unfold L2.start
  rw[Zx (by rw[Z3,<- e];exact a),ZG,c];rfl
theorem Pf {x qual:Str}{st:Stmt}{f:Addr}{fd:aaG}{N ps:List Str}{k:Nat}{keep:Bool}{b:FS}(F:xR K.fr x qual st f fd)(S:jv N ps (bz st))(hN:ps.length<=N.length)
  (hb:∀(dS:Value) (A:Z0) (outer:List Env) (s:Zq) (H:Hp) (E:XK),cV k (A.deeper (ac3 qual (bz st) s.heap.objs.size f dS)) ->
   kN (mM i8 P K.w K.fr K.mg base N qual (bz st) f dS A outer s H E).xK (eJ st) b):dF P K.w K.fr K.mg base i8 (k+1) f fd ps (mn K ps.length (ao keep N.length ps.length b)):=by
 refine F.ok S (λy H Q E h=>h.1) (λdS A outer s H y Q E o h=>?_)
 obtain⟨u,ι,g,ds,d,z,G0,r,h,p⟩:=h
 refine⟨_,(hb dS A outer s H E o).un,?_⟩
 unfold ao at h
 have i:ds.length=ps.length:=by rw[r.length];exact u
 rw[if_pos i]at h
 obtain⟨⟨m,σ1,g1⟩,h1,h⟩:=bind_some h
 refine⟨ι,_,g,m,σ1,g1,G0,zB r (by rw[i];exact hN),by rw[i];exact h1,λH1 n j l=>?_⟩
 have fin:∀{a v},Rel K H1 n a v->(if keep then some (a,g1)else settle g.length a g1)=some (d,z)->Q v H1:=fun {a v} e c=>by
  cases keep with
  |true=>simp only[if_true]at c;cases c;exact p H1 n v j l e
  |false =>
   simp only[Z1,if_false]at c
   obtain⟨ι2,e2,G2,q⟩:=Bj G0 j l e c
   exact p H1 ι2 v e2 G2 q
 cases m with
 |rt a=>exact λv e=>fin e h
 |nx=>exact λσ' S'=>fin (v:=.aq) (by simp[Rel]) h
 |bk=>cases h
 |ct=>cases h
end
section
variable {X:Cx}{x:Str}{p pos:Pos}{e:Expr}{es:List Expr}{fr:FA}{k:Nat}{f:Addr}{fd:aaG}{ps:List Str}{fn:Fn}{n:Nat}
noncomputable def au (fn:Fn)(fr:FA):FE:=λσ g=>(fr σ g).bind λr=>fn r.1 r.2
theorem pG {K}{n:Nat}(hn:∀ds g r,fn ds g=some r->ds.length=n){σ:L2.St}{H:Hp}{Q:VK}(h:tD K (au fn fr) σ H Q):t9 (mn K n fn) [] E0 (i9 K fr) σ H Q:=by
 obtain⟨ι,k,g,d,i,G0,f,h,p⟩:=h
 obtain⟨⟨ds,g1⟩,j,h⟩:=bind_some h
 refine i9.bind G0 f j λH1 e l b c S1 a=>?_
 rw[aa6]
 exact⟨by rw[<- a.length];exact hn _ _ _ h,e,g1,ds,d,i,c,a,h,p.mono b⟩
theorem Iu (F:dF X.prog X.w X.kw X.mg X.base i8 k f fd ps (mn X.kw n fn))(hr:cV k X.A)(hm:X.mg x=some (.ref f))(hk:aa3 X.kw (.ref f)=true)(hb:Binds X.kw fd ps [])(hn:∀ds g r,fn ds g=some r->ds.length=n)
  (ha:DA X (e::es) fr) (hg:Gl X x:=by rfl) (jD:(x == ("__debug__":Str))=false:=by decide) (he:ZU (e::es) X.env=(false,eval e X.env)::ZU es X.env:=by rfl) (j9:(abe pos (ZU es X.env)).any (·.1)=false:=by rfl):
  DE X (.Call (.Name x p) (e::es) [] pos) (au fn fr):=.of (
 PE.imp (HQ F hr hg hm hk hb .nil zw ha.un jD he j9) λσ H Q h=>pG hn h)
theorem D3 (F:dF X.prog X.w X.kw X.mg X.base i8 k f fd ps (mn X.kw n fn))(hr:cV k X.A)(hm:X.mg x=some (.ref f))(hk:aa3 X.kw (.ref f)=true)(hb:Binds X.kw fd ps [])(hn:∀ds g r,fn ds g=some r->ds.length=n)
  (hg:Gl X x:=by rfl) (jD:(x == ("__debug__":Str))=false:=by decide):
  DE X (.Call (.Name x p) [] [] pos) (au fn af):=.of (
 PE.imp (DH F hr hg hm hk hb .nil zw jD) λσ H Q h=>by
  have q:=pG hn h
  obtain⟨ι,a,g,d,c,G0,b,h,p⟩:=q
  cases h
  exact p H ι [] Ext.refl G0 (by simp[aj]))
theorem sP {keep:Bool}{nN nP:Nat}{b:FS}:∀ds g r,ao keep nN nP b ds g=some r->ds.length=nP:=λds g r h=>by
 unfold ao at h
 split at h
 . assumption
 . cases h
theorem D4 {id:String}{o:Fn}(hc:b_ X (.builtin id) (gC X.kw o))(hm:X.mg x=none)(hv:aa0 x=some (.builtin id))(ha:DA X (e::es) fr)(hg:Gl X x:=by rfl)(hn:x ≠ "__name__":=by decide)(jD:(x == ("__debug__":Str))=false:=by decide)
  (he:ZU (e::es) X.env=(false,eval e X.env)::ZU es X.env:=by rfl) (j9:(abe pos (ZU es X.env)).any (·.1)=false:=by rfl):DE X (.Call (.Name x p) (e::es) [] pos) (au o fr):=.of (
 PE.imp (uM hc hg hm hv ha.un hn jD he j9) λσ H Q h=>by
  obtain⟨ι,l,g,d,j,G0,i,h,p⟩:=h
  obtain⟨⟨ds,g1⟩,k,h⟩:=bind_some h
  exact i9.bind G0 i k λH1 f m a b S1 c=>⟨f,g1,ds,d,j,b,c,h,p.mono a⟩)
theorem Bk {T:String}{o:Fn}(hc:b_ X (.type T) (gC X.kw o))(hm:X.mg x=none)(hv:aa0 x=some (.type T))(ha:DA X (e::es) fr)(hg:Gl X x:=by rfl)(hn:x ≠ "__name__":=by decide)(jD:(x == ("__debug__":Str))=false:=by decide)
  (he:ZU (e::es) X.env=(false,eval e X.env)::ZU es X.env:=by rfl) (j9:(abe pos (ZU es X.env)).any (·.1)=false:=by rfl):DE X (.Call (.Name x p) (e::es) [] pos) (au o fr):=.of (
 PE.imp (A6 hc hg hm hv ha.un hn jD he j9) λσ H Q h=>by
  obtain⟨ι,l,g,d,j,G0,i,h,p⟩:=h
  obtain⟨⟨ds,g1⟩,k,h⟩:=bind_some h
  exact i9.bind G0 i k λH1 f m a b S1 c=>⟨f,g1,ds,d,j,b,c,h,p.mono a⟩)
end
noncomputable def kA (scope:Scope)(env:Env):List (Str×Addr):=(scope.names.filterMap λx=>if x.2 == .free then(env.cells.lookup x.1).map λc=>(x.1,c)else none).reverse
theorem tU {scope:Scope}{env:Env}(h:∀x∈scope.names,x.2 = .free->∃c,env.cells.lookup x.1=some c):closureFor scope env=pure (kA scope env):=by
 have key:∀(l:List (Str×abh)) (acc:List (Str×Addr)),(∀x∈l,x.2 = .free->∃c,env.cells.lookup x.1=some c) ->
   (forIn l acc λx r=>if(x.2 == aaC)=true then(do let c <- cellOf env x.1;pure (aa8 ((x.1,c)::r)))else pure (aa8 r):Sem (List (Str×Addr)))=
     pure ((l.filterMap λx=>if x.2 == .free then(env.cells.lookup x.1).map λc=>(x.1,c)else none).reverse++acc):=by
  intro l
  induction l with
  |nil=>intro acc _;rfl
  |cons x r ih =>
   intro acc b
   rw[ac6]
   by_cases hk:x.2 = .free
   . obtain⟨c,f⟩:=b x ZR hk
     have a:(x.2 == aaC)=true:=by rw[hk];rfl
     rw[if_pos a]
     simp only[cellOf,f,pure_bind,abI,a,if_true,aaV,List.reverse_cons,aak,List.singleton_append]
     exact ih _ λy e=>b y (ZV _ e)
   . have a:(x.2 == aaC)=false:=by simpa using hk
     simp only[a,Z1,if_false,pure_bind,abI]
     exact ih _ λy e=>b y (ZV _ e)
 have:=key scope.names [] h
 rw[aa6]at this
 unfold closureFor kA
 simp only[bind_pure_comp]at this ⊢
 first
  | (simpa using this)
  |exact this
noncomputable def cellsOf (scope:Scope)(env:Env)(C:Addr):List (Str×Addr):=aaF (C+1) scope.names (kA scope env)
theorem kP {n:Nat}{y:Str}{k:abh}{r:List (Str×abh)}{acc:List (Str×Addr)}:aaF n ((y,k)::r) acc=if(k == aar)=true then aaF (n+1) r ((y,n)::acc)else aaF n r acc:=rfl
theorem kg {x:Str}{c:Addr}:∀{names:List (Str×abh)} {n:Nat} {acc:List (Str×Addr)},(aaF n names acc).lookup x=some c->((x,aar)∈names/\n<=c)\/(acc.lookup x=some c/\(x,aar) ∉ names)
 | [],_,_,h=>.inr ⟨h,by simp⟩
 | (y,k)::r,n,acc,h=>by
  rw[kP]at h
  split at h
  . rename_i a
    have a:k=aar:=by simpa using a
    subst a
    rcases kg h with⟨h1,h2⟩|⟨h1,h2⟩
    . exact .inl ⟨ZV _ h1,by omega⟩
    . by_cases e:x=y
      . subst e
        rw[aad,show(x == x)=true by simp]at h1
        cases h1
        exact .inl ⟨ZR,ZA _⟩
      . rw[aad,show(x == y)=false by simpa using e]at h1
        exact .inr ⟨h1,λz=>by rcases ZI.mp z with z|z;(cases z;exact e rfl);exact h2 z⟩
  . rename_i a
    rcases kg h with⟨h1,h2⟩|⟨h1,h2⟩
    . exact .inl ⟨ZV _ h1,h2⟩
    . exact .inr ⟨h1,λz=>by rcases ZI.mp z with z|z;(cases z;exact a rfl);exact h2 z⟩
theorem qm {x:Str}{c:Addr}:∀{names:List (Str×abh)} {n:Nat} {acc:List (Str×Addr)},(x,aar) ∉ names->acc.lookup x=some c->(aaF n names acc).lookup x=some c
 | [],_,_,_,h=>h
 | (y,k)::r,n,acc,hn,h=>by
  have b:(x,aar) ∉ r:=λz=>hn (ZV _ z)
  rw[kP]
  split
  . rename_i a
    have a:k=aar:=by simpa using a
    subst a
    refine qm b ?_
    have e:x≠y:=λe=>hn (by rw[e];exact ZR)
    rw[aad,show(x == y)=false by simpa using e]
    exact h
  . exact qm b h
theorem u9 {x:Str}:∀{names:List (Str×abh)} {n:Nat} {acc:List (Str×Addr)},((x,aar)∈names \/ ∃c,acc.lookup x=some c)->∃c,(aaF n names acc).lookup x=some c
 | [],_,_,h=>by rcases h with h|h;(cases h);exact h
 | (y,k)::r,n,acc,h=>by
  rw[kP]
  split
  . rename_i a
    refine u9 ?_
    rcases h with h|⟨c,h⟩
    . rcases ZI.mp h with z|z
      . cases z;exact .inr ⟨n,by simp⟩
      . exact .inl z
    . right
      rw[aad]
      split
      . exact⟨_,rfl⟩
      . exact⟨c,h⟩
  . rename_i a
    refine u9 ?_
    rcases h with h|h
    . rcases ZI.mp h with z|z
      . cases z;exact absurd rfl a
      . exact .inl z
    . exact .inr h
theorem u_:∀{names:List (Str×abh)} {n:Nat} {acc:List (Str×Addr)},(∀x c,acc.lookup x=some c->c<n)->(∀x y c,acc.lookup x=some c->acc.lookup y=some c->x=y)->∀x y c,(aaF n names acc).lookup x=some c->(aaF n names acc).lookup y=some c->x=y
 | [],_,_,_,hi=>hi
 | (z,k)::r,n,acc,hl,hi=>by
  intro x y c
  rw[kP]
  split
  . refine u_ (λx c h=>?_) (λx y c b a=>?_) x y c
    . rw[aad]at h
      split at h
      . cases h;exact ad1 _
      . exact aaI (hl x c h)
    . rw[aad]at b a
      split at b
      . rename_i e
        cases b
        split at a
        . rename_i f
          rw[eq_of_beq e,eq_of_beq f]
        . exact absurd (hl y _ a) (abq _)
      . split at a
        . cases a;exact absurd (hl x _ b) (abq _)
        . exact hi x y c b a
  . exact u_ hl hi x y c
theorem pH {M:Model}{A:Z0}{E:Value->Zq->Prop}:∀(names:List (Str×abh)) (acc:List (Str×Addr)) (s:Zq) (Q:List (Str×Addr)->Zq->Prop),
  (∀x c,acc.lookup x=some c->c<s.heap.objs.size) ->
  (∀h',(∀b o,s.heap.get? b=some o->h'.get? b=some o)->(∀x c,(aaF s.heap.objs.size names acc).lookup x=some c->s.heap.objs.size<=c->h'.IsCell c none)->Q (aaF s.heap.objs.size names acc) { s with heap:=h' }) ->
  wpAny M A (forIn names acc λx r=>if(x.2 == aar)=true then(do let c <- alloc { cls:=aaD "cell",data:=adx none };pure (aa8 ((x.1,c)::r)))else pure (aa8 r)) Q E s
 | [],acc,s,Q,hl,h=>by
  rw[aew]
  exact Zu (h s.heap (λ_ _ e=>e) λx c f i=>absurd (hl x c f) (Nat.not_lt.mpr i))
 | (y,k)::r,acc,s,Q,hl,h=>by
  rw[ac6]
  rw[kP]at h
  dsimp only
  split
  . rename_i j
    rw[if_pos j]at h
    refine Zn (Zn (afF (Zu ?_)))
    have sz:(s.heap.push { cls:=aaD "cell",data:=adx none }).objs.size=s.heap.objs.size+1:=ads ..
    refine pH r _ _ Q (λx c e=>?_) λh' l a=>?_
    . show c<(s.heap.push _).objs.size
      rw[sz]
      rw[aad]at e
      split at e
      . cases e;exact ad1 _
      . exact aaI (hl x c e)
    . have a:∀x c,(aaF (s.heap.push { cls:=aaD "cell",data:=adx none }).objs.size r ((y,s.heap.objs.size)::acc)).lookup x=some c->(s.heap.push { cls:=aaD "cell",data:=adx none }).objs.size<=c->h'.IsCell c none:=a
      show Q (aaF (s.heap.push { cls:=aaD "cell",data:=adx none }).objs.size r ((y,s.heap.objs.size)::acc)) _
      rw[sz]at a ⊢
      refine h h' (λb o e=>l b o (Zy _ e)) λx c f i=>?_
      rcases Nat.lt_or_eq_of_le i with e3|e3
      . exact a x c f e3
      . subst e3
        exact⟨_,l _ _ (ZF _ rfl),rfl⟩
  . rename_i j
    rw[if_neg j]at h
    refine Zn (Zu ?_)
    exact pH r acc s Q hl h
theorem xy {M:Model}{A:Z0}{E:Value->Zq->Prop}{s:Zq}{scope:Scope}{env:Env}{gl:Addr}{cl:List (Str×Addr)}{qual:Str}{Q:Env->Zq->Prop}(hl:∀x c,cl.lookup x=some c->c<s.heap.objs.size)
   (h:∀h4:Heap,h4.Ns s.heap.objs.size (λ_=>none)->(∀b o,s.heap.get? b=some o->h4.get? b=some o)->(∀x c,(aaF (s.heap.objs.size+1) scope.names cl).lookup x=some c->s.heap.objs.size+1<=c->h4.IsCell c none) ->
    Q (newEnv scope s.heap.objs.size gl (aaF (s.heap.objs.size+1) scope.names cl) qual none ab3 (some env) adL) { s with heap:=h4 }):
   wpAny M A (newFunctionEnv scope gl cl [] qual none ab3 (some env)) Q E s:=by
 unfold newFunctionEnv
 have sz:∀o:Obj,(s.heap.push o).objs.size=s.heap.objs.size+1:=λo=>ads ..
 refine Zn (afF (Zn ?_))
 refine pH scope.names cl _ _ (λx c e=>?_) λf i a=>?_
 . show c<(s.heap.push _).objs.size
   rw[sz];exact aaI (hl x c e)
 . refine Zn ?_
   rw[aew]
   refine Zu (Zu ?_)
   have a:∀x c,(aaF (s.heap.push { cls:=aaD (if(some env).isSome=true then "dict" else "frame"),data:=afc #[] }).objs.size scope.names cl).lookup x=some c->(s.heap.push { cls:=aaD (if(some env).isSome=true then "dict" else "frame"),data:=afc #[] }).objs.size<=c->f.IsCell c none:=a
   rw[sz]at a
   have:=h f ⟨_,_,_,i _ _ (ZF _ rfl),rfl,by intro k j;simp at j,λ_=>rfl⟩ (λb o e=>i b o (Zy _ e)) a
   show Q (newEnv scope s.heap.objs.size gl (aaF (s.heap.push { cls:=aaD (if(some env).isSome=true then "dict" else "frame"),data:=afc #[] }).objs.size scope.names cl) qual none ab3 (some env) adL) { s with heap:=f }
   rw[sz]
   exact this
noncomputable def ba (X:Cx)(N:List Str)(scope:Scope)(C:Addr)(s3:Zq)(H:Hp)(fp:List Addr)(pins:List (Addr×Obj)):Cx where
 prog:=X.prog
 w:=X.w
 K:=X.kw
 mg:=X.mg
 base:=X.base
 A:=X.A
 N:=N
 s₀:=s3
 H₀:=H
 env:=compEnvC scope (cellsOf scope X.env C) C X.env
 outer:=X.stack
 stack:=X.stack
 ex:=fp
 calm:=X.calm
 fn:=λx=>scope.names.any λy=>y.1 == x&&y.2 == .cell
 pn:=X.pn++pins
 xe:=λ_ _=>False
structure dU (X:Cx)(N:List Str)(fr:List (Option Nat))(scope:Scope):Prop where
 kind:scope.kind = .function
 cells:∀y∈scope.names,y.2 = .cell->scope.names.lookup y.1=some .cell
 names:∀y∈scope.names,y.2 = .local->scope.names.lookup y.1=some .local
 free:∀y∈scope.names,y.2 = .free->scope.names.lookup y.1=some .free/\(X.env.kindOf y.1=some .cell\/X.env.kindOf y.1=some .free)
 len:fr.length=N.length
 slots:∀(j i:Nat),fr[j]? = some (some i)->∃x,N[j]? = some x/\X.N[i]? = some x/\scope.names.lookup x=some .free
noncomputable def bZ {α:Type}(fr:List (Option Nat))(σ:List (Option α)):List (Option α):=fr.map λo=>match o with|some i=>(σ[i]?).join|none=>none
theorem vb {scope:Scope}{env:Env}:(adV scope env).kind=scope.kind:=rfl
theorem D5 {scope:Scope}{env:Env}{x:Str}{c:Addr}(h:(x,c)∈kA scope env):(x,aaC)∈scope.names/\env.cells.lookup x=some c:=by
 unfold kA at h
 rw[afQ,abK]at h
 obtain⟨y,a,e⟩:=h
 split at e
 . rename_i b
   cases hc:env.cells.lookup y.1 with
   |none=>rw[hc]at e;cases e
   |some c' =>
    rw[hc]at e
    cases e
    have:y.2=aaC:=by simpa using b
    exact⟨by rw[<- this];exact a,hc⟩
 . cases e
theorem mq {α:Type}:∀{l:List (Str×α)} {x:Str} {c:α},(x,c)∈l->∃d,l.lookup x=some d
 | [],_,_,h=>nomatch h
 | (y,d)::r,x,c,h=>by
  by_cases e:x=y
  . subst e;exact⟨d,by simp⟩
  . rcases ZI.mp h with z|z
    . cases z;exact absurd rfl e
    . obtain⟨a,q⟩:=mq z
      exact⟨a,by rw[aad];simp[show(x == y)=false by simpa using e,q]⟩
theorem eK {scope:Scope}{env:Env}{x:Str}{c:Addr}(h:(kA scope env).lookup x=some c):(x,aaC)∈scope.names/\env.cells.lookup x=some c:=D5 (aaH h)
theorem vc {scope:Scope}{env:Env}{x:Str}{c:Addr}(hx:(x,aaC)∈scope.names)(hc:env.cells.lookup x=some c):(kA scope env).lookup x=some c:=by
 have m:(x,c)∈kA scope env:=by
  unfold kA
  rw[afQ,abK]
  exact⟨_,hx,by simp[hc]⟩
 obtain⟨d,q⟩:=mq m
 have:=(eK q).2
 rw[hc]at this;cases this
 exact q
theorem vd {scope:Scope}{env:Env}{x:Str}(h:(adV scope env).names.lookup x=some .cell\/(adV scope env).names.lookup x=some .free):(x,aaC)∈scope.names\/(x,aar)∈scope.names:=by
 have m:∃k,(x,k)∈(adV scope env).names/\(k = .cell\/k = .free):=by
   rcases h with h|h
   . exact⟨_,aaH h,.inl rfl⟩
   . exact⟨_,aaH h,.inr rfl⟩
 obtain⟨k,m,b⟩:=m
 unfold adV at m
 rw[Z8]at m
 obtain⟨⟨n,a⟩,hm,e⟩:=m
 dsimp only at e
 split at e
 . rename_i z
   cases e
   simp only[Zv]at z
   have:a=aaC:=by simpa using z.1.1
   subst this
   exact .inl hm
 . cases e
   rcases b with rfl|rfl
   . exact .inr hm
   . exact .inl hm
theorem ig {env:Env}:∀{names:List (Str×abh)} {x:Str},names.lookup x=some .free ->
  (names.map λ(n,k)=>if(k == aaC&&env.scope.kind == .function&&env.kindOf n == some .cell)then(n,aar)else(n,k)).lookup x=some .cell \/
  (names.map λ(n,k)=>if(k == aaC&&env.scope.kind == .function&&env.kindOf n == some .cell)then(n,aar)else(n,k)).lookup x=some .free
 | [],_,h=>by simp at h
 | (n,k)::r,x,h=>by
  have ih:=@ig env r x
  show List.lookup x ((if(k == aaC&&env.scope.kind == .function&&env.kindOf n == some .cell)=true then(n,aar)else(n,k))::_)=_\/List.lookup x ((if(k == aaC&&env.scope.kind == .function&&env.kindOf n == some .cell)=true then(n,aar)else(n,k))::_)=_
  cases hx:x == n with
  |true =>
   simp only[aad,hx]at h
   cases h
   split
   . left;simp[aad,hx]
   . right;simp[aad,hx]
  |false =>
   simp only[aad,hx]at h
   split
   . simp only[aad,hx];exact ih h
   . simp only[aad,hx];exact ih h
section
variable {X:Cx}{pins:List (Addr×Obj)}{σ:L2.St}{H:Hp}{s3:Zq}
theorem Pg {scope:Scope}(I:Inv X pins σ H s3):∀x c,(kA scope X.env).lookup x=some c->c<s3.heap.objs.size:=λx c e=>by
 obtain⟨v,o,a,_⟩:=I.cell x c (eK e).2
 exact ZH a
theorem zC {N:List Str}{fr:List (Option Nat)}{scope:Scope}{fp:List Addr}{h1:Heap}{tk:Nat}(ok:dU X N fr scope)(I:Inv X pins σ H s3)(hf:∀b∈fp,gq X pins H b)(xU:∀b∈fp,b<s3.heap.objs.size)
   (xQ:h1.Ns s3.heap.objs.size λ_=>none) (hk:∀b o,s3.heap.get? b=some o->h1.get? b=some o) (iP:∀x c,(cellsOf scope X.env s3.heap.objs.size).lookup x=some c->s3.heap.objs.size+1<=c->h1.IsCell c none):
   Inv (ba X N scope s3.heap.objs.size s3 H fp pins) [] (bZ fr σ) H { s3 with heap:=h1,toks:=tk }:=by
 have r:Inv X pins σ H { s3 with heap:=h1,toks:=tk }:=I.kept hk
 have uA:∀b∈l5 X.stack,b∈X.env.locals::X.fs:=I.uF
 have lc:∀x c,(cellsOf scope X.env s3.heap.objs.size).lookup x=some c->(s3.heap.objs.size+1<=c/\h1.IsCell c none)\/X.env.cells.lookup x=some c:=λx c e=>by
   rcases kg e with⟨_,z⟩|⟨z,_⟩
   . exact .inl ⟨z,iP x c e z⟩
   . exact .inr (eK z).2
 have lo:∀x c,X.env.cells.lookup x=some c->c<s3.heap.objs.size:=λx c e=>by
   obtain⟨v,o,eo,_⟩:=I.cell x c e
   exact ZH eo
 have Rc:∀y,(y,aaC)∈scope.names->(y,aar) ∉ scope.names:=λy h1 l=>by
   have:=(ok.free _ h1 rfl).1
   rw[show scope.names.lookup y=some .cell from ok.cells _ l rfl]at this
   cases this
 refine⟨⟨I.ok.mod,?_,I.ok.glob,I.ok.blt,ZA _,?_,?_,?_,I.ok.hd,I.ok.frames,.inl rfl,?_,I.bs,aaJ I.ok.sv I.sz,?_,?_,I.stack,I.xH⟩,rfl,I.bare,Un.kept hk,
   ⟨_,xQ,?_⟩,?_,I.bo.fresh (ZA _),?_,?_,r.bo,?_⟩
 . show(adV scope X.env).kind = .function
   rw[vb];exact ok.kind
 . refine u_ (λx c e=>aaI (lo x c (eK e).2)) λx y c h1 l=>?_
   exact I.ok.inj x y c (eK h1).2 (eK l).2
 . intro x h
   rcases vd (scope:=scope) (env:=X.env) h with m|m
   . obtain⟨c,hc⟩:=I.ok.has x (ok.free _ m rfl).2
     exact⟨c,qm (Rc x m) (vc m hc)⟩
   . exact u9 (.inl m)
 . intro x c h e
   rcases kg e with⟨_,z⟩|⟨_,z⟩
   . exact acE z
   . refine absurd ?_ z
     have h:(scope.names.any λy=>y.1 == x&&y.2 == .cell)=true:=h
     rw[ad2]at h
     obtain⟨⟨y,k⟩,s,e2⟩:=h
     simp only[Zv]at e2
     have e3:k=aar:=by simpa using e2.2
     rw[<- eq_of_beq e2.1,<- e3]
     exact s
 . intro b f
   refine⟨ZX (xU b f),λx c e=>?_⟩
   rcases lc x c e with⟨z,_⟩|z
   . exact λq=>absurd (xU b f) (Nat.not_lt.mpr (by rw[<- q];exact acE z))
   . exact(hf b f).2.2.2.2.1 x c z
 . intro b o e f
   obtain⟨_,_,_,z,_⟩:=hf b f
   rcases z with z|z
   . exact I.ok.uB b o e z
   . exact absurd (Z7 (Z7 (ZH e) I.ok.sv) z) (abq _)
 . intro b f z
   obtain⟨_,n1,n2,_⟩:=hf b f
   rcases ZI.mp (uA b z)with q|q
   . exact n1 q
   . exact n2 q
 . intro j x v h1 l h3
   have a:(bZ fr σ)[j]? = some (some v):=l
   unfold bZ at a
   rw[ZG]at a
   cases jI:fr[j]? with
   |none=>rw[jI]at a;cases a
   |some o =>
     rw[jI]at a
     cases o with
     |none=>cases a
     |some i =>
       obtain⟨y,s,hi,p6⟩:=ok.slots j i jI
       have e:x=y:=by
         have xV:N[j]? = some x:=h1
         rw[s]at xV;cases xV;rfl
       subst e
       have hσ:σ[i]? = some (some v):=by
         simp only[aaV,aaA]at a
         cases q:σ[i]? with
         |none=>rw[q]at a;cases a
         |some w=>rw[q]at a;simp at a;rw[a]
       have m:=aaH p6
       obtain⟨_,t_⟩:=ok.free _ m rfl
       obtain⟨mm,hn,hl⟩:=r.loc
       obtain⟨u,ru,lk⟩:=hl i x v hi hσ (by rcases t_ with k|k;exact .inr (.inl k);exact .inr (.inr k))
       refine⟨u,ru,.inr ⟨ig p6,?_⟩⟩
       rcases lk with⟨kl,_⟩|⟨_,c,hc,jb⟩
       . rcases t_ with k|k<;>(rw[k]at kl;cases kl)
       . exact⟨c,qm (Rc x m) (vc m hc),jb⟩
 . intro x c e
   rcases lc x c e with⟨_,z⟩|z
   . exact⟨_,z⟩
   . exact r.cell x c z
 . intro x c e
   rcases lc x c e with⟨z,_⟩|z
   . exact I.bo.fresh (acE z)
   . exact I.iG x c z
 . intro p hp
   have Gk:p∈X.pn++pins:=by
     have q:p∈(X.pn++pins) ++ []:=hp
     simpa using q
   obtain⟨e,n,ne,nf,d⟩:=r.pin p Gk
   refine⟨e,n,ZX ?_,λz=>?_,d⟩
   . exact ZH (I.pin p Gk).1
   . rcases ZI.mp (uA _ z)with q|q
     . exact ne q
     . exact nf q
 . show(bZ fr σ).length=N.length
   unfold bZ;rw[Z3];exact ok.len
end
noncomputable def a_ (t:FG)(c:FT)(e:FE):List D->Sg->G->Option (List D×G)
 | [],_,g=>some ([],g)
 |d::ds,σ,g=>(t d σ g).bind λq=>(c q.1 q.2).bind λk=>if k.1=true then(e q.1 k.2).bind λr=>(a_ t c e ds q.1 r.2).bind λz=>some (r.1::z.1,z.2)else a_ t c e ds q.1 k.2
noncomputable def T7 (X:Cx)(ifs:List Expr)(t:TT):Prop :=
 ∀(pins:List (Addr×Obj)) (s:Zq) (σ:L2.St) (H:Hp) (Q:Bool->Hp->Prop),Inv X pins σ H s->t σ H Q ->
  wpAny (model X.prog X.w) X.A (forIn ifs true λc r=>if r=true then do let ok <- isTrue c X.env (eval c X.env);pure (aa8 ok)else pure (aa8 r)) (TP X pins σ Q) X.xe s
structure gu (X:Cx)(ifs:List Expr)(f:FT):Prop where of ::
 un:T7 X ifs (kM X.kw f)
noncomputable def bp:FT:=λ_ g=>some (true,g)
theorem D6 {X:Cx}:gu X [] bp:=.of (λpins s σ H Q I h=>by
 obtain⟨ι,a,g,b,e,G0,c,h,p⟩:=h
 cases h
 exact wpAny_tests_nil ⟨H,I,p H ι Ext.refl G0⟩)
theorem D7 {X:Cx}{c:Expr}{f:FT}(h:DT X c f):gu X [c] f:=.of (λpins s σ H Q I q=>wpAny_tests_one (h.un pins s σ H Q I q))
theorem Ext.Gm {H1 ι1 H' ιo p H'' kO}(a:Ext H1 ι1 H' ιo)(b:Ext H' (Ix.hide ιo p) H'' kO):Ext H1 ι1 H'' ⟨kO.ix,ιo.hd,kO.kd⟩/\kO=Ix.hide ⟨kO.ix,ιo.hd,kO.kd⟩ p:=by
 have f:kO.hd=p::ιo.hd:=b.cH
 obtain⟨l,e,f1⟩:=a.more
 obtain⟨j,m,f2⟩:=b.more
 refine⟨⟨λc o h n=>b.same c o (a.same c o h n) (a.old h n),λc h=>b.there c (a.there c h),⟨l++j,?_,λc z=>?_⟩,a.cH,λi k=>(b.mh i (show i < ιo.ix.length by rw[e,ZE];omega)).trans (a.mh i k)⟩,?_⟩
 . show kO.ix=_
   rw[m];show ιo.ix++j=_
   rw[e,aak]
 . rcases ZN.mp z with z|z
   . exact f1 c z
   . cases q:H1 c with
     |none=>rfl
     |some o=>exact absurd (f2 c z) (a.there c (by rw[q];simp))
 . cases kO with
   |mk ix hd kd=>dsimp only at f;rw[f];rfl
theorem Ext.Gn {H1 ι1 H' ιo p o}(a:Ext H1 ι1 H' ιo)(hp:H1 p=none):Ext H1 ι1 (upd H' p o) ιo :=
 ⟨λc u h n=>by rw[aT (bY h hp)];exact a.same c u h n,λc h=>by
  by_cases e:c=p
  . subst e;rw[bG];simp
  . rw[aT e];exact a.there c h,a.more,a.cH,a.mh⟩
theorem Ext.T8 {H1 ι1 H' ιo p}(a:Ext H1 ι1 H' ιo)(hp:H1 p=none):jH H1 ι1 H' (Ix.hide ιo p):=
 ⟨a.same,a.there,a.more,⟨[p],by show p::ιo.hd=_;rw[a.cH];rfl,λb z=>by simp at z;subst z;exact hp⟩,a.mh⟩
abbrev Sh:=G->Option (List D)
abbrev qo:=Sg->G->Option (Sh×Nat×G)
noncomputable def zD (K:KW)(J:It)(H:Hp)(ι:Ix)(sh:Sh)(L:Nat):Prop :=
 ∀(i:Nat) H1 ι1 g1,jH H ι H1 ι1->az K H1 ι1 g1->∀xs,sh g1=some xs->xs.length=L->(L<=i->J.stop i H1) /\ ∀d,xs[i]? = some d->J.go i H1 /\ ∀x H2,J.AQ i H1 x H2->Ext H1 ι1 H2 ι1/\az K H2 ι1 g1/\Rel K H2 ι1 d x
inductive LB (K:KW)(f:qo)(σ:L2.St)(H:Hp)(R:(It->Hp->Prop)):Prop
 |mk (ι:Ix) (σd:Sg) (g:G) (sh:Sh) (L:Nat) (g':G) (h0:az K H ι g) (h1:bR K H ι σd σ) (h2:f σd g=some (sh,L,g')) (h3:∀H' ι' J,Ext H ι H' ι'->az K H' ι' g'->zD K J H' ι' sh L->R J H'):LB K f σ H R
structure ve (X:Cx)(tg iter:Expr)(f:qo):Prop where of ::
 un:PI X tg iter (LB X.kw f)
noncomputable def dh (sh:Sh)(L:Nat)(t:FG)(c:FT)(e:FE):Nat->Sg->G->Option (List D×G)
 | 0,_,g=>(sh g).bind λxs=>if xs.length=L then some ([],g)else none
 |r+1,σ,g=>(sh g).bind λxs=>if xs.length=L then(xs[L-(r+1)]?).bind λd=>(t d σ g).bind λq=>(c q.1 q.2).bind λk=>if k.1=true then(e q.1 k.2).bind λa=>(dh sh L t c e r q.1 a.2).bind λz=>some (a.1::z.1,z.2)else dh sh L t c e r q.1 k.2 else none
theorem zE {sh:Sh}{L:Nat}{t:FG}{c:FT}{e:FE}{σ:Sg}{g g':G}{all:List D}(h:dh sh L t c e 0 σ g=some (all,g')):∃xs,sh g=some xs/\xs.length=L/\all = []/\g'=g:=by
 simp only[dh]at h
 obtain⟨xs,a,h⟩:=bind_some h
 split at h
 . rename_i z
   cases h
   exact⟨xs,a,z,rfl,rfl⟩
 . cases h
theorem zF {sh:Sh}{L r:Nat}{t:FG}{c:FT}{e:FE}{σ:Sg}{g:G}{o:List D×G}(h:dh sh L t c e (r+1) σ g=some o):∃xs d,sh g=some xs/\xs.length=L/\xs[L-(r+1)]? = some d/\((t d σ g).bind λq=>(c q.1 q.2).bind λk=>if k.1=true then(e q.1 k.2).bind λr'=>(dh sh L t c e r q.1 r'.2).bind λz=>some (r'.1::z.1,z.2)else dh sh L t c e r q.1 k.2)=some o:=by
 simp only[dh]at h
 obtain⟨xs,a,h⟩:=bind_some h
 split at h
 . rename_i z
   obtain⟨d,hd,h⟩:=bind_some h
   exact⟨xs,d,a,z,hd,h⟩
 . cases h
inductive CompI (X':Cx)(t:FG)(c:FT)(e:FE)(fp:List Addr)(Dl:Addr)(tn:Nat->Heap->Prop)(sh:Sh)(L:Nat)(all:List D)(H1:Hp)(ι1:Ix)(g':G)(n:Nat)(s:Zq):Prop
 |mk (i:Nat) (σ:L2.St) (H:Hp) (ιo:Ix) (σd:Sg) (g:G) (vs:List V) (acc more:List D) (hn:n=L+1-i) (oT:i<=L) (I:Inv X' [] σ H s) (ti:tn i s.heap) (Gp:∀b∈fp,H b=none) (E1:Ext H1 ι1 H ιo) (G1:az X'.kw H (Ix.hide ιo Dl) g) (S1:bR X'.kw H (Ix.hide ιo Dl) σd σ)
  (Gq:H Dl=some (.lst vs)) (vf:aj X'.kw H (Ix.hide ιo Dl) acc vs) (WT:acc.length<=i) (hf:dh sh L t c e (L-i) σd g=some (more,g')) (ea:all=acc++more):CompI X' t c e fp Dl tn sh L all H1 ι1 g' n s
theorem Bl {X':Cx}{tg iter elt:Expr}{ifs:List Expr}{scope:Scope}{pos:Pos}{t:FG}{c:FT}{e:FE}{J:It}{fp:List Addr}{it Dl:Addr}{tn:Nat->Heap->Prop}{all:List D}{sh:Sh}{L:Nat}{H1:Hp}{ι1:Ix}{g':G}{R:Result->Zq->Prop}
   (gE:X'.xe=λ_ _=>False) (hc:X'.calm=true) (T:Turn X'.prog X'.w X'.kw tg J fp it tn) (WU:∀b∈fp,gq X' [] X'.H₀ b) (J1:zD X'.kw J H1 ι1 sh L) (hD:H1 Dl=none) (hz:L<=ZQ)
   (hg:DG X' tg t) (hi:gu X' ifs c) (he:DE X' elt e)
   (fin:∀s' σ' H' ιo vs,Inv X' [] σ' H' s'->(∀b∈fp,H' b=none)->Ext H1 ι1 H' ιo->az X'.kw H' (Ix.hide ιo Dl) g'->H' Dl=some (.lst vs)->aj X'.kw H' (Ix.hide ιo Dl) all vs->R (.ok .next) s'):
   ∀(s:Zq) (σ:L2.St) (H:Hp) (ιo:Ix) (σd:Sg) (g:G),Inv X' [] σ H s->tn 0 s.heap->(∀b∈fp,H b=none)->Ext H1 ι1 H ιo->az X'.kw H (Ix.hide ιo Dl) g->bR X'.kw H (Ix.hide ιo Dl) σd σ->H Dl=some (.lst [])->dh sh L t c e L σd g=some (all,g') ->
    acS (model X'.prog X'.w) X'.A (.compLoop (.ListComp elt [⟨tg,iter,ifs,0⟩] scope pos) 0 (.ref it) (.ref Dl) X'.env) R s:=by
 intro s σ H ιo σd g I t0 Rf E0 G0 S0 hH qp
 have pD:∀{H':Hp},(∀b∈fp,H' b=none)->∀b∈fp,gq X' [] H' b:=λhn b p=>⟨hn b p,(WU b p).2⟩
 refine codeAny_loop rfl (CompI X' t c e fp Dl tn sh L all H1 ι1 g') ?_ (L+1)
   ⟨0,σ,H,ιo,σd,g,[],[],all,rfl,aab _,I,t0,Rf,E0,G0,S0,hH,by simp[aj],ZA _,by simpa using qp,rfl⟩
 clear qp hH S0 G0 E0 Rf t0 I g σd ιo H σ s
 rintro n s ⟨i,σ,H,ιo,σd,g,vs,acc,more,rfl,oT,I,ti,Gp,E1,G1,S1,Gq,vf,WT,hf,rfl⟩
 show wpAny _ X'.A ((compTurn (.ListComp elt [⟨tg,iter,ifs,0⟩] scope pos) 0 (.ref it) (.ref Dl) X'.env).onRaise (λx=>do noteFrame x X'.env;theTreesLotGoes x)) _ _ s
 refine wpAny_noted ?_
 rw[compTurn_list]
 refine Zn (adD (Zn ?_))
 have j1:=J1 i H (Ix.hide ιo Dl) g (E1.T8 hD) G1
 by_cases bU:i<L
 . rw[show L-i=(L-(i+1))+1 by omega]at hf
   obtain⟨xs,d0,mR,LC,vg,hf⟩:=zF hf
   rw[show L-(L-(i+1)+1)=i by omega]at vg
   obtain⟨st,go⟩:=j1 xs mR LC
   obtain⟨go,yl⟩:=go d0 vg
   refine bf (T.item X' rfl rfl rfl hc i [] s σ H _ I (pD Gp) ti go) λr s4 ⟨u,hr,h4⟩=>?_
   subst hr
   refine Zn (bf h4 λ_ s5 ⟨x,H5,I5,r5,y5,t5,Kw⟩=>?_)
   obtain⟨e5,G5,jJ⟩:=yl x H5 y5
   obtain⟨⟨σ6,g6⟩,h6,hf⟩:=bind_some hf
   obtain⟨⟨k7,g7⟩,h7,hf⟩:=bind_some hf
   have ae:=I5.pinned (pD Kw) (T.obj _ _ t5)
   have lift:∀{α:Type} {tr:Sem α} {Q:α->Zq->Prop} {E:Value->Zq->Prop} {s:Zq},wpAny (model X'.prog X'.w) X'.A tr Q X'.xe s->wpAny (model X'.prog X'.w) X'.A tr Q E s:=λh=>acY h (λ_ _ q=>q) λ_ _ z=>by rw[gE]at z;exact z.elim
   have again:∀{s9:Zq} {σ9:L2.St} {f:Hp} {ι9:Ix} {Gr:Sg} {g9:G} {Gs:List V} {acc9:List D} {nR:List D},Inv X' ([]++mK fp s5.heap) σ9 f s9->Ext H1 ι1 f ι9->az X'.kw f (Ix.hide ι9 Dl) g9->bR X'.kw f (Ix.hide ι9 Dl) Gr σ9 ->
     f Dl=some (.lst Gs)->aj X'.kw f (Ix.hide ι9 Dl) acc9 Gs->acc9.length<=i+1->dh sh L t c e (L-(i+1)) Gr g9=some (nR,g')->acc++more=acc9++nR ->
     ∃m,m<L+1-i/\CompI X' t c e fp Dl tn sh L (acc++more) H1 ι1 g' m s9:=by
    intro s9 σ9 f ι9 Gr g9 Gs acc9 nR I9 E9 G9 S9 h9 r9 l9 f9 a9
    refine⟨L+1-(i+1),by omega,i+1,σ9,f,ι9,Gr,g9,Gs,acc9,nR,rfl,bU,I9.lD,T.keep _ _ _ t5 λb p o e=>(I9.pin (b,o) (aao _ (aao _ (je p e)))).1,λb p=>?_,E9,G9,S9,h9,r9,l9,f9,a9⟩
    obtain⟨o,e,d⟩:=T.obj _ _ t5 b p
    exact(I9.pin (b,o) (aao _ (aao _ (je p e)))).2.1
   refine Zn (lift (bf (hg.un _ s5 σ H5 x u (λσ' H'=>∃k,Ext H5 (Ix.hide ιo Dl) H' k/\az X'.kw H' k g6/\bR X'.kw H' k σ6 σ') ae r5 ⟨Ix.hide ιo Dl,σd,g,d0,σ6,g6,G5,S1.ext e5,jJ,h6,λH6 k Gu e6 G6 S6=>⟨k,e6,G6,S6⟩⟩) λ_ s6 q6=>?_))
   obtain⟨Gu,H6,I6,k,e6,G6,S6⟩:=q6
   refine Zn (lift (bf (hi.un _ s6 Gu H6 (λb H'=>b=k7 /\ ∃l,Ext H6 k H' l/\az X'.kw H' l g7) I6 ⟨k,σ6,g6,k7,g7,G6,S6,h7,λH7 l e7 G7=>⟨rfl,l,e7,G7⟩⟩) λok s7 q7=>?_))
   obtain⟨H7,I7,rfl,l,e7,G7⟩:=q7
   have Gv:=(e5.trans e6).trans e7
   obtain⟨E7,WV⟩:=E1.Gm Gv
   have WW:H7 Dl=some (.lst vs):=Gv.same Dl _ Gq (G1.cH Dl ZR).1
   have r7:=aj.ext Gv _ vf
   have S7:=S6.ext e7
   cases ok with
   |false =>
    simp only[Z1,if_false]at hf
    refine Zu ⟨rfl,?_⟩
    rw[WV]at G7 S7 r7
    exact again I7 E7 G7 S7 WW r7 (by omega) hf rfl
   |true =>
    simp only[if_true]at hf
    obtain⟨⟨d8,g8⟩,h8,hf⟩:=bind_some hf
    obtain⟨⟨nR,g9⟩,h9,hf⟩:=bind_some hf
    obtain⟨rfl,rfl⟩:d8::nR=more/\g9=g':=by cases hf;exact⟨rfl,rfl⟩
    refine Zn (Zn (lift (bf (he.un _ s7 Gu H7 (λv H'=>∃ι8,Ext H7 l H' ι8/\az X'.kw H' ι8 g8/\Rel X'.kw H' ι8 d8 v) I7 ⟨l,σ6,g7,d8,g8,G7,S7,h8,λH8 ι8 v e8 G8 r8=>⟨ι8,e8,G8,r8⟩⟩) λy s8 q8=>?_)))
    obtain⟨v8,H8,I8,WX,ι8,e8,G8,r8⟩:=q8
    have LD:=Gv.trans e8
    obtain⟨E8,WY⟩:=E1.Gm LD
    have Bm:H8 Dl=some (.lst vs):=LD.same Dl _ Gq (G1.cH Dl ZR).1
    have Gw:=aj.ext LD _ vf
    have S8:=S7.ext e8
    have hlen:vs.length<ZQ:=by rw[<- vf.length];omega
    rw[WY]at G8 S8 Gw r8
    refine Zn (lift (bf (sM (X:=X') _ s8 Gu H8 (.ref Dl) [v8] (.ref Dl) [y] (λ_ H'=>H'=upd H8 Dl (.lst (vs ++ [v8]))) I8 rfl (.cons WX .nil) ⟨Dl,vs,v8,rfl,rfl,Bm,hlen,rfl⟩) λ_ s9 q9=>?_))
    obtain⟨_,f,I9,_,rfl⟩:=q9
    refine Zu (Zu ⟨rfl,?_⟩)
    refine again (acc9:=acc ++ [d8]) I9 (E8.Gn hD) (G8.grow Bm) ⟨S8.1,λj d q=>let⟨v,a,b⟩:=S8.2 j d q;⟨v,a,Rel.grow Bm d b⟩⟩ bG ?_ (by simp;omega) h9 (by simp)
    exact aj.append (aj.grow Bm _ Gw) (by simp only[aj];exact⟨v8,[],rfl,Rel.grow Bm _ r8,rfl⟩)
 . have ei:i=L:=by omega
   subst ei
   rw[ac7]at hf
   obtain⟨xs,mR,LC,rfl,rfl⟩:=zE hf
   obtain⟨st,go⟩:=j1 xs mR LC
   refine bf (T.done X' rfl rfl rfl hc _ [] s σ H _ I (pD Gp) ti (st (ZA _))) λr s4 ⟨hr,I4⟩=>?_
   subst hr
   exact Zu (fin s4 σ H ιo vs I4 Gp E1 G1 Gq (by simpa using vf))
noncomputable def bP (mk:List D->G->Option (D×G))(fi:FI)(fr:List (Option Nat))(t:FG)(c:FT)(e:FE):FE:=λσ g=>(fi σ g).bind λr=>if aD r.1.length=true then(a_ t c e r.1 (bZ fr σ) r.2).bind λq=>mk q.1 q.2 else none
noncomputable def jK (mk:List D->G->Option (D×G))(fi:qo)(fr:List (Option Nat))(t:FG)(c:FT)(e:FE):FE:=λσ g=>(fi σ g).bind λr=>if aD r.2.1=true then(dh r.1 r.2.1 t c e r.2.1 (bZ fr σ) r.2.2).bind λq=>mk q.1 q.2 else none
noncomputable def b4 (ds:List D)(g:G):Option (D×G):=some (.lst ds,g)
noncomputable def kB (ds:List D)(g:G):Option (D×G):=some (.ref g.length,g ++ [ds])
theorem bR.sub {K H ι σd σ}(fr:List (Option Nat))(h:bR K H ι σd σ):bR K H ι (bZ fr σd) (bZ fr σ):=by
 refine⟨by simp[bZ],λj d q=>?_⟩
 unfold bZ at q ⊢
 rw[ZG]at q ⊢
 cases hf:fr[j]? with
 |none=>rw[hf]at q;cases q
 |some o =>
  rw[hf]at q
  cases o with
  |none=>cases q
  |some i =>
   have a:σd[i]? = some (some d):=by
    simp only[aaV,aaA]at q
    cases z:σd[i]? with
    |none=>rw[z]at q;cases q
    |some w=>rw[z]at q;simp at q;rw[q]
   obtain⟨v,c,b⟩:=h.2 i d a
   exact⟨v,by simp[c],b⟩
section
variable {X:Cx}{tg iter elt:Expr}{ifs:List Expr}{scope:Scope}{pos cK:Pos}{N:List Str}{fr:List (Option Nat)}{fi:qo}{t:FG}{c:FT}{e:FE}
theorem mS {pins:List (Addr×Obj)}{s:Zq}{σ:L2.St}{H:Hp}{ι:Ix}{σd:Sg}{g g1 g':G}{all:List D}{sh:Sh}{L:Nat}{use:Option (Value->Sem Unit)}{Q:Value->Zq->Prop}
  (gE:X.xe=λ_ _=>False) (hc:X.calm=true) (ok:dU X N fr scope) (hit:ve X tg iter fi) (cF:∀C s3 H fp pins,DG (ba X N scope C s3 H fp pins) tg t/\gu (ba X N scope C s3 H fp pins) ifs c/\DE (ba X N scope C s3 H fp pins) elt e)
  (hs:∀x,aaf iter X.env x=pure x) (I:Inv X pins σ H s) (G0:az X.kw H ι g) (S0:bR X.kw H ι σd σ) (h1:fi σd g=some (sh,L,g1)) (hz:aD L=true) (h2:dh sh L t c e L (bZ fr σd) g1=some (all,g'))
  (fin:∀s' H' ιo vs Dl C,Inv X pins σ H' s'->gq X pins H' C->(∃m,s'.heap.Ns C m)->Ext H ι H' ιo->az X.kw H' (Ix.hide ιo Dl) g'->H' Dl=some (.lst vs)->aj X.kw H' (Ix.hide ιo Dl) all vs->Dl ∉ ιo.hd->H Dl=none->compPost (model X.prog X.w) X.A X.xe use Q (.ref Dl) C (.ok .next) s'):
  wpAny (model X.prog X.w) X.A (comprehension (.ListComp elt [⟨tg,iter,ifs,0⟩] scope pos) scope X.env cK (newList []) false (eval iter X.env) use) Q X.xe s:=by
 have free:∀x∈scope.names,x.2 = .free->∃c,X.env.cells.lookup x.1=some c:=λx hx hk=>I.ok.has x.1 (ok.free x hx hk).2
 refine wpAny_comprehension_free (use:=use) rfl hs (tU free) ok.kind ok.names (bf (hit.un pins s σ H (λJ H'=>∃h,Ext H ι H' h/\az X.kw H' h g1/\zD X.kw J H' h sh L) I ⟨ι,σd,g,sh,L,g1,G0,S0,h1,λH1 h J n r J1=>⟨h,n,r,J1⟩⟩) λxv s1 xV=>bf xV λKr s2 q2=>?_)
 obtain⟨it,fp,tn,J,H1,rfl,I1,T,t1,f1,h,n,r,J1⟩:=q2
 refine aaU ?_
 have l:H1 s2.heap.objs.size=none:=I1.bo.fresh (ZA _)
 generalize LF:({ s2 with heap:=s2.heap.push { cls:=.type "list",dict:=none,data:=.seq ([]:List Value).toArray } }:Zq)=s3
 have y:Inv X pins σ (upd H1 s2.heap.objs.size (.lst [])) s3:=by
  rw[<- LF]
  exact I1.laid (t':=s2.toks) (λb u e=>Zy _ e) (ZA _) ⟨aab _,[],0,.nil,ZF _ rfl⟩
 have k3:∀b o,s2.heap.get? b=some o->s3.heap.get? b=some o:=λb o e=>by rw[<- LF];exact Zy _ e
 have Rg:s3.heap.objs.size=s2.heap.objs.size+1:=by rw[<- LF];exact ads ..
 have xU:∀b∈fp,b<s2.heap.objs.size:=λb f=>let⟨o,eo,_⟩:=T.obj _ _ t1 b f;ZH eo
 have i:∀b∈fp,gq X pins (upd H1 s2.heap.objs.size (.lst [])) b:=λb f=>⟨by rw[aT (ZX (xU b f))];exact(f1 b f).1,(f1 b f).2⟩
 refine xy (Pg y) λh4 T9 k4 kc=>?_
 have I4:=zC (tk:=s3.toks) ok y i (λb f=>by rw[Rg];exact aaI (xU b f)) T9 k4 kc
 obtain⟨hg,hi,he⟩:=cF s3.heap.objs.size s3 (upd H1 s2.heap.objs.size (.lst [])) fp pins
 have t4:tn 0 h4:=T.keep _ _ _ t1 λb f o e=>k4 b o (k3 b o e)
 have fx:∀b∈fp,gq (ba X N scope s3.heap.objs.size s3 (upd H1 s2.heap.objs.size (.lst [])) fp pins) [] (upd H1 s2.heap.objs.size (.lst [])) b:=λb f=>by
  refine⟨(i b f).1,?_,?_,.inl f,?_,?_⟩
  . exact ZX (by rw[Rg];exact aaI (xU b f))
  . exact I4.ok.uC b f
  . exact(I4.ok.J6 b f).2
  . intro p hp
    have Gk:p∈X.pn++pins:=by
      have q:p∈(X.pn++pins) ++ []:=hp
      simpa using q
    exact(f1 b f).2.2.2.2.2 p Gk
 have loop:acS (model X.prog X.w) X.A (.compLoop (.ListComp elt [⟨tg,iter,ifs,0⟩] scope pos) 0 (.ref it) (.ref s2.heap.objs.size) (compEnvC scope (cellsOf scope X.env s3.heap.objs.size) s3.heap.objs.size X.env))
    (compPost (model X.prog X.w) X.A X.xe use Q (.ref s2.heap.objs.size) s3.heap.objs.size) { s3 with heap:=h4 }:=by
  refine Bl (X':=ba X N scope s3.heap.objs.size s3 (upd H1 s2.heap.objs.size (.lst [])) fp pins) (all:=all) (g':=g') rfl hc T fx J1 l (aD.le hz) hg hi he ?_ _ _ _ h (bZ fr σd) g1 I4 t4 (λb f=>(i b f).1) ((Ext.refl (H:=H1) (ι:=h)).Gn l) (r.hide l) ?_ bG h2
  . intro s' σ' H' ιo vs k Y5 E' G' WZ r'
    have I5:Inv X pins σ H' s':=y.OI (ch:=fp) k.os k.base k.bo k.bare λb f=>⟨(i b f).2.2.2.1,(i b f).2.1,(i b f).2.2.2.2.1,(i b f).2.2.2.2.2⟩
    obtain⟨m,hm,_⟩:=k.loc
    refine fin s' H' ιo vs _ _ I5 ?_ ⟨m,hm⟩ (n.trans E') G' WZ r' ?_ ?_
    . have z:=y.mJ (H':=H') (b:=s3.heap.objs.size) (ZA _) k.free
      exact z
    . rw[E'.cH];exact r.kL l
    . cases q:H s2.heap.objs.size with
      |none=>rfl
      |some o=>exact absurd l (n.there _ (by rw[q];simp))
  . have S1:bR X.kw H1 h (bZ fr σd) (bZ fr σ):=(S0.ext n).sub fr
    exact⟨S1.1,λj d q=>let⟨v,a,b⟩:=S1.2 j d q;⟨v,a,Rel.hide l d b⟩⟩
 exact codeAny_compStart_list loop (T.self _ 0 _ _ _ t4 loop)
theorem iq {H ι H' ιo K g' all vs Dl d gg Q}(e:Ext H ι H' ιo)(G':az K H' (Ix.hide ιo Dl) g')(hD:H' Dl=some (.lst vs))(r:aj K H' (Ix.hide ιo Dl) all vs)(hn:Dl ∉ ιo.hd)(hm:b4 all g'=some (d,gg))(p:fY K H ι d gg Q):Q (.ref Dl) H':=by
 cases hm
 refine p H' ιo _ e G'.show ?_
 simp only[Rel]
 exact⟨Dl,vs,rfl,.inl ⟨.inl hD,(G'.cH Dl ZR).1,hn⟩,aj.show _ r⟩
end
theorem az.LG {K H ι g p xs vs}(h:az K H (Ix.hide ι p) g)(hp:H p=some (.lst vs))(hn:p ∉ ι.hd)(r:aj K H (Ix.hide ι p) xs vs):az K H (ι.more p 0) (g ++ [xs]):=by
 have W0:p ∉ ι.ix:=(h.cH p ZR).1
 have Rh:∀{n:Nat} {a:Addr} {b:Bool},cR (Ix.hide ι p) n a b->cR (ι.more p 0) n a b:=fun {n a b} c=>by
   have s:n < ι.ix.length:=(Zr.mp c.1).1
   refine⟨?_,?_⟩
   . show(ι.ix ++ [p])[n]? = some a
     rw[Zx s];exact c.1
   . show kb (if n=ι.ix.length then 0 else ι.kd n)=b
     rw[if_neg (by omega)];exact c.2
 have up:∀(d:D) (v:V),Rel K H (Ix.hide ι p) d v->Rel K H (ι.more p 0) d v:=λd=>by
   refine D.rec (motive_1:=λd=>∀v,Rel K H (Ix.hide ι p) d v->Rel K H (ι.more p 0) d v) (motive_2:=λds=>∀vs,aj K H (Ix.hide ι p) ds vs->aj K H (ι.more p 0) ds vs)
     ?_ ?_ ?_ ?_ ?_ ?_ ?_ ?_ ?_ ?_ ?_ ?_ d
   . intro v h;simpa[Rel]using h
   . intro b v h;simpa[Rel]using h
   . intro b v h;simpa[Rel]using h
   . intro b v h;simpa[Rel]using h
   . intro xs ih v h
     simp only[Rel]at h ⊢
     obtain⟨a,us,f,c,j⟩:=h
     refine⟨a,us,f,?_,ih _ j⟩
     rcases c with⟨c,n⟩|c
     . refine .inl ⟨c,λz=>?_⟩
       rcases ZN.mp z with z|z
       . exact n z
       . simp at z;subst z
         rcases c with c|⟨o,c⟩<;>(rw[hp]at c;cases c)
     . exact .inr c
   . intro xs ih v h
     simp only[Rel]at h ⊢
     obtain⟨a,us,f,c,j⟩:=h
     refine⟨a,us,f,?_,ih _ j⟩
     rcases c with⟨c,n,k⟩|c
     . refine .inl ⟨c,λz=>?_,λz=>k (ZV _ z)⟩
       rcases ZN.mp z with z|z
       . exact n z
       . simp at z;subst z;exact k ZR
     . exact .inr c
   . intro v h
     simp only[Rel]at h ⊢
     obtain⟨a,f,c,j⟩:=h
     refine⟨a,f,c,λz=>?_⟩
     rcases ZN.mp z with z|z
     . exact j z
     . simp at z;subst z;rw[hp]at c;cases c
   . intro n v h
     simp only[Rel]at h ⊢
     obtain⟨a,f,c⟩:=h
     exact⟨a,f,Rh c⟩
   . intro n v h
     simp only[Rel]at h ⊢
     obtain⟨a,f,c⟩:=h
     exact⟨a,f,Rh c⟩
   . intro b v h;simpa[Rel]using h
   . intro vs h;simpa[aj]using h
   . intro d ds W5 LH vs h
     simp only[aj]at h ⊢
     obtain⟨v,u,f,c,j⟩:=h
     exact⟨v,u,f,W5 v c,LH u j⟩
 have x:∀(ds:List D) (vs:List V),aj K H (Ix.hide ι p) ds vs->aj K H (ι.more p 0) ds vs:=λds=>by
   induction ds with
   |nil=>intro vs h;simpa[aj]using h
   |cons d ds ih =>
     intro vs h
     simp only[aj]at h ⊢
     obtain⟨v,u,f,c,j⟩:=h
     exact⟨v,u,f,up d v c,ih u j⟩
 refine⟨?_,by simp[<- h.len,Ix.hide,Ix.more],λb m=>⟨λz=>?_,(h.cH b (ZV _ m)).2⟩,λi ys q=>?_⟩
 . show(ι.ix ++ [p]).Nodup
   rw[abS]
   refine⟨h.nd,by simp,λa ha b m=>?_⟩
   simp at m;subst m
   intro e;subst e;exact W0 ha
 . rcases ZN.mp z with z|z
   . exact(h.cH b (ZV _ m)).1 z
   . simp at z;subst z;exact hn m
 . have s:ι.ix.length=g.length:=h.len
   by_cases hi:i<g.length
   . rw[Zx hi]at q
     obtain⟨a,o,us,h1,h2,ov,h3⟩:=h.at_ i ys q
     refine⟨a,o,us,(by show(ι.ix ++ [p])[i]? = some a;rw[Zx (by rw[s];exact hi)];exact h1),h2,?_,x _ _ h3⟩
     show OV K _ _ (if i=ι.ix.length then 0 else ι.kd i) o us
     rw[if_neg (by omega)];exact ov
   . rw[ZS (by omega)]at q
     have y:i-g.length=0:=by
       cases e:i-g.length with
       |zero=>rfl
       |succ k=>rw[e]at q;simp at q
     rw[y]at q
     have e:xs=ys:=by simpa using q
     subst e
     refine⟨p,_,vs,?_,hp,?_,x _ _ r⟩
     . show(ι.ix ++ [p])[i]? = some p
       rw[ZS (by rw[s];omega),s,y];rfl
     . show OV K _ _ (if i=ι.ix.length then 0 else ι.kd i) _ vs
       rw[if_pos (by omega)];exact .l vs
theorem vk {H ι H' ιo K g' all vs Dl d gg Q}(e:Ext H ι H' ιo)(hf:H Dl=none)(G':az K H' (Ix.hide ιo Dl) g')(hD:H' Dl=some (.lst vs))(r:aj K H' (Ix.hide ιo Dl) all vs)(hn:Dl ∉ ιo.hd)(hm:kB all g'=some (d,gg))(p:fY K H ι d gg Q):Q (.ref Dl) H':=by
 cases hm
 obtain⟨m,em,c⟩:=e.more
 refine p H' (ιo.more Dl 0) _ ⟨e.same,e.there,⟨m ++ [Dl],by show ιo.ix ++ [Dl]=_;rw[em,aak],λa z=>?_⟩,e.cH,λi b=>?_⟩ (G'.LG hD hn r) ?_
 . rcases ZN.mp z with z|z
   . exact c a z
   . simp at z;subst z;exact hf
 . show(if i=ιo.ix.length then 0 else ιo.kd i)=ι.kd i
   rw[if_neg (by rw[em,ZE];omega)];exact e.mh i b
 . simp only[Rel]
   exact⟨Dl,rfl,cR.new G'.len⟩
section
variable {X:Cx}{tg iter elt:Expr}{ifs:List Expr}{scope:Scope}{pos cK:Pos}{N:List Str}{fr:List (Option Nat)}{fi:qo}{t:FG}{c:FT}{e:FE}
theorem vm (gE:X.xe=λ_ _=>False)(hc:X.calm=true)(ok:dU X N fr scope)(hit:ve X tg iter fi)(cF:∀C s3 H fp pins,DG (ba X N scope C s3 H fp pins) tg t/\gu (ba X N scope C s3 H fp pins) ifs c/\DE (ba X N scope C s3 H fp pins) elt e)
   (hs:∀x,aaf iter X.env x=pure x:=by intro _;rfl):DE X (.ListComp elt [⟨tg,iter,ifs,0⟩] scope pos) (jK b4 fi fr t c e):=.of (by
 intro pins s σ H Q I h
 obtain⟨ι,σd,g,d,gg,G0,v,h,p⟩:=h
 obtain⟨⟨sh,L,g1⟩,h1,h⟩:=bind_some h
 dsimp only at h
 split at h
 . rename_i hz
   obtain⟨⟨all,g'⟩,a,h⟩:=bind_some h
   rw[eval_ListComp]
   refine mS (use:=none) gE hc ok hit cF hs I G0 v h1 hz a λl f ιo vs j C u fC ⟨m,hm⟩ i n hD r hn qp=>?_
   refine⟨m,hm,λxX y=>⟨.ref j,f,?_,rfl,iq i n hD r hn h p⟩⟩
   obtain⟨f0,f1,f2,k,f4,z⟩:=fC
   exact u.turned (t':=l.toks) (λb o q e=>y.extBut b o q e) f0 f1 k f4 z
 . cases h)
theorem mT {mk:List D->G->Option (D×G)}{i:Nat}{x:Str}{px mU:Pos}(W6:∀{H ι H' ιo g' all vs Dl d gg Q},Ext H ι H' ιo->H Dl=none->az X.kw H' (Ix.hide ιo Dl) g'->H' Dl=some (.lst vs)->aj X.kw H' (Ix.hide ιo Dl) all vs->Dl ∉ ιo.hd->mk all g'=some (d,gg)->fY X.kw H ι d gg Q->Q (.ref Dl) H')
   (gE:X.xe=λ_ _=>False) (hc:X.calm=true) (ok:dU X N fr scope) (hit:ve X tg iter fi) (cF:∀C s3 H fp pins,DG (ba X N scope C s3 H fp pins) tg t/\gu (ba X N scope C s3 H fp pins) ifs c/\DE (ba X N scope C s3 H fp pins) elt e)
   (hN:X.N.Nodup) (hi:X.N[i]? = some x) (hx:Loc X.env.scope x)
   (qq:ab0 (.ListComp elt [⟨tg,iter,ifs,0⟩] scope pos) (some (.Name x px)) mU.line X.env=pure true)
   (hs:∀x,aaf iter X.env x=pure x) (hf:X.fn x=true\/X.env.scope.names.lookup x=some .local):DS X (.Assign [.Name x px] (.ListComp elt [⟨tg,iter,ifs,0⟩] scope pos) mU) (aC (jK mk fi fr t c e) (gN i)):=.of (by
 intro pins s σ H y I h
 obtain⟨ι,n,g,r,b7,gg,G0,q,h0,p⟩:=h
 obtain⟨⟨d,W7⟩,xV,hr⟩:=bind_some h0
 have cC:some (F.nx,n.set i (some d),W7)=some (r,b7,gg):=hr
 clear h0
 obtain⟨⟨sh,L,g1⟩,h1,f⟩:=bind_some (x:=fi n g) xV
 dsimp only at f
 split at f
 . rename_i hz
   obtain⟨⟨all,g'⟩,h2,h4⟩:=bind_some f
   rw[exec_Assign_Name_used _ _ _ _ qq]
   refine Zn (adD (Zn ?_))
   show wpAny _ X.A (do let _ <- comprehension (.ListComp elt [⟨tg,iter,ifs,0⟩] scope pos) scope X.env _ (newList []) false (eval iter X.env) (some (ab9 (.Name x px) X.env))) _ _ s
   refine Zn (acY (mS (use:=some (ab9 (.Name x px) X.env)) (Q:=λ_ k=>SP X pins y .next k) gE hc ok hit cF hs I G0 q h1 hz h2 λk H' ιo vs Dl C I' fC ⟨m,hm⟩ e' G' hD r hn qp=>?_) (λ_ k hq=>Zu (Zu hq)) λ_ _ e=>e)
   show wpAny _ X.A (ab9 (.Name x px) X.env (.ref Dl)) _ _ _
   refine wpAny_assign_Name (sA I' hN hi hx (v:=.ref Dl) rfl (λA3 j ⟨a,sb,l⟩=>?_) hf)
   obtain⟨f0,f1,f2,f3,f4,f5⟩:=fC
   have W8:C≠a:=by
    rcases l with rfl|l
    . exact f1
    . exact λz=>f4 _ _ l z.symm
   obtain⟨oc,es,ep,ho,rest⟩:=hm
   refine⟨m,⟨oc,es,ep,(sb.2 C W8).trans ho,rest⟩,λxX vn=>?_⟩
   refine⟨σ.set i (some (.ref Dl)),H',j.turned (t':=A3.toks) (λb o hb e=>vn.extBut b o hb e) f0 f1 f3 f4 f5,?_⟩
   cases cC
   exact W6 (Q:=λv H'=>y.nx (σ.set i (some v)) H') e' qp G' hD r hn h4 λH2 ι2 v u G2 r2=>p H2 ι2 u G2 _ ((q.ext u).set r2 i)
 . cases f)
theorem sQ (gE:X.xe=λ_ _=>False)(hc:X.calm=true)(ok:dU X N fr scope)(hit:ve X tg iter fi)(cF:∀C s3 H fp pins,DG (ba X N scope C s3 H fp pins) tg t/\gu (ba X N scope C s3 H fp pins) ifs c/\DE (ba X N scope C s3 H fp pins) elt e)
   (hs:∀x,aaf iter X.env x=pure x:=by intro _;rfl):DE X (.ListComp elt [⟨tg,iter,ifs,0⟩] scope pos) (jK kB fi fr t c e):=.of (by
 intro pins s σ H Q I h
 obtain⟨ι,σd,g,d,gg,G0,v,h,p⟩:=h
 obtain⟨⟨sh,L,g1⟩,h1,h⟩:=bind_some h
 dsimp only at h
 split at h
 . rename_i hz
   obtain⟨⟨all,g'⟩,a,h⟩:=bind_some h
   rw[eval_ListComp]
   refine mS (use:=none) gE hc ok hit cF hs I G0 v h1 hz a λl f ιo vs j C u fC ⟨m,hm⟩ i n hD r hn qp=>?_
   refine⟨m,hm,λxX y=>⟨.ref j,f,?_,rfl,vk i qp n hD r hn h p⟩⟩
   obtain⟨f0,f1,f2,k,f4,z⟩:=fC
   exact u.turned (t':=l.toks) (λb o q e=>y.extBut b o q e) f0 f1 k f4 z
 . cases h)
end
noncomputable def Bn (fi:FI):qo:=λσ g=>(fi σ g).map λr=>(λ_=>some r.1,r.1.length,r.2)
theorem mV {X:Cx}{tg iter:Expr}{fi:FI}(h:DI X tg iter fi):ve X tg iter (Bn fi):=.of (PI.imp h.un λσ H Q q=>by
 obtain⟨ι,b,g,v,L,y,G0,m,f,p⟩:=q
 obtain⟨⟨ds,g1⟩,r,e⟩:=ZM.mp f
 cases e
 exact⟨ι,b,g,ds,g1,G0,m,r,λj o J a k n=>p j o J a k λi H1 l g2 u s xs c x=>by
  cases c
  exact n i H1 l g2 u s⟩)
theorem rM {ds:List D}{t:FG}{c:FT}{e:FE}:∀(k:Nat) (σ:Sg) (g:G),k<=ds.length->dh (λ_=>some ds) ds.length t c e k σ g=a_ t c e (ds.drop (ds.length-k)) σ g
 | 0,σ,g,_=>by simp[dh,a_]
 |k+1,σ,g,h=>by
  have a:ds.length-(k+1)<ds.length:=by omega
  rw[aaT a,show ds.length-(k+1)+1=ds.length-k by omega]
  simp only[dh,a_,Zw,if_true,Zs a]
  refine congrArg _ (funext λq=>congrArg _ (funext λb=>?_))
  split
  . refine congrArg _ (funext λr=>?_)
    rw[rM k _ _ (by omega)]
  . rw[rM k _ _ (by omega)]
theorem nS {mk:List D->G->Option (D×G)}{fi:FI}{fr:List (Option Nat)}{t:FG}{c:FT}{e:FE}:bP mk fi fr t c e=jK mk (Bn fi) fr t c e:=by
 funext σ g
 unfold bP jK Bn
 cases fi σ g with
 |none=>rfl
 |some r =>
  simp only[Zw,aaV]
  rw[rM _ _ _ (ZA _),ac7,aex]
section
variable {X:Cx}{tg iter elt:Expr}{ifs:List Expr}{scope:Scope}{pos cK:Pos}{N:List Str}{fr:List (Option Nat)}{fi:FI}{t:FG}{c:FT}{e:FE}
theorem Iv (gE:X.xe=λ_ _=>False)(hc:X.calm=true)(ok:dU X N fr scope)(hit:DI X tg iter fi)(cF:∀C s3 H fp pins,DG (ba X N scope C s3 H fp pins) tg t/\gu (ba X N scope C s3 H fp pins) ifs c/\DE (ba X N scope C s3 H fp pins) elt e)
  (hs:∀x,aaf iter X.env x=pure x:=by intro _;rfl):DE X (.ListComp elt [⟨tg,iter,ifs,0⟩] scope pos) (bP b4 fi fr t c e):=by
 rw[nS];exact vm gE hc ok (mV hit) cF hs
theorem zG {i:Nat}{x:Str}{px mU:Pos}(gE:X.xe=λ_ _=>False)(hc:X.calm=true)(ok:dU X N fr scope)(hit:DI X tg iter fi)(cF:∀C s3 H fp pins,DG (ba X N scope C s3 H fp pins) tg t/\gu (ba X N scope C s3 H fp pins) ifs c/\DE (ba X N scope C s3 H fp pins) elt e)
  (hN:X.N.Nodup) (hi:X.N[i]? = some x) (hx:Loc X.env.scope x) (qq:ab0 (.ListComp elt [⟨tg,iter,ifs,0⟩] scope pos) (some (.Name x px)) mU.line X.env=pure true:=by rfl)
  (hs:∀x,aaf iter X.env x=pure x:=by intro _;rfl) (hf:X.fn x=true\/X.env.scope.names.lookup x=some .local:=by first|exact .inl rfl|exact .inr rfl|assumption):
  DS X (.Assign [.Name x px] (.ListComp elt [⟨tg,iter,ifs,0⟩] scope pos) mU) (aC (bP b4 fi fr t c e) (gN i)):=
 by rw[nS];exact mT (λh _ b hD r f a p=>iq h b hD r f a p) gE hc ok (mV hit) cF hN hi hx qq hs hf
theorem xA {i:Nat}{x:Str}{px mU:Pos}(gE:X.xe=λ_ _=>False)(hc:X.calm=true)(ok:dU X N fr scope)(hit:DI X tg iter fi)(cF:∀C s3 H fp pins,DG (ba X N scope C s3 H fp pins) tg t/\gu (ba X N scope C s3 H fp pins) ifs c/\DE (ba X N scope C s3 H fp pins) elt e)
  (hN:X.N.Nodup) (hi:X.N[i]? = some x) (hx:Loc X.env.scope x) (qq:ab0 (.ListComp elt [⟨tg,iter,ifs,0⟩] scope pos) (some (.Name x px)) mU.line X.env=pure true:=by rfl)
  (hs:∀x,aaf iter X.env x=pure x:=by intro _;rfl) (hf:X.fn x=true\/X.env.scope.names.lookup x=some .local:=by first|exact .inl rfl|exact .inr rfl|assumption):
  DS X (.Assign [.Name x px] (.ListComp elt [⟨tg,iter,ifs,0⟩] scope pos) mU) (aC (bP kB fi fr t c e) (gN i)):=
 by rw[nS];exact mT (λh b f hD r j a p=>vk h b f hD r j a p) gE hc ok (mV hit) cF hN hi hx qq hs hf
end
noncomputable def jf (sh:Sh)(L:Nat)(t:FG)(b:FS):Nat->FS
 | 0,σ,g=>(sh g).bind λxs=>if xs.length=L then some (.nx,σ,g)else none
 |r+1,σ,g=>(sh g).bind λxs=>if xs.length=L then(xs[L-(r+1)]?).bind λd=>(t d σ g).bind λq=>(b q.1 q.2).bind λa=>match a.1 with
   |.nx=>jf sh L t b r a.2.1 a.2.2
   |.ct=>jf sh L t b r a.2.1 a.2.2
   |.bk=>some (.nx,a.2.1,a.2.2)
   |.rt d=>some (.rt d,a.2.1,a.2.2)
  else none
noncomputable def zH (fi:qo)(t:FG)(b:FS):FS:=λσ g=>(fi σ g).bind λr=>jf r.1 r.2.1 t b r.2.1 σ r.2.2
section
variable {X:Cx}{tg:Expr}{pos:Pos}
inductive D8 (X:Cx)(t:FG)(b:FS)(sh:Sh)(L:Nat)(H1:Hp)(ι1:Ix)(r:F)(b7:Sg)(g':G)(i:Nat)(σ2:L2.St)(H2:Hp):Prop
 |mk (ι2:Ix) (ql:Sg) (g2:G) (e2:Ext H1 ι1 H2 ι2) (G2:az X.kw H2 ι2 g2) (S2:bR X.kw H2 ι2 ql σ2) (hf:jf sh L t b (L-i) ql g2=some (r,b7,g')):D8 X t b sh L H1 ι1 r b7 g' i σ2 H2
theorem Iw {iter:Expr}{body:List Stmt}{fi:qo}{t:FG}{b:FS}(hp:adw (model X.prog X.w) X.A X.env X.xe)(hc:X.calm=true)(hi:ve X tg iter fi)(hg:DG X tg t)(hb:kN X body b)
   (hs:∀x,aaf iter X.env x=pure x:=by intro _;rfl):DS X (.For tg iter body [] pos) (zH fi t b):=.of (PS.imp (Ku hp hc hi.un hg.un hb.un hs) λDn σ H h=>by
 obtain⟨ι,σd,g,r,b7,g',G0,S0,h,p⟩:=h
 obtain⟨⟨q,L,g1⟩,h1,h⟩:=bind_some h
 refine⟨ι,σd,g,q,L,g1,G0,S0,h1,λH1 u J c G1 J1=>?_⟩
 dsimp only at h
 refine⟨λi m s k=>m=L-i/\i<=L/\D8 X t b q L H1 u r b7 g' i s k,
   ⟨L,by simp,aab _,u,σd,g1,Ext.refl,G1,S0.ext c,by simpa using h⟩,?_⟩
 rintro i m s k ⟨rfl,hi,z,ql,g2,e2,G2,S2,hf⟩
 have j1:=J1 i k z g2 e2.eZ G2
 by_cases bU:i<L
 . rw[show L-i=(L-(i+1))+1 by omega]at hf
   simp only[jf]at hf
   obtain⟨xs,hx,hf⟩:=bind_some hf
   split at hf
   . rename_i o
     obtain⟨d0,vg,hf⟩:=bind_some hf
     rw[show L-(L-(i+1)+1)=i by omega]at vg
     obtain⟨⟨σ3,g3⟩,h3,hf⟩:=bind_some hf
     obtain⟨⟨r4,n,g4⟩,h4,hf⟩:=bind_some hf
     obtain⟨st,go⟩:=j1 xs hx o
     obtain⟨go,yl⟩:=go d0 vg
     refine .inr ⟨go,λσ5 H5=>D8 X t b q L H1 u r b7 g' (i+1) σ5 H5,?_,?_⟩
     . rintro σ5 H5 ⟨ι5,W9,g5,e5,G5,S5,h5⟩
       exact⟨L-(i+1),by omega,rfl,bU,ι5,W9,g5,e5,G5,S5,h5⟩
     . intro x H' y
       obtain⟨e3,G3,r3⟩:=yl x H' y
       refine⟨z,ql,g2,d0,σ3,g3,G3,S2.ext e3,r3,h3,λH6 ι6 σ6 e6 G6 S6=>?_⟩
       refine⟨ι6,σ3,g3,r4,n,g4,G6,S6,h4,λH7 f e7 j=>?_⟩
       have l:=e2.trans (e3.trans (e6.trans e7))
       cases r4 with
       |nx=>exact λσ' a=>⟨f,n,g4,l,j,a,hf⟩
       |ct=>exact λσ' a=>⟨f,n,g4,l,j,a,hf⟩
       |bk=>cases hf;exact λσ' a=>p H7 f (c.trans l) j σ' a
       |rt d=>cases hf;exact λv r7=>p H7 f (c.trans l) j v r7
   . cases hf
 . have e:i=L:=by omega
   subst e
   rw[ac7]at hf
   simp only[jf]at hf
   obtain⟨xs,hx,hf⟩:=bind_some hf
   split at hf
   . rename_i o
     cases hf
     obtain⟨st,_⟩:=j1 xs hx o
     exact .inl ⟨st (ZA _),p k z (c.trans e2) G2 s S2⟩
   . cases hf)
end
theorem xY {ds:List D}{t:FG}{b:FS}:∀(k:Nat) (σ:Sg) (g:G),k<=ds.length->jf (λ_=>some ds) ds.length t b k σ g=forL t b (ds.drop (ds.length-k)) σ g
 | 0,σ,g,_=>by simp[jf,forL]
 |k+1,σ,g,h=>by
  have a:ds.length-(k+1)<ds.length:=by omega
  rw[aaT a,show ds.length-(k+1)+1=ds.length-k by omega]
  simp only[jf,forL,Zw,if_true,Zs a,xY k _ _ (acE h)]<;>rfl
theorem LI {fi:FI}{t:FG}{b:FS}:gr fi t b=zH (Bn fi) t b:=by
 funext σ g
 unfold gr zH Bn
 cases fi σ g with
 |none=>rfl
 |some r =>
  simp only[Zw,aaV]
  rw[xY _ _ _ (ZA _),ac7,aex]
theorem LJ {X:Cx}{tg:Expr}{pos:Pos}{iter:Expr}{body:List Stmt}{fi:FI}{t:FG}{b:FS}(hp:adw (model X.prog X.w) X.A X.env X.xe)(hc:X.calm=true)(hi:DI X tg iter fi)(hg:DG X tg t)(hb:kN X body b)
  (hs:∀x,aaf iter X.env x=pure x:=by intro _;rfl):DS X (.For tg iter body [] pos) (gr fi t b):=by
 rw[LI];exact Iw hp hc (mV hi) hg hb hs
noncomputable def cI (c:Int->Int->Bool)(f:Int->Int->Int)(d1 d2:D)(g:G):Option (D×G):=match d1,d2 with
 |.int i,.int j=>if c i j=true then some (.int (f i j),g)else none
 |_,_=>none
noncomputable def qr (f:Int->Int->Bool)(d1 d2:D)(g:G):Option (D×G):=match d1,d2 with
 |.int i,.int j=>some (.bl (f i j),g)
 |_,_=>none
noncomputable def kh (_ _:Int):Bool:=true
noncomputable def dn (i j:Int):Bool:=acy i.natAbs 18446744073709551615||acy j.natAbs 18446744073709551615
noncomputable def gm (_ j:Int):Bool:=acy 1 j.toNat&&acy j.toNat 1073741823
noncomputable def cj (_ j:Int):Bool:=acy 1 j.toNat
noncomputable def jg (i j:Int):Bool:=(match j with|.ofNat n=>acy n 1000000|.negSucc _=>false)&&acy i.natAbs 18446744073709551615
section
variable {X:Cx}
theorem kQ {f:Value->Value->Sem Value}{C:Int->Int->Prop}{c:Int->Int->Bool}{fi:Int->Int->Int}(h:bO X f (rI C λi j=>.int (fi i j)))(hc:∀i j,c i j=true->C i j):bO X f (dz X.kw (cI c fi)):=by
 intro pins s σ H x y v u Q I k e q
 obtain⟨ι,g,m,l,d,n,G0,a,b,q,p⟩:=q
 cases m with
 |int i =>
  cases l with
  |int j =>
   simp only[Rel]at a b;subst a;subst b
   simp only[cI]at q
   split at q
   . rename_i z
     cases q
     exact h pins s σ H _ _ v u Q I k e ⟨i,j,rfl,rfl,hc i j z,p H ι _ Ext.refl G0 (by simp[Rel])⟩
   . cases q
  |_=>cases q
 |_=>cases q
theorem xZ {g:Int->Int->V}{x y:V}{H:Hp}{Q:VK}(h:rI (λ_ _=>True) g x y H Q):oM g x y H Q:=let⟨i,j,a,b,_,q⟩:=h;⟨i,j,a,b,q⟩
theorem bO.imp {f:Value->Value->Sem Value}{r r':R2}(h:bO X f r)(i:∀x y H Q,r' x y H Q->r x y H Q):bO X f r':=λpins s σ H x y v u Q I a b q=>h pins s σ H x y v u Q I a b (i _ _ _ _ q)
theorem LK:bO X (aaz .Sub) (dz X.kw (cI kh (· - ·))):=kQ (bO.imp Kz λ_ _ _ _=>xZ) λ_ _ _=>trivial
theorem Iy:bO X (aaz .Add) (dz X.kw (cI kh (· + ·))):=kQ (bO.imp Ky λ_ _ _ _=>xZ) λ_ _ _=>trivial
theorem Iz:bO X (aaz .Mult) (dz X.kw (cI dn (· * ·))):=kQ KA λi j h=>by
 unfold dn at h
 simp only[aaa]at h
 rcases h with h|h
 . have:=aaK h
   exact .inl ⟨by omega,by omega⟩
 . have:=aaK h
   exact .inr ⟨by omega,by omega⟩
theorem IA:bO X (aaz .FloorDiv) (dz X.kw (cI gm (· / ·))):=kQ HL λi j h=>by
 unfold gm at h
 simp only[Zv]at h
 have a:=aaK h.1
 have b:=aaK h.2
 exact⟨by omega,by omega⟩
theorem LM:bO X (aaz .Mod) (dz X.kw (cI cj (· % ·))):=kQ KC λi j h=>by
 have a:=aaK (show acy 1 j.toNat=true from h)
 show 0<j
 omega
theorem LN:bO X (aaz .Pow) (dz X.kw (cI jg (λi j=>i ^ j.toNat))):=kQ KD λi j h=>by
 unfold jg at h
 simp only[Zv]at h
 have b:=aaK h.2
 cases j with
 |ofNat n =>
  have a:=aaK (show acy n 1000000=true from h.1)
  exact⟨Int.natCast_nonneg n,(by show((n:Nat):Int)<=1000000;omega),(by omega)⟩
 |negSucc n=>exact absurd h.1 (by simp)
theorem uf {f:Value->Value->Sem Value}{fi:Int->Int->Bool}(h:bO X f (oM λi j=>.bl (fi i j))):bO X f (dz X.kw (qr fi)):=by
 intro pins s σ H x y v u Q I e c q
 obtain⟨ι,g,l,k,d,m,G0,a,b,q,p⟩:=q
 cases l with
 |int i =>
  cases k with
  |int j =>
   simp only[Rel]at a b;subst a;subst b
   cases q
   exact h pins s σ H _ _ v u Q I e c ⟨i,j,rfl,rfl,p H ι _ Ext.refl G0 (by simp[Rel])⟩
  |_=>cases q
 |_=>cases q
theorem Ph:bO X (aam .Lt) (dz X.kw (qr λi j=>decide (i<j))):=uf OX
theorem Pj:bO X (aam .LtE) (dz X.kw (qr λi j=>decide (i<=j))):=uf OY
theorem Pl:bO X (aam .Gt) (dz X.kw (qr λi j=>decide (j<i))):=uf OZ
theorem Pm:bO X (aam .GtE) (dz X.kw (qr λi j=>decide (j<=i))):=uf O0
noncomputable def zI (d:D)(g:G):Option (D×G):=match d with|.int i=>some (.int (-i),g)|_=>none
theorem LO:AX X (unaryOp .USub) (Lh X.kw zI):=by
 intro pins s σ H x v Q I c q
 obtain⟨ι,g,b,d,e,G0,a,q,p⟩:=q
 cases b with
 |int i =>
  simp only[Rel]at a;subst a
  cases q
  exact KG pins s σ H _ v Q I c ⟨i,rfl,p H ι _ Ext.refl G0 (by simp[Rel])⟩
 |_=>cases q
mutual
noncomputable def flat:D->Bool
 |.ref _=>false
 |.de=>false
 |.ax _=>false
 |.fn _=>false
 |.tup xs=>aN xs
 |.lst xs=>aN xs
 |_=>true
noncomputable def aN:List D->Bool
 | []=>true
 |d::ds=>flat d&&aN ds
end
mutual
noncomputable def aB:D->D->Bool
 |.aq,.aq=>true
 |.bl a,.bl b=>a == b
 |.bl a,.int b=>(if a then 1 else 0)== b
 |.int a,.bl b=>a == (if b then 1 else 0)
 |.int a,.int b=>a == b
 |.str a,.str b=>a == b
 |.tup xs,.tup ys=>eh xs ys
 |.lst xs,.lst ys=>eh xs ys
 |_,_=>false
noncomputable def eh:List D->List D->Bool
 | [],[]=>true
 |x::xs,y::ys=>aB x y&&eh xs ys
 |_,_=>false
end
mutual
noncomputable def dep:D->Nat
 |.tup xs=>bS xs+1
 |.lst xs=>bS xs+1
 |_=>0
noncomputable def bS:List D->Nat
 | []=>0
 |d::ds=>max (dep d) (bS ds)
end
mutual
theorem gv:∀d:D,flat d=true->aB d d=true
 |.aq,_=>by simp[aB]
 |.bl _,_=>by simp[aB]
 |.int _,_=>by simp[aB]
 |.str _,_=>by simp[aB]
 |.tup xs,h=>by simp only[aB];exact mW xs h
 |.lst xs,h=>by simp only[aB];exact mW xs h
theorem mW:∀ds:List D,aN ds=true->eh ds ds=true
 | [],_=>by simp[eh]
 |d::ds,h=>by
  simp only[aN,Zv]at h
  simp only[eh,Zv]
  exact⟨gv d h.1,mW ds h.2⟩
end
theorem jL:∀xs ys:List D,eh xs ys=((Zp (min xs.length ys.length)).all (λj=>aB (xs[j]?.getD .aq) (ys[j]?.getD .aq))&&xs.length == ys.length)
 | [],[]=>by simp[eh]
 | [],y::ys=>by simp[eh]
 |x::xs,[]=>by simp[eh]
 |x::xs,y::ys=>by
  simp only[eh,jL xs ys,aas,Nat.succ_min_succ,acI,acN,ZJ,afR,List.all_map,afq,ZK]
  rw[Bool.and_assoc]
  congr 2
  simp
theorem nT {pins:List (Addr×Obj)}{σ:L2.St}{H:Hp}{s:Zq}{a:Addr}{xs ys:List V}(I:Inv X pins σ H s)(h:dR X.kw H a xs)(h':c_ X.kw H a ys):False:=by
 obtain⟨f,_,e,_⟩:=I.tuple h
 obtain⟨b,_,c,_⟩:=I.list h'
 exact SeqAt.ne_of_list_tuple c.isList e rfl
mutual
theorem Rel.inj {pins:List (Addr×Obj)}{σ:L2.St}{H:Hp}{s:Zq}{ι:Ix}(I:Inv X pins σ H s):∀(d1 d2:D) {v:V},flat d1=true->flat d2=true->Rel X.kw H ι d1 v->Rel X.kw H ι d2 v->d1=d2
 |.aq,d2,v,_,f2,r1,r2=>by
  simp only[Rel]at r1;subst r1
  cases d2<;>simp_all[Rel,flat]
 |.bl _,d2,v,_,f2,r1,r2=>by
  simp only[Rel]at r1;subst r1
  cases d2<;>simp_all[Rel,flat]
 |.int _,d2,v,_,f2,r1,r2=>by
  simp only[Rel]at r1;subst r1
  cases d2<;>simp_all[Rel,flat]
 |.str _,d2,v,_,f2,r1,r2=>by
  simp only[Rel]at r1;subst r1
  cases d2<;>simp_all[Rel,flat]
 |.tup xs,d2,v,f1,f2,r1,r2=>by
  simp only[Rel]at r1
  obtain⟨a,j,rfl,f,h⟩:=r1
  cases d2 with
  |tup ys =>
   simp only[Rel]at r2
   obtain⟨i,ws,e,b,c⟩:=r2
   cases e
   have:=I.mI f.sq b.sq
   subst this
   rw[aj.inj I xs ys f1 f2 h c]
  |lst ys =>
   simp only[Rel]at r2
   obtain⟨i,ws,e,b,c⟩:=r2
   cases e
   exact(nT I f.sq b.sq).elim
  |de=>cases f2
  |ref n=>cases f2
  |ax n=>cases f2
  |fn x=>cases f2
  |_=>simp[Rel]at r2
 |.lst xs,d2,v,f1,f2,r1,r2=>by
  simp only[Rel]at r1
  obtain⟨a,j,rfl,f,h⟩:=r1
  cases d2 with
  |lst ys =>
   simp only[Rel]at r2
   obtain⟨i,ws,e,b,c⟩:=r2
   cases e
   have:=I.uH f.sq b.sq
   subst this
   rw[aj.inj I xs ys f1 f2 h c]
  |tup ys =>
   simp only[Rel]at r2
   obtain⟨i,ws,e,b,c⟩:=r2
   cases e
   exact(nT I b.sq f.sq).elim
  |de=>cases f2
  |ref n=>cases f2
  |ax n=>cases f2
  |fn x=>cases f2
  |_=>simp[Rel]at r2
 |.de,d2,v,f1,_,_,_=>by cases f1
 |.ref _,d2,v,f1,_,_,_=>by cases f1
 |.ax _,d2,v,f1,_,_,_=>by cases f1
 |.fn _,d2,v,f1,_,_,_=>by cases f1
theorem aj.inj {pins:List (Addr×Obj)}{σ:L2.St}{H:Hp}{s:Zq}{ι:Ix}(I:Inv X pins σ H s):∀(ds es:List D) {vs:List V},aN ds=true->aN es=true->aj X.kw H ι ds vs->aj X.kw H ι es vs->ds=es
 | [],es,vs,_,_,r1,r2=>by
  simp only[aj]at r1;subst r1
  cases es with
  |nil=>rfl
  |cons e es=>simp[aj]at r2
 |d::ds,es,vs,f1,f2,r1,r2=>by
  simp only[aj]at r1
  obtain⟨v,k,rfl,h,f⟩:=r1
  cases es with
  |nil=>simp[aj]at r2
  |cons e es =>
   simp only[aj]at r2
   obtain⟨i,j,a,c,b⟩:=r2
   cases a
   simp only[aN,Zv]at f1 f2
   rw[Rel.inj I d e f1.1 f2.1 h c,aj.inj I ds es f1.2 f2.2 f b]
end
theorem Rel.x4 {K H ι d v b t}(r:Rel K H ι d v)(rv:RelV v (.float b t)):False:=by
 cases d with
 |aq=>simp only[Rel]at r;subst r;cases rv
 |bl _=>simp only[Rel]at r;subst r;cases rv
 |int _=>simp only[Rel]at r;subst r;obtain⟨t,e⟩:=rv;cases e
 |str _=>simp only[Rel]at r;subst r;obtain⟨t,e⟩:=rv;cases e
 |tup _=>simp only[Rel]at r;obtain⟨a,c,rfl,_⟩:=r;cases rv
 |lst _=>simp only[Rel]at r;obtain⟨a,c,rfl,_⟩:=r;cases rv
 |de=>simp only[Rel]at r;obtain⟨a,rfl,_⟩:=r;cases rv
 |ref _=>simp only[Rel]at r;obtain⟨a,rfl,_⟩:=r;cases rv
 |ax _=>simp only[Rel]at r;obtain⟨a,rfl,_⟩:=r;cases rv
 |fn _=>simp only[Rel]at r;obtain⟨a,rfl,_⟩:=r;cases rv
theorem in1_units (A:Z0):A.in1.units=A.units+1:=rfl
section
open SeqAt
variable {pins:List (Addr×Obj)}{σ:L2.St}{H:Hp}{s:Zq}{ι:Ix}
theorem qt {A:Z0}{s:Zq}{u v:Value}{k:Bool}(h:RcAt A s u v k)(hs:u=v->k=true)(W_:∀b t,u ≠ .float b t):EqAt A s u v k:=λprog w E Q a=>by
 unfold eqBool
 refine Z5 ?_
 refine aap (λc=>?_) (λ_=>?_)
 . rw[hs (eq_of_beq c)]at a
   exact Zn (aa1 (Zu a))
 . cases u with
   |float b t=>exact absurd rfl (W_ b t)
   |_=>exact Zn (h prog w E _ (aba a))
set_option maxHeartbeats 4000000 in
mutual
theorem vp (I:Inv X pins σ H s):∀(d1 d2:D) {A:Z0} {x y:V} {u v:Value},flat d1=true->flat d2=true->Rel X.kw H ι d1 x->Rel X.kw H ι d2 y->RelV x u->RelV y v->A.units+dep d1<cLine->RcAt A s u v (aB d1 d2)
 |.aq,d2,A,x,y,u,v,_,f2,r1,r2,ru,rv,hu=>by
  simp only[Rel]at r1;subst r1;cases ru
  cases d2 with
  |aq=>simp only[Rel]at r2;subst r2;cases rv;simp only[aB];exact .none_none
  |bl b=>simp only[Rel]at r2;subst r2;cases rv;simp only[aB];exact .none_bool b
  |int b=>simp only[Rel]at r2;subst r2;obtain⟨t,rfl⟩:=rv;simp only[aB];exact .none_int b t
  |str b=>simp only[Rel]at r2;subst r2;obtain⟨t,rfl⟩:=rv;simp only[aB];exact .none_str b t
  |tup ys=>simp only[Rel]at r2;obtain⟨k,ws,rfl,f,i⟩:=r2;cases rv;obtain⟨h,_,c,_⟩:=I.tuple f.sq;simp only[aB];exact .none_tuple c (by omega)
  |lst ys=>simp only[Rel]at r2;obtain⟨k,ws,rfl,f,i⟩:=r2;cases rv;obtain⟨h,_,c,_⟩:=I.list f.sq;simp only[aB];exact .none_list c.isList (by omega)
  |_=>cases f2
 |.bl a,d2,A,x,y,u,v,_,f2,r1,r2,ru,rv,hu=>by
  simp only[Rel]at r1;subst r1;cases ru
  cases d2 with
  |aq=>simp only[Rel]at r2;subst r2;cases rv;simp only[aB];exact .bool_none a
  |bl b=>simp only[Rel]at r2;subst r2;cases rv;simp only[aB];exact .bool_bool a b
  |int b=>simp only[Rel]at r2;subst r2;obtain⟨t,rfl⟩:=rv;simp only[aB];exact .bool_int a b t
  |str b=>simp only[Rel]at r2;subst r2;obtain⟨t,rfl⟩:=rv;simp only[aB];exact .bool_str a b t
  |tup ys=>simp only[Rel]at r2;obtain⟨k,ws,rfl,f,i⟩:=r2;cases rv;obtain⟨h,_,c,_⟩:=I.tuple f.sq;simp only[aB];exact .bool_tuple a c (by omega)
  |lst ys=>simp only[Rel]at r2;obtain⟨k,ws,rfl,f,i⟩:=r2;cases rv;obtain⟨h,_,c,_⟩:=I.list f.sq;simp only[aB];exact .bool_list a c.isList (by omega)
  |_=>cases f2
 |.int a,d2,A,x,y,u,v,_,f2,r1,r2,ru,rv,hu=>by
  simp only[Rel]at r1;subst r1;obtain⟨t0,rfl⟩:=ru
  cases d2 with
  |aq=>simp only[Rel]at r2;subst r2;cases rv;simp only[aB];exact .int_none a t0
  |bl b=>simp only[Rel]at r2;subst r2;cases rv;simp only[aB];exact .int_bool a t0 b
  |int b=>simp only[Rel]at r2;subst r2;obtain⟨t,rfl⟩:=rv;simp only[aB];exact .int_int a t0 b t
  |str b=>simp only[Rel]at r2;subst r2;obtain⟨t,rfl⟩:=rv;simp only[aB];exact .int_str a t0 b t
  |tup ys=>simp only[Rel]at r2;obtain⟨k,ws,rfl,f,i⟩:=r2;cases rv;obtain⟨h,_,c,_⟩:=I.tuple f.sq;simp only[aB];exact .int_tuple a t0 c (by omega)
  |lst ys=>simp only[Rel]at r2;obtain⟨k,ws,rfl,f,i⟩:=r2;cases rv;obtain⟨h,_,c,_⟩:=I.list f.sq;simp only[aB];exact .int_list a t0 c.isList (by omega)
  |_=>cases f2
 |.str a,d2,A,x,y,u,v,_,f2,r1,r2,ru,rv,hu=>by
  simp only[Rel]at r1;subst r1;obtain⟨t0,rfl⟩:=ru
  cases d2 with
  |aq=>simp only[Rel]at r2;subst r2;cases rv;simp only[aB];exact .str_none a t0
  |bl b=>simp only[Rel]at r2;subst r2;cases rv;simp only[aB];exact .str_bool a t0 b
  |int b=>simp only[Rel]at r2;subst r2;obtain⟨t,rfl⟩:=rv;simp only[aB];exact .str_int a t0 b t
  |str b=>simp only[Rel]at r2;subst r2;obtain⟨t,rfl⟩:=rv;simp only[aB];exact .str_str a t0 b t
  |tup ys=>simp only[Rel]at r2;obtain⟨k,ws,rfl,f,i⟩:=r2;cases rv;obtain⟨h,_,c,_⟩:=I.tuple f.sq;simp only[aB];exact .str_tuple a t0 c (by omega)
  |lst ys=>simp only[Rel]at r2;obtain⟨k,ws,rfl,f,i⟩:=r2;cases rv;obtain⟨h,_,c,_⟩:=I.list f.sq;simp only[aB];exact .str_list a t0 c.isList (by omega)
  |_=>cases f2
 |.tup xs,d2,A,x,y,u,v,f1,f2,r1,r2,ru,rv,hu=>by
  simp only[Rel]at r1;obtain⟨a,vs,rfl,f,i⟩:=r1;cases ru
  obtain⟨h,p,c,_⟩:=I.tuple f.sq
  simp only[dep]at hu
  cases d2 with
  |aq=>simp only[Rel]at r2;subst r2;cases rv;simp only[aB];exact .tuple_none c (by omega)
  |bl b=>simp only[Rel]at r2;subst r2;cases rv;simp only[aB];exact .tuple_bool b c (by omega)
  |int b=>simp only[Rel]at r2;subst r2;obtain⟨t,rfl⟩:=rv;simp only[aB];exact .tuple_int b t c (by omega)
  |str b=>simp only[Rel]at r2;subst r2;obtain⟨t,rfl⟩:=rv;simp only[aB];exact .tuple_str b t c (by omega)
  |tup ys =>
   simp only[Rel]at r2;obtain⟨k,ws,rfl,m,n⟩:=r2;cases rv
   obtain⟨e,o,l,_⟩:=I.tuple m.sq
   simp only[aB,jL]
   have q:xs.length=h.toArray.size:=by rw[Zz,<- p.length];exact i.length
   have l2:ys.length=e.toArray.size:=by rw[Zz,<- o.length];exact n.length
   rw[q,l2]
   refine .tuples c l (by omega) λj h1 r=>?_
   have:=kS I xs ys (A:=A.in1) f1 f2 i n p o (by rw[in1_units];omega) j (by simpa using h1) (by simpa using r)
   simpa using this
  |lst ys =>
   simp only[Rel]at r2;obtain⟨k,ws,rfl,m,n⟩:=r2;cases rv
   obtain⟨e,o,l,_⟩:=I.list m.sq
   simp only[aB];exact .tuple_list c l.isList (by omega)
  |_=>cases f2
 |.lst xs,d2,A,x,y,u,v,f1,f2,r1,r2,ru,rv,hu=>by
  simp only[Rel]at r1;obtain⟨a,vs,rfl,f,i⟩:=r1;cases ru
  obtain⟨h,p,c,_⟩:=I.list f.sq
  simp only[dep]at hu
  cases d2 with
  |aq=>simp only[Rel]at r2;subst r2;cases rv;simp only[aB];exact .list_none c.isList (by omega)
  |bl b=>simp only[Rel]at r2;subst r2;cases rv;simp only[aB];exact .list_bool b c.isList (by omega)
  |int b=>simp only[Rel]at r2;subst r2;obtain⟨t,rfl⟩:=rv;simp only[aB];exact .list_int b t c.isList (by omega)
  |str b=>simp only[Rel]at r2;subst r2;obtain⟨t,rfl⟩:=rv;simp only[aB];exact .list_str b t c.isList (by omega)
  |lst ys =>
   simp only[Rel]at r2;obtain⟨k,ws,rfl,m,n⟩:=r2;cases rv
   obtain⟨e,o,l,_⟩:=I.list m.sq
   simp only[aB,jL]
   have q:xs.length=h.toArray.size:=by rw[Zz,<- p.length];exact i.length
   have l2:ys.length=e.toArray.size:=by rw[Zz,<- o.length];exact n.length
   rw[q,l2]
   by_cases hs:h.toArray.size=e.toArray.size
   . have z:(h.toArray.size == e.toArray.size)=true:=by simpa using hs
     rw[z,adH,<- hs,Nat.min_self]
     refine .lists c.isList l.isList hs (by omega) λj h1 r=>?_
     have:=kS I xs ys (A:=A.in1) f1 f2 i n p o (by rw[in1_units];omega) j (by simpa using h1) (by simpa using r)
     simpa using this
   . have z:(h.toArray.size == e.toArray.size)=false:=by simpa using hs
     rw[z,agq]
     exact .lists_lengths c.isList l.isList (by simpa using hs) (by omega)
  |tup ys =>
   simp only[Rel]at r2;obtain⟨k,ws,rfl,m,n⟩:=r2;cases rv
   obtain⟨e,o,l,_⟩:=I.tuple m.sq
   simp only[aB];exact .list_tuple c.isList l (by omega)
  |_=>cases f2
 |.de,d2,A,x,y,u,v,f1,_,_,_,_,_,_=>by cases f1
 |.ref _,d2,A,x,y,u,v,f1,_,_,_,_,_,_=>by cases f1
 |.ax _,d2,A,x,y,u,v,f1,_,_,_,_,_,_=>by cases f1
 |.fn _,d2,A,x,y,u,v,f1,_,_,_,_,_,_=>by cases f1
theorem kS (I:Inv X pins σ H s):∀(xs ys:List D) {A:Z0} {vs ws:List V} {us zs:List Value},aN xs=true->aN ys=true->aj X.kw H ι xs vs->aj X.kw H ι ys ws->Vals vs us->Vals ws zs->A.units+bS xs<cLine ->
  ∀(j:Nat) (h1:j<us.length) (h2:j<zs.length),EqAt A s us[j] zs[j] (aB (xs[j]?.getD .aq) (ys[j]?.getD .aq))
 | [],ys,A,vs,ws,us,zs,_,_,r1,_,ru,_,_,j,h1,_=>by
  simp only[aj]at r1;subst r1;cases ru;simp at h1
 |d::ds,ys,A,vs,ws,us,zs,f1,f2,r1,r2,ru,rz,hu,j,h1,h2=>by
  simp only[aj]at r1
  obtain⟨v,m,rfl,a,i⟩:=r1
  simp only[bS]at hu
  simp only[aN,Zv]at f1
  cases ru with
  |cons eQ vq =>
   cases ys with
   |nil=>simp only[aj]at r2;subst r2;cases rz;simp at h2
   |cons e es =>
    simp only[aj]at r2
    obtain⟨w,wr,rfl,hw,c⟩:=r2
    simp only[aN,Zv]at f2
    cases rz with
    |cons oU Bp =>
     cases j with
     |zero =>
      have rc:=vp I d e (A:=A) f1.1 f2.1 a hw eQ oU (by omega)
      simp only[List.getElem_cons_zero,ZJ,afR]
      refine qt rc (λk=>?_) (λb t h=>Rel.x4 a (by rw[h]at eQ;exact eQ))
      subst k
      have l:=eQ.inj oU
      subst l
      have f:=Rel.inj I d e f1.1 f2.1 a hw
      subst f
      exact gv d f1.1
     |succ j =>
      have:=kS I ds es (A:=A) f1.2 f2.2 i c vq Bp (by omega) j (by simpa using h1) (by simpa using h2)
      simpa using this
end
end
noncomputable def oEq (d1 d2:D)(g:G):Option (D×G):=if(flat d1&&flat d2&&decide (dep d1<=60))=true then some (.bl (aB d1 d2),g)else none
theorem Pn (hu:X.A.units+64<cLine):bO X (aam .Eq) (dz X.kw oEq):=by
 intro pins s σ H x y v u Q I b a q
 obtain⟨ι,g,h,f,d,i,G0,c,e,q,p⟩:=q
 unfold oEq at q
 split at q
 . rename_i z
   simp only[Zv,decide_eq_true_eq]at z
   cases q
   exact vp I h f z.1.1 z.1.2 c e b a (by omega) _ _ _ _ ⟨.bl _,H,I,rfl,p H ι _ Ext.refl G0 (by simp[Rel])⟩
 . cases q
noncomputable def b8:D->Bool
 |.aq=>true
 |_=>false
noncomputable def D9 (d1 d2:D)(g:G):Option (D×G):=match d2 with|.aq=>some (.bl (b8 d1),g)|_=>none
noncomputable def zJ (d1 d2:D)(g:G):Option (D×G):=match d2 with|.aq=>some (.bl (!b8 d1),g)|_=>none
theorem x6 {K H ι d v}(r:Rel K H ι d v):decide (v=V.aq)=b8 d:=by
 cases d with
 |aq=>simp only[Rel]at r;subst r;rfl
 |bl _=>simp only[Rel]at r;subst r;rfl
 |int _=>simp only[Rel]at r;subst r;rfl
 |str _=>simp only[Rel]at r;subst r;rfl
 |tup _=>simp only[Rel]at r;obtain⟨a,b,rfl,_⟩:=r;rfl
 |lst _=>simp only[Rel]at r;obtain⟨a,b,rfl,_⟩:=r;rfl
 |de=>simp only[Rel]at r;obtain⟨a,rfl,_⟩:=r;rfl
 |ref _=>simp only[Rel]at r;obtain⟨a,rfl,_⟩:=r;rfl
 |ax _=>simp only[Rel]at r;obtain⟨a,rfl,_⟩:=r;rfl
 |fn _=>simp only[Rel]at r;obtain⟨a,rfl,_⟩:=r;rfl
theorem LU:bO X (aam .Is) (dz X.kw D9):=by
 intro pins s σ H x y v u Q I c b q
 obtain⟨ι,g,i,f,d,h,G0,e,a,q,p⟩:=q
 cases f with
 |aq =>
  simp only[Rel]at a;subst a
  simp only[D9]at q
  cases q
  exact KH pins s σ H _ _ v u Q I c b ⟨rfl,by rw[x6 e];exact p H ι _ Ext.refl G0 (by simp[Rel])⟩
 |_=>cases q
theorem IB:bO X (aam .IsNot) (dz X.kw zJ):=by
 intro pins s σ H x y v u Q I c b q
 obtain⟨ι,g,i,f,d,h,G0,e,a,q,p⟩:=q
 cases f with
 |aq =>
  simp only[Rel]at a;subst a
  simp only[zJ]at q
  cases q
  refine HM pins s σ H _ _ v u Q I c b ⟨rfl,?_⟩
  rw[x6 e]
  exact p H ι _ Ext.refl G0 (by simp[Rel])
 |_=>cases q
noncomputable def eR (d:D)(g:G):Option (List D):=match d with
 |.tup xs=>some xs
 |.lst xs=>some xs
 |.ref n=>g[n]?
 |_=>none
theorem ki {K H ι g d v xs}(G0:az K H ι g)(r:Rel K H ι d v)(h:eR d g=some xs):∃a vs,v = .ref a/\(c_ K H a vs\/dR K H a vs)/\aj K H ι xs vs:=by
 cases d with
 |tup ys=>cases h;simp only[Rel]at r;obtain⟨a,vs,rfl,c,b⟩:=r;exact⟨a,vs,rfl,.inr c.sq,b⟩
 |lst ys=>cases h;simp only[Rel]at r;obtain⟨a,vs,rfl,c,b⟩:=r;exact⟨a,vs,rfl,.inl c.sq,b⟩
 |ref n =>
  simp only[Rel]at r;obtain⟨a,rfl,f⟩:=r
  obtain⟨vs,e,i⟩:=G0.at h f
  exact⟨a,vs,rfl,.inl (.of e),i⟩
 |_=>cases h
noncomputable def vt (d1 d2:D)(g:G):Option (D×G):=match d2 with
 |.int i=>(eR d1 g).bind λxs=>(bJ xs i).map λd=>(d,g)
 |_=>none
theorem IC {K H ι}{xs:List D}{vs:List V}{i:Int}{d:D}(r:aj K H ι xs vs)(h:bJ xs i=some d):∃v,bJ vs i=some v/\Rel K H ι d v:=by
 unfold bJ at h ⊢
 rw[<- r.length]
 obtain⟨j,b,c⟩:=bind_some h
 obtain⟨v,e,a⟩:=r.get c
 exact⟨v,by rw[b];exact e,a⟩
theorem ID:ma X (dz X.kw vt):=by
 intro value slice pins s σ H x y v u Q I f c q h
 obtain⟨ι,g,d1,r,d,g',G0,n,j,q,p⟩:=q
 cases r with
 |int i =>
  simp only[Rel]at j;subst j
  simp only[vt]at q
  obtain⟨xs,z,q⟩:=bind_some q
  cases h2:bJ xs i with
  |none=>rw[h2]at q;cases q
  |some e =>
   rw[h2]at q;cases q
   obtain⟨a,l,rfl,b,o⟩:=ki G0 n z
   obtain⟨w,k,m⟩:=IC o h2
   have fin:=p H ι w Ext.refl G0 m
   rcases b with b|b
   . exact A8 value slice pins s σ H _ _ v u Q I f c (.inl ⟨a,l,i,w,rfl,rfl,b,k,fin⟩) h
   . exact A8 value slice pins s σ H _ _ v u Q I f c (.inr (.inl ⟨a,l,i,w,rfl,rfl,b,k,fin⟩)) h
 |_=>cases q
noncomputable def bN (ds:List D)(g:G):Option (D×G):=match ds with| [d]=>(eR d g).map λxs=>(.int xs.length,g)|_=>none
theorem LV:b_ X (.builtin "len") (gC X.kw bN):=by
 intro pins s σ H xs us Q I r q
 obtain⟨ι,g,ds,d,j,G0,b,q,p⟩:=q
 cases ds with
 |nil=>cases q
 |cons e qu =>
 cases qu with
 |cons _ _=>cases q
 |nil =>
  simp only[bN]at q
  cases hx:eR e g with
  |none=>rw[hx]at q;cases q
  |some ys =>
   rw[hx]at q;cases q
   simp only[aj]at b
   obtain⟨v,_,rfl,c,rfl⟩:=b
   obtain⟨a,i,rfl,f,h⟩:=ki G0 c hx
   exact uS pins s σ H _ us Q I r ⟨a,i,rfl,f,by rw[<- h.length];exact p H ι _ Ext.refl G0 (by simp[Rel])⟩
noncomputable def pI (ds:List D)(g:G):Option (D×G):=match ds with| [.int i,.int j]=>some (.int (if j>i then j else i),g)|_=>none
noncomputable def kC (ds:List D)(g:G):Option (D×G):=match ds with| [.int i,.int j]=>some (.int (if j<i then j else i),g)|_=>none
theorem LW (hc:X.calm=true):b_ X (.builtin "max") (gC X.kw pI):=by
 intro pins s σ H xs us Q I r q
 obtain⟨ι,g,ds,d,b,G0,a,q,p⟩:=q
 unfold pI at q
 split at q
 . cases q
   simp only[aj,Rel]at a
   obtain⟨_,_,rfl,rfl,_,_,rfl,rfl,rfl⟩:=a
   exact A0 hc pins s σ H _ us Q I r ⟨_,_,rfl,p H ι _ Ext.refl G0 (by simp[Rel])⟩
 . cases q
theorem LX (hc:X.calm=true):b_ X (.builtin "min") (gC X.kw kC):=by
 intro pins s σ H xs us Q I r q
 obtain⟨ι,g,ds,d,b,G0,a,q,p⟩:=q
 unfold kC at q
 split at q
 . cases q
   simp only[aj,Rel]at a
   obtain⟨_,_,rfl,rfl,_,_,rfl,rfl,rfl⟩:=a
   exact A1 hc pins s σ H _ us Q I r ⟨_,_,rfl,p H ι _ Ext.refl G0 (by simp[Rel])⟩
 . cases q
noncomputable def pJ (ds:List D)(g:G):Option (D×G):=match ds with| [.int i]=>some (.int i,g)| [.bl k]=>some (.int (if k then 1 else 0),g)|_=>none
theorem LY:b_ X (.type "int") (gC X.kw pJ):=by
 intro pins s σ H xs us Q I r q
 obtain⟨ι,g,ds,d,b,G0,a,q,p⟩:=q
 unfold pJ at q
 split at q
 . cases q
   simp only[aj,Rel]at a
   obtain⟨_,_,rfl,rfl,rfl⟩:=a
   exact sE pins s σ H _ us Q I r (.inl ⟨_,rfl,p H ι _ Ext.refl G0 (by simp[Rel])⟩)
 . cases q
   simp only[aj,Rel]at a
   obtain⟨_,_,rfl,rfl,rfl⟩:=a
   exact sE pins s σ H _ us Q I r (.inr ⟨_,rfl,p H ι _ Ext.refl G0 (by simp[Rel])⟩)
 . cases q
noncomputable def dG (ds:List D)(g:G):Option (D×G):=match ds with| [d]=>(eR d g).bind λxs=>if aD xs.length=true then some (.tup xs,g)else none|_=>none
theorem LZ:b_ X (.type "tuple") (gC X.kw dG):=by
 intro pins s σ H xs us Q I r q
 obtain⟨ι,g,ds,d,g',G0,k,q,p⟩:=q
 cases ds with
 |nil=>cases q
 |cons e qu =>
 cases qu with
 |cons _ _=>cases q
 |nil =>
  simp only[dG]at q
  obtain⟨ys,f,q⟩:=bind_some q
  split at q
  . rename_i z
    cases q
    simp only[aj]at k
    obtain⟨v,_,rfl,c,rfl⟩:=k
    cases e with
    |tup zs =>
     cases f
     simp only[Rel]at c
     obtain⟨a,vs,rfl,b,j⟩:=c
     exact me pins s σ H _ us Q I r ⟨a,vs,rfl,.inr ⟨b.sq,p H ι _ Ext.refl G0 (by simp only[Rel];exact⟨a,vs,rfl,b,j⟩)⟩⟩
    |_ =>
     obtain⟨a,vs,rfl,b,j⟩:=ki G0 c f
     have m:c_ X.kw H a vs:=by
      rcases b with b|b
      . exact b
      . exfalso
        first
         | (cases f;done)
         | (simp only[Rel]at c;obtain⟨n,Rj,i,o,_⟩:=c;cases i;exact nT I b o.sq)
         | (simp only[Rel]at c;obtain⟨n,i,u⟩:=c;cases i;obtain⟨ws,x,y⟩:=G0.at f u;exact nT I b (.of x))
     refine me pins s σ H _ us Q I r ⟨a,vs,rfl,.inl ⟨m,λl h=>p _ _ _ (Ext.lay h) (G0.lay h) ?_⟩⟩
     simp only[Rel]
     exact⟨l,vs,rfl,.inl ⟨.inl bG,G0.fresh h⟩,aj.ext (Ext.lay h) _ j⟩
  . cases q
end
section
variable {X:Cx}
inductive Ty|int|bool|str|tuple|list|dict
noncomputable def Ty.name:Ty->String
 |.int=>"int"|.bool=>"bool"|.str=>"str"|.tuple=>"tuple"|.list=>"list"|.dict=>"dict"
noncomputable def kT:Ty->D->Bool
 |.int,.int _=>true|.int,.bl _=>true|.bool,.bl _=>true|.str,.str _=>true
 |.tuple,.tup _=>true|.list,.lst _=>true|.list,.ref _=>true|.dict,.de=>true|.dict,.ax _=>true
 |_,_=>false
noncomputable def isFn:D->Bool
 |.fn _=>true
 |_=>false
noncomputable def D_ (T:Ty)(f:FE):FE:=λσ g=>(f σ g).bind λr=>if isFn r.1=true then none else some (.bl (kT T r.1),r.2)
theorem isi_call {pins:List (Addr×Obj)}{s:Zq}{σ:L2.St}{H:Hp}{ι:Ix}{g:G}{d:D}{x:V}{u:Value}{Q:Value->Zq->Prop}(T:Ty)(I:Inv X pins σ H s)(G0:az X.kw H ι g)(r:Rel X.kw H ι d x)(hd:isFn d=false)(ru:RelV x u)(h:∀tk,Q (.bool (kT T d)) { s with toks:=tk }):
  wpAny (model X.prog X.w) X.A (call (.builtin "isinstance") [u,.type T.name]) Q X.xe s:=by
 cases d with
 |aq=>simp only[Rel]at r;subst r;cases ru;exact aaW PySem.W.kitx_none I.gL abN (b:=kT T .aq) (by cases T<;>rfl) (λz=>nomatch z) h
 |bl b=>simp only[Rel]at r;subst r;cases ru;exact aaW PySem.W.kitx_bool I.gL abN (b:=kT T (.bl b)) (by cases T<;>rfl) (λz=>nomatch z) h
 |int b=>simp only[Rel]at r;subst r;obtain⟨t,rfl⟩:=ru;exact aaW PySem.W.kitx_int I.gL abN (b:=kT T (.int b)) (by cases T<;>rfl) (λz=>nomatch z) h
 |str b=>simp only[Rel]at r;subst r;obtain⟨t,rfl⟩:=ru;exact aaW PySem.W.kitx_str I.gL abN (b:=kT T (.str b)) (by cases T<;>rfl) (λz=>nomatch z) h
 |tup xs =>
  simp only[Rel]at r;obtain⟨a,j,rfl,l,v⟩:=r;cases ru
  obtain⟨q,_,⟨o,e,f,_⟩,_⟩:=I.tuple l.sq
  exact aaW PySem.W.kitx_tuple I.gL ⟨o,e,f⟩ (b:=kT T (.tup xs)) (by cases T<;>rfl) (λz=>nomatch z) h
 |lst xs =>
  simp only[Rel]at r;obtain⟨a,j,rfl,l,v⟩:=r;cases ru
  obtain⟨q,_,⟨o,n,e,f,_⟩,_⟩:=I.list l.sq
  exact aaW afr I.gL ⟨o,e,f⟩ (b:=kT T (.lst xs)) (by cases T<;>rfl) (λz=>nomatch z) h
 |ref n =>
  simp only[Rel]at r;obtain⟨a,rfl,i⟩:=r;cases ru
  have k:n<g.length:=by rw[<- G0.len];exact(Zr.mp i.1).1
  obtain⟨j,e,f⟩:=G0.at (Zs k) i
  obtain⟨q,_,⟨o,n,e,f,_⟩,_⟩:=I.list (c_.of e)
  exact aaW afr I.gL ⟨o,e,f⟩ (b:=true&&kT T (.lst [])) (by cases T<;>rfl) (λz=>nomatch z) (by cases T<;>exact h)
 |de =>
  simp only[Rel]at r;obtain⟨a,rfl,i,_⟩:=r;cases ru
  obtain⟨_,_,j,_,p⟩:=(show cY X.prog X.w H s.heap a (.dK []) from I.bo a _ i)
  obtain⟨o,m,ep,e,f,_⟩:=p
  exact aaW afs I.gL ⟨o,e,f.1⟩ (b:=kT T .de) (by cases T<;>rfl) (λz=>nomatch z) h
 |ax n =>
  simp only[Rel]at r;obtain⟨a,rfl,i⟩:=r;cases ru
  have k:n<g.length:=by rw[<- G0.len];exact(Zr.mp i.1).1
  obtain⟨m,j,c,e,_⟩:=G0.oQ (Zs k) i
  have f:=((show cY X.prog X.w H s.heap a (dO a m c) from I.bo a _ e)).1
  exact aaW afs I.gL ⟨_,f,rfl⟩ (b:=kT T (.ax n)) (by cases T<;>rfl) (λz=>nomatch z) h
 |fn y=>cases hd
theorem L6 {a:Expr}{fa:FE}{p p2 pos:Pos}(T:Ty)(hm:X.mg "isinstance" = none)(Xb:X.mg (Zt T.name)=none)(ha:DE X a fa)(hg:Gl X "isinstance":=by rfl)(Xc:Gl X (Zt T.name):=by rfl)
   (Rk:ZU [a,.Name (Zt T.name) p2] X.env=(false,eval a X.env)::ZU [.Name (Zt T.name) p2] X.env:=by rfl):DE X (.Call (.Name "isinstance" p) [a,.Name (Zt T.name) p2] [] pos) (D_ T fa):=.of (by
 have l:aa0 (Zt T.name)=some (.type T.name):=by
   cases T
   . exact agh
   . exact PyProof.Rows.boot_bool
   . exact PyProof.Rows.boot_str
   . exact afG
   . exact PyProof.Rows.boot_list
   . exact af2
 have z:b_ X (.builtin "isinstance") (λxs H Q=>∃x ι g d,xs = [x,.ty T.name]/\az X.kw H ι g/\Rel X.kw H ι d x/\isFn d=false/\Q (.bl (kT T d)) H):=by
   intro pins s σ H xs us Q I r q
   obtain⟨x,ι,g,d,rfl,G0,i,nf,q⟩:=q
   obtain⟨u,w',rfl,y,j⟩:=vals2 r
   cases j
   exact isi_call T I G0 i nf y λtk=>⟨.bl _,H,I.tok _,rfl,q⟩
 refine PE.imp (uM z hg hm PyProof.Rows.boot_isinstance (kJ ha.un (kJ (HB (v:=.ty T.name) Xc Xb l rfl (by cases T<;>decide) (by cases T<;>decide)) qa (by rfl)) Rk) (by decide) (by decide) Rk) λσ H Q h=>?_
 obtain⟨ι,σd,g,d,m,G0,k,h,p⟩:=h
 obtain⟨⟨n,g1⟩,o,h⟩:=bind_some h
 dsimp only at h
 split at h
 . cases h
 rename_i nf
 cases h
 exact tD.bind G0 k o λH1 c v e b S1 f=>⟨v,c,m,n,rfl,b,f,by simpa using nf,p H1 c _ e b (by simp[Rel])⟩)
end
end L3
namespace L3
open PySem PySem.Spec PyProof.Rows L2
open Sem (wp)
open Builtin
theorem tuple_addW0 (l b:Addr)(items e_:Array Value)(n n2:Nat)(dd mN:Option Addr)(sl l_:Array (Option Value))(L7:items.isEmpty=true):
  Meets (aaY.«tuple.__add__» ⟨[.ref l,.ref b],[]⟩) (λ_ R s=>s.heap.get? l=some { cls:=.type "tuple",dict:=dd,data:=.seq items n,slots:=sl }/\s.heap.get? b=some { cls:=.type "tuple",dict:=mN,data:=.seq e_ n2,slots:=l_ }/\R (.ok (.ret (abz b))) { s with heap:=s.heap,toks:=s.toks }):=
 .of_wp λprog w A R s h=>by obtain⟨j,g,d,f,os⟩:=s;obtain⟨a,c,h⟩:=h;have f1:=ab5;have f2:=aa9;have i:=aem;have f4:=AutoSeq1.sub_tuple_list;have e:=AutoSeq1.sub_list_tuple;wp_walk using aae a,aae c;exact⟨_,rfl,h⟩
theorem pK:fillsNumberSlot (.type "tuple") "mul" = pure false :=
 adO (id:="tuple.__mul__") (r:=some (.builtin "tuple.__rmul__")) F.slot_tuple_mul.lookup (by decide +kernel) F.slot_tuple_rmul.lookup (by decide +kernel)
theorem vz:aeJ (.type "tuple")=pure (some (.builtin "tuple.__mul__")):=by
 unfold aeJ
 rw[acQ (T:="tuple") (name:="__mul__") (id:="tuple.__mul__") F.slot_tuple_mul.lookup (by decide +kernel),acQ (T:="tuple") (name:="__rmul__") (id:="tuple.__rmul__") F.slot_tuple_rmul.lookup (by decide +kernel)]
 rfl
theorem rN (a:Int)(t:Tok)(l:Addr)(items:Array Value)(n:Nat)(dd:Option Addr)(sl:Array (Option Value)):
  Meets (aaY.«int.__rmul__» ⟨[.int a t,.ref l],[]⟩) (λ_ R s=>s.heap.get? l=some { cls:=.type "tuple",dict:=dd,data:=.seq items n,slots:=sl }/\R (.ok (.ret ac8)) s):=
 .of_wp λprog w A R s h=>by obtain⟨e,g,d,c,os⟩:=s;obtain⟨b,h⟩:=h;wp_walk;exact⟨_,rfl,h⟩
theorem zK (l:Addr)(items:Array Value)(n:Nat)(dd:Option Addr)(sl:Array (Option Value))(x:Int)(u:Tok)(h0:¬(decide (x < -(2 ^ 63))||decide (x>=2 ^ 63))=true)(h1:¬(items.isEmpty||x == 1)=true)(h2:¬(decide (x<=0)||items.isEmpty)=true)
  (h3:¬(items.size:Int)*x>(2 ^ 63-1) / 8) (h4:¬aen ((items.size:Int)*x)=true) (f7:((Zo x.toNat items).foldl (· ++ ·) #[]).size<=ZQ):
  Meets (aaY.«tuple.__mul__» ⟨[.ref l,.int x u],[]⟩) (λ_ R s=>s.heap.get? l=some { cls:=.type "tuple",dict:=dd,data:=.seq items n,slots:=sl }/\R (.ok (.ret (abz s.heap.objs.size))) { s with heap:=s.heap.push { cls:=aaD "tuple",data:=afP ((Zo x.toNat items).foldl (· ++ ·) #[]) },toks:=s.toks }):=
 .of_wp λprog w A R s h=>by
  obtain⟨c,g,d,b,os⟩:=s;obtain⟨a,h⟩:=h
  have f1:=ab5;have f2:=aa9
  wp_walk using aae a
  refine ac9 (decide_eq_false h0) ?_
  wp_walk using aae a
  refine ac9 (decide_eq_false h3) ?_
  wp_walk using aae a
  exact⟨_,rfl,h⟩
theorem xB (l:Addr)(items:Array Value)(n:Nat)(dd:Option Addr)(sl:Array (Option Value))(x:Int)(u:Tok)(h0:¬(decide (x < -(2 ^ 63))||decide (x>=2 ^ 63))=true)(h1:(items.isEmpty||x == 1)=true):
  Meets (aaY.«tuple.__mul__» ⟨[.ref l,.int x u],[]⟩) (λ_ R s=>s.heap.get? l=some { cls:=.type "tuple",dict:=dd,data:=.seq items n,slots:=sl }/\R (.ok (.ret (abz l))) { s with heap:=s.heap,toks:=s.toks }):=
 .of_wp λprog w A R s h=>by
  obtain⟨c,g,d,b,os⟩:=s;obtain⟨a,h⟩:=h
  have f1:=ab5;have f2:=aa9
  wp_walk using aae a
  refine ac9 (decide_eq_false h0) ?_
  wp_walk using aae a
  exact⟨_,rfl,h⟩
theorem xC (l:Addr)(items:Array Value)(n:Nat)(dd:Option Addr)(sl:Array (Option Value))(x:Int)(u:Tok)(h0:¬(decide (x < -(2 ^ 63))||decide (x>=2 ^ 63))=true)(h1:¬(items.isEmpty||x == 1)=true)(h2:(decide (x<=0)||items.isEmpty)=true):
  Meets (aaY.«tuple.__mul__» ⟨[.ref l,.int x u],[]⟩) (λ_ R s=>s.heap.get? l=some { cls:=.type "tuple",dict:=dd,data:=.seq items n,slots:=sl }/\R (.ok (.ret (abz s.heap.objs.size))) { s with heap:=s.heap.push { cls:=aaD "tuple",data:=afP #[] },toks:=s.toks }):=
 .of_wp λprog w A R s h=>by
  obtain⟨c,g,d,b,os⟩:=s;obtain⟨a,h⟩:=h
  have f1:=ab5;have f2:=aa9
  wp_walk using aae a
  refine ac9 (decide_eq_false h0) ?_
  wp_walk using aae a
  exact⟨_,rfl,h⟩
section
variable {X:Cx}
noncomputable def Po (K:KW):R2:=λx y H Q=>∃a k xs,x = .ref a/\y = .int k/\dR K H a xs /\ -(2 ^ 63)<=k/\k<2 ^ 63/\xs.length*k.toNat<=16777216 /\
 ((xs = []\/k=1)->Q (.ref a) H)/\(xs ≠ []->k<=0->∀p,H p=none->Q (.ref p) (upd H p (.tup [])))/\(xs ≠ []->2<=k->∀p,H p=none->Q (.ref p) (upd H p (.tup (Zo k.toNat xs).flatten)))
theorem IE:bO X (aaz .Mult) (Po X.kw):=by
 intro pins s σ H x y v u Q I rx ry h
 obtain⟨a,k,xs,rfl,rfl,hq,h1,h2,o,q1,q0,q2⟩:=h
 cases rx
 obtain⟨t,rfl⟩:=ry
 obtain⟨c,r,ht,Gx⟩:=I.tuple hq
 have hl:=r.length
 obtain⟨⟨cls,i,data,j⟩,f,hc,n,hd⟩:=id ht
 simp only at hc hd
 subst hc hd
 have m:¬(decide (k < -(2 ^ 63))||decide (k>=2 ^ 63))=true:=by
   rw[aaa,decide_eq_true_eq,decide_eq_true_eq]
   omega
 refine adP (T:="tuple") (U:="int") (by decide) ⟨_,f,rfl⟩ (λs'=>acx s' k t) pK F.fills_int_mul F.slot_int_rmul vz F.slot_int_index.lookup
   (abj F.slot_int_rmul (acx s k t) F.entry_int_rmul (F.args_int_rmul_2 _ _) (rN k t a c.toArray n i j) ⟨f,rfl,⟨_,f,rfl⟩,?_⟩)
 by_cases c1:xs = []\/k=1
 . refine abj F.slot_tuple_mul ⟨_,f,rfl⟩ F.entry_tuple_mul (F.args_tuple_mul_2 _ _) (xB a c.toArray n i j k t m ?_) ⟨f,.ref a,H,I,rfl,q1 c1⟩
   rcases c1 with c1|c1
   . subst c1
     cases r
     simp
   . subst c1;simp
 . have l:xs ≠ []:=λe=>c1 (.inl e)
   have L8:k≠1:=λe=>c1 (.inr e)
   have q:c ≠ []:=λe=>l (by subst e;cases r;rfl)
   have n1:¬(c.toArray.isEmpty||k == 1)=true:=by simp[q,L8]
   have fresh:H s.heap.objs.size=none:=I.bo.fresh (ZA _)
   by_cases c0:k<=0
   . refine abj F.slot_tuple_mul ⟨_,f,rfl⟩ F.entry_tuple_mul (F.args_tuple_mul_2 _ _) (xC a c.toArray n i j k t m n1 (by simp[c0])) ⟨f,?_⟩
     refine⟨.ref _,_,I.laid (t':=s.toks) (λb u e=>Zy _ e) (ZA _) ?_,rfl,q0 l c0 _ fresh⟩
     exact⟨aab _,[],.nil,⟨_,ZF _ rfl,rfl,⟨_,rfl⟩,rfl⟩⟩
   . have pL:af6 (λx1 x2=>x1++x2) #[] (Zo k.toNat c.toArray)=(Zo k.toNat c).flatten.toArray:=by
       have:=foldl_rep c k.toNat []
       rw[abp]at this
       exact this
     have z:ZQ=16777216:=aaP
     have f7:(c.length:Int)*k<=16777216:=by
       have p:((xs.length*k.toNat:Nat):Int)<=16777216:=Int.ofNat_le.mpr o
       rw[af9,aeZ (by omega),hl]at p
       exact p
     refine abj F.slot_tuple_mul ⟨_,f,rfl⟩ F.entry_tuple_mul (F.args_tuple_mul_2 _ _) (zK a c.toArray n i j k t m n1 (by simp[c0,q]) (by rw[Zz];omega) ?_ ?_) ⟨f,?_⟩
     . rw[Zz]
       unfold aen
       simp
       omega
     . rw[pL,Zz,len_rep,<- hl,ac_,z];exact o
     . rw[pL]
       refine⟨.ref _,_,I.laid (t':=s.toks) (λb u e=>Zy _ e) (ZA _) ?_,rfl,q2 l (by omega) _ fresh⟩
       exact⟨by rw[len_rep,ac_,z];exact o,_,r.rep k.toNat,⟨_,ZF _ rfl,rfl,⟨_,rfl⟩,rfl⟩⟩
theorem aj.rep {K H ι}{xs:List D}{vs:List V}(r:aj K H ι xs vs):∀k:Nat,aj K H ι (Zo k xs).flatten (Zo k vs).flatten
 | 0=>by simp[aj]
 |k+1=>by
  rw[aaq,aaq,aaj,aaj]
  exact aj.append r (aj.rep r k)
noncomputable def dq (d1 d2:D)(g:G):Option (D×G):=match d1,d2 with
 |.int i,.int j=>if dn i j=true then some (.int (i*j),g)else none
 |.tup xs,.int k=>if(cE k&&aD (xs.length*k.toNat))=true then some (.tup (Zo k.toNat xs).flatten,g)else none
 |_,_=>none
theorem Bq:bO X (aaz .Mult) (dz X.kw dq):=by
 intro pins s σ H x y v u Q I n m q
 obtain⟨ι,g,d1,d2,d,g',G0,f,l,q,p⟩:=q
 unfold dq at q
 split at q
 . split at q
   . rename_i i j z
     exact Iz pins s σ H x y v u Q I n m ⟨ι,g,.int i,.int j,d,g',G0,f,l,by simp only[cI];rw[if_pos z];exact q,p⟩
   . cases q
 . split at q
   . rename_i xs k z
     simp only[Zv]at z
     have z1:=cE.and z.1
     have z2:=aD.le z.2
     cases q
     simp only[Rel]at f l
     obtain⟨a,vs,rfl,o,e⟩:=f
     subst l
     have r:=e.length
     have new:∀{zs:List D} {ws:List V},aj X.kw H ι zs ws->zs=(Zo k.toNat xs).flatten->∀q,H q=none->Q (.ref q) (upd H q (.tup ws)):=fun {zs ws} rz ez q b=>by
       subst ez
       refine p _ _ _ (Ext.lay b) (G0.lay b) ?_
       simp only[Rel]
       exact⟨q,ws,rfl,.inl ⟨.inl bG,G0.fresh b⟩,aj.ext (Ext.lay b) _ rz⟩
     refine IE pins s σ H _ _ v u Q I n m ⟨a,k,vs,rfl,rfl,o.sq,(by omega),(by omega),by rw[<- r];exact z2,λc=>?_,λhx hk=>?_,λhx hk=>?_⟩
     . refine p H ι _ Ext.refl G0 ?_
       simp only[Rel]
       refine⟨a,vs,rfl,o,?_⟩
       rcases c with c|c
       . subst c
         have:xs = []:=abR (by simpa using r)
         subst this
         have h:(Zo k.toNat ([]:List D)).flatten = []:=by simp
         rw[h];exact e
       . subst c
         have h:(Zo (1:Int).toNat xs).flatten=xs:=by simp
         rw[h];exact e
     . refine new (zs:=[]) (by simp[aj]) ?_
       have:k.toNat=0:=by omega
       rw[this];simp
     . exact new (e.rep k.toNat) rfl
   . cases q
 . cases q
theorem Ea:bO X (aaz .Add) (λx y H Q=>∃a b ys,x = .ref a/\y = .ref b/\dR X.kw H a []/\dR X.kw H b ys/\Q (.ref b) H):=by
 intro pins s σ H x y v u Q I o j h
 obtain⟨a,b,ys,rfl,rfl,z,hb,q⟩:=h
 cases o
 cases j
 obtain⟨av,r,p1,_⟩:=I.tuple z
 obtain⟨k,r2,l,_⟩:=I.tuple hb
 obtain⟨⟨cls,p,data,sl⟩,c,i,n,hd⟩:=id p1
 obtain⟨⟨DJ,m,data2,l_⟩,f,e,n2,hd2⟩:=id l
 simp only at i hd e hd2
 subst i hd e hd2
 exact adZ ⟨_,c,rfl⟩ ⟨_,f,rfl⟩ ad0 aeQ acG acA (acr _ _)
  (tuple_addW0 a b av.toArray k.toArray n n2 p m sl l_ (by cases r;simp)) ⟨c,f,.ref b,H,I,rfl,q⟩
theorem IF:bO X (aaz .Add) (λx y H Q=>∃a b xs ys,x = .ref a/\y = .ref b/\c_ X.kw H a xs/\c_ X.kw H b ys/\xs.length+ys.length<=ZQ /\ ∀p,H p=none->Q (.ref p) (upd H p (.lst (xs++ys)))):=by
 intro pins s σ H x y v u Q I rx ry h
 obtain⟨a,b,xs,ys,rfl,rfl,ha,hb,hz,q⟩:=h
 cases rx
 cases ry
 obtain⟨f,j,p1,_⟩:=I.list ha
 obtain⟨c,k,p2,_⟩:=I.list hb
 obtain⟨⟨cls,dd,data,sl⟩,n,i,z,r,hd⟩:=id p1
 obtain⟨⟨DJ,mN,data2,l_⟩,n2,m,l,o,hd2⟩:=id p2
 simp only at z hd l hd2 r o
 subst z hd l hd2 r o
 have e:f.toArray++c.toArray=(f++c).toArray:=by simp
 have hl:f.length+c.length<=ZQ:=by rw[<- j.length,<- k.length];exact hz
 refine adZ ⟨_,i,rfl⟩ ⟨_,m,rfl⟩ noFill_list_add seq_list_add PySem.F.slot_list_add PySem.F.entry_list_add (PySem.F.args_list_add_2 _ _) (list_addW a b f.toArray c.toArray n n2 none none sl l_ (by simpa using hl)) ⟨i,m,?_⟩
 rw[e]
 exact⟨.ref _,_,I.TR (t':=s.toks) (j.append k) (by rw[ZE];exact hz),rfl,q _ I.fresh⟩
noncomputable def jh (d:D)(g:G):Option (List D):=match d with
 |.lst xs=>some xs
 |.ref n=>g[n]?
 |_=>none
theorem jM {K H ι g d v xs}(G0:az K H ι g)(r:Rel K H ι d v)(h:jh d g=some xs):∃a vs,v = .ref a/\c_ K H a vs/\aj K H ι xs vs:=by
 cases d with
 |lst ys =>
  cases h
  simp only[Rel]at r
  obtain⟨a,vs,rfl,i,c⟩:=r
  exact⟨a,vs,rfl,i.sq,c⟩
 |ref n =>
  simp only[Rel]at r
  obtain⟨a,rfl,e⟩:=r
  obtain⟨vs,b,f⟩:=G0.at h e
  exact⟨a,vs,rfl,.of b,f⟩
 |_=>cases h
noncomputable def bC (d1 d2:D)(g:G):Option (D×G):=match d1,d2 with
 |.int i,.int j=>some (.int (i+j),g)
 |.tup xs,.tup ys=>if aD (xs.length+ys.length)=true then some (.tup (xs++ys),g)else none
 |.str i,.str j=>if aD (i.length+j.length)=true then some (.str (i++j),g)else none
 |d1,d2=>match jh d1 g,jh d2 g with
  |some xs,some ys=>if aD (xs.length+ys.length)=true then some (.lst (xs++ys),g)else none
  |_,_=>none
theorem L_:bO X (aaz .Add) (dz X.kw bC):=by
 intro pins s σ H x y v u Q I n m q
 obtain⟨ι,g,d1,d2,d,g',G0,k,l,q,p⟩:=q
 unfold bC at q
 split at q
 . rename_i i j
   exact Iy pins s σ H x y v u Q I n m ⟨ι,g,.int i,.int j,d,g',G0,k,l,q,p⟩
 . split at q
   . rename_i xs ys z
     cases q
     simp only[Rel]at k l
     obtain⟨a,vs,rfl,o,f⟩:=k
     obtain⟨b,ws,rfl,r,h⟩:=l
     by_cases hx:vs = []
     . subst hx
       have:xs = []:=abR (by simpa using f.length)
       subst this
       refine Ea pins s σ H _ _ v u Q I n m ⟨a,b,ws,rfl,rfl,o.sq,r.sq,p H ι _ Ext.refl G0 ?_⟩
       simp only[Rel,abp]
       exact⟨b,ws,rfl,r,h⟩
     . refine HY pins s σ H _ _ v u Q I n m ⟨a,b,vs,ws,rfl,rfl,o.sq,r.sq,hx,by rw[<- f.length,<- h.length];exact aD.le z,λe=>?_,λe q' c=>?_⟩
       . subst e
         have:ys = []:=abR (by simpa using h.length)
         subst this
         refine p H ι _ Ext.refl G0 ?_
         simp only[Rel,aa6]
         exact⟨a,vs,rfl,o,f⟩
       . refine p _ _ _ (Ext.lay c) (G0.lay c) ?_
         simp only[Rel]
         exact⟨q',_,rfl,.inl ⟨.inl bG,G0.fresh c⟩,aj.ext (Ext.lay c) _ (aj.append f h)⟩
   . cases q
 . split at q
   . rename_i x1 y1 z
     cases q
     simp only[Rel]at k l
     subst k l
     exact zg pins s σ H _ _ v u Q I n m ⟨x1,y1,rfl,rfl,aD.le z,p H ι _ Ext.refl G0 (by simp[Rel])⟩
   . cases q
 . split at q
   . rename_i xs ys e1 e2
     split at q
     . rename_i z
       cases q
       obtain⟨a,vs,rfl,o,f⟩:=jM G0 k e1
       obtain⟨b,ws,rfl,r,h⟩:=jM G0 l e2
       refine IF pins s σ H _ _ v u Q I n m ⟨a,b,vs,ws,rfl,rfl,o,r,by rw[<- f.length,<- h.length];exact aD.le z,λq' c=>?_⟩
       refine p _ _ _ (Ext.lay c) (G0.lay c) ?_
       simp only[Rel]
       exact⟨q',_,rfl,.inl ⟨.inl bG,G0.fresh c,G0.kL c⟩,aj.ext (Ext.lay c) _ (aj.append f h)⟩
     . cases q
   . cases q
abbrev FO:=Sg->G->Option (Option Int×G)
inductive Rl (K:KW)(f:FO)(σ:L2.St)(H:Hp)(Q:(Option Int->Hp->Prop)):Prop
 |mk (ι:Ix) (σd:Sg) (g:G) (o:Option Int) (g':G) (h0:az K H ι g) (h1:bR K H ι σd σ) (h2:f σd g=some (o,g')) (h3:qg K H ι g' (Q o)):Rl K f σ H Q
structure DO (X:Cx)(e:Option Expr)(f:FO):Prop where of ::
 un:PO X e (Rl X.kw f)
theorem PO.imp {X:Cx}{e:Option Expr}{t t':TO}(h:PO X e t)(i:∀σ H Q,t' σ H Q->t σ H Q):PO X e t':=λpins s σ H Q I q=>h pins s σ H Q I (i σ H Q q)
noncomputable def mX:FO:=λ_ g=>some (none,g)
noncomputable def dD (f:FE):FO:=λσ g=>(f σ g).bind λr=>match r.1 with|.int i=>some (some i,r.2)|_=>none
theorem IG:DO X none mX:=.of (PO.imp HV λσ H Q h=>by
 obtain⟨ι,b,g,o,a,G0,c,h,p⟩:=h
 cases h
 exact p H ι Ext.refl G0)
theorem IH {e:Expr}{f:FE}(h:DE X e f):DO X (some e) (dD f):=.of (PO.imp (HW h.un) λσ H Q h=>by
 obtain⟨ι,m,g,o,n,G0,k,h,p⟩:=h
 obtain⟨⟨d,g1⟩,l,h⟩:=bind_some h
 cases d with
 |int i =>
  cases h
  exact tD.bind G0 k l λH1 j v a b S1 c=>⟨i,by simpa[Rel]using c,p H1 j a b⟩
 |_=>cases h)
noncomputable def cutD (xs:List D)(lo hi:Option Int):List D:=(xs.drop (HT.bh xs.length 0 lo)).take (HT.bh xs.length xs.length hi-HT.bh xs.length 0 lo)
noncomputable def kU (n:Nat)(lo hi:Option Int):Bool:=decide (HT.bh n 0 lo=0)&&decide (HT.bh n n hi=n)
noncomputable def Ma (d:D)(lo hi:Option Int)(g:G):Option (D×G):=match d with
 |.tup xs=>if kU xs.length lo hi=true then none else some (.tup (cutD xs lo hi),g)
 |.lst xs=>some (.lst (cutD xs lo hi),g)
 |.ref n=>match g[n]? with|some xs=>some (.lst (cutD xs lo hi),g)|none=>none
 |_=>none
theorem aj.Mb {K H ι}{xs:List D}{vs:List V}(r:aj K H ι xs vs)(lo hi:Option Int):aj K H ι (cutD xs lo hi) (mP vs lo hi):=by
 unfold cutD mP
 rw[<- r.length]
 exact aj.take _ (aj.drop _ r)
noncomputable def Mc (K:KW):V->Option Int->Option Int->Hp->VK->Prop:=λx lo a H Q=>KR K x lo a H Q\/K7 K x lo a H Q
theorem II:oO X (Mc X.kw):=by
 intro pins s σ H x v b f lo e a Q I c i j pu h
 rcases h with h|h
 . exact KS pins s σ H x v b f lo e a Q I c i j pu h
 . exact H_ pins s σ H x v b f lo e a Q I c i j pu h
theorem big {pins:List (Addr×Obj)}{σ:L2.St}{H:Hp}{s:Zq}(I:Inv X pins σ H s):abi<s.heap.objs.size:=by
 obtain⟨o,c,b,e,_⟩:=I.mod.glob
 have a:=ZH (I.bk _ _ e)
 exact Nat.lt_trans (by decide) a
theorem Eb {pos:Pos}:DE X (.Dict [] [] pos) (fC .de):=.of (by
 intro pins s σ H Q I h
 obtain⟨ι,a,g,d,f,G0,c,h,p⟩:=h
 cases h
 have hf:H s.heap.objs.size=none:=I.bo.fresh (ZA _)
 refine wpAny_Dict_empty ⟨.ref s.heap.objs.size,upd H s.heap.objs.size (.dK []),I.laid (t':=s.toks) (λb u e=>Zy _ e) (ZA _) ?_,rfl,p _ _ _ (Ext.lay hf) (G0.lay hf) ?_⟩
 . exact⟨aab _,beq_eq_false_iff_ne.mpr (abg (ZX (big I))),[],.nil,Heap.DictOf.new _⟩
 . simp only[Rel]
   exact⟨_,rfl,bG,G0.fresh hf⟩)
end
end L3
namespace L3
open PySem PySem.Spec PyProof.Rows L2
noncomputable def oLt:=qr λi j=>decide (i<j)
noncomputable def oLe:=qr λi j=>decide (i<=j)
noncomputable def sR:=qr λi j=>decide (j<i)
noncomputable def Bs:=qr λi j=>decide (j<=i)
noncomputable def rO (S:Scope)(XN N:List Str)(fr:List (Option Nat))(scope:Scope):Bool :=
 decide (scope.kind = .function)&&scope.names.all (λy=>!decide (y.2 = .cell)||decide (scope.names.lookup y.1=some .cell))&&scope.names.all (λy=>!decide (y.2 = .local)||decide (scope.names.lookup y.1=some .local)) &&
 scope.names.all (λy=>!decide (y.2 = .free)||(decide (scope.names.lookup y.1=some .free)&&(decide (S.names.lookup y.1=some .cell)||decide (S.names.lookup y.1=some .free)))) &&
 decide (fr.length=N.length)&&(Zp fr.length).all (λj=>match fr[j]? with
  |some (some i)=>match N[j]? with
   |some x=>decide (XN[i]? = some x)&&decide (scope.names.lookup x=some .free)
   |none=>false
  |_=>true)
theorem Bt {X:Cx}{N:List Str}{fr:List (Option Nat)}{scope:Scope}{S:Scope}{XN:List Str}(hS:X.env.scope=S)(hN:X.N=XN)(h:rO S XN N fr scope=true):dU X N fr scope:=by
 unfold rO at h
 simp only[Zv,decide_eq_true_eq,ZY,aaa,aau,decide_eq_false_iff_not]at h
 obtain⟨⟨⟨⟨⟨k,l⟩,o⟩,b⟩,m⟩,n⟩:=h
 refine⟨k,λy a e=>?_,λy a e=>?_,λy a e=>?_,m,λj i hf=>?_⟩
 . rcases l y a with z|z
   . exact absurd e z
   . exact z
 . rcases o y a with z|z
   . exact absurd e z
   . exact z
 . rcases b y a with z|z
   . exact absurd e z
   . refine⟨z.1,?_⟩
     show X.env.scope.names.lookup y.1=_\/X.env.scope.names.lookup y.1=_
     rw[hS];exact z.2
 . have c:j∈Zp fr.length:=Z_.mpr (Zr.mp hf).1
   have:=n j c
   rw[hf]at this
   dsimp only at this
   split at this
   . rename_i x f
     simp only[Zv,decide_eq_true_eq]at this
     exact⟨x,f,by rw[hN];exact this.1,this.2⟩
   . cases this
noncomputable def cW (f:FE):FI:=λσ g=>(f σ g).bind λr=>match r.1 with|.tup xs=>some (xs,r.2)|.lst xs=>some (xs,r.2)|_=>none
theorem vC {X:Cx}{tg l:Expr}{fe:FE}(hl:DE X l fe):DI X tg l (cW fe):=.of (by
 intro pins s σ H R I h
 obtain⟨ι,a,g,ds,b,G0,f,h,p⟩:=h
 obtain⟨⟨j,g1⟩,i,c⟩:=bind_some h
 cases j with
 |tup xs =>
  have e:ud fe a g=some (ds,b):=by unfold ud;rw[i];exact c
  exact(Ly hl).un pins s σ H R I ⟨ι,a,g,ds,b,G0,f,e,p⟩
 |lst xs =>
  have e:ue fe a g=some (ds,b):=by unfold ue;rw[i];exact c
  exact(Lz hl).un pins s σ H R I ⟨ι,a,g,ds,b,G0,f,e,p⟩
 |_=>cases c)
end L3
namespace L3
open PySem L2
section
variable {σ:Sg}{g:G}{fa fb fc:FE}{fr:FA}{ga gb:FT}{f1 f2:FS}{o o':D->D->G->Option (D×G)}{fn:Fn}{t:FG}{ts:oS}
@[simp] theorem iH {d}:fC d σ g=some (d,g):=rfl
@[simp] theorem b6 {i:Nat}:ab i σ g=(match σ[i]? with|some (some d)=>some (d,g)|_=>none):=rfl
@[simp] theorem dX:ag o fa fb σ g=(fa σ g).bind λr=>(fb σ r.2).bind λq=>o r.1 q.1 q.2:=rfl
@[simp] theorem Xd {o:D->G->Option (D×G)}:Gf o fa σ g=(fa σ g).bind λr=>o r.1 r.2:=rfl
@[simp] theorem Xe {b:Bool}:gR (some (.bl b,g))=some (b,g):=rfl
@[simp] theorem iu:ay fa σ g=gR (fa σ g):=rfl
@[simp] theorem VX:uY fa σ g=(fa σ g).bind λr=>(kz r.1 r.2).map λb=>(b,r.2):=rfl
@[simp] theorem Rn {b:Bool}:kz (.bl b) g=some b:=rfl
@[simp] theorem Pp {i:Int}:kz (.int i) g=some (i != 0):=rfl
@[simp] theorem VY:il ga gb σ g=(ga σ g).bind λr=>if r.1=true then gb σ r.2 else some (false,r.2):=rfl
@[simp] theorem Xf:uZ ga gb σ g=(ga σ g).bind λr=>if r.1=true then some (true,r.2)else gb σ r.2:=rfl
@[simp] theorem VZ:u5 ga σ g=(ga σ g).bind λr=>some (!r.1,r.2):=rfl
@[simp] theorem T_:zA fa fb σ g=(gR (fa σ g)).bind λr=>if r.1=true then fb σ r.2 else some (.bl false,r.2):=rfl
@[simp] theorem V0:DV fa fb σ g=(gR (fa σ g)).bind λr=>if r.1=true then some (.bl true,r.2)else fb σ r.2:=rfl
@[simp] theorem IJ:iY ga fa fb σ g=(ga σ g).bind λr=>if r.1=true then fa σ r.2 else fb σ r.2:=rfl
@[simp] theorem ck:af σ g=some ([],g):=rfl
@[simp] theorem cD:aa fa fr σ g=(fa σ g).bind λr=>(fr σ r.2).bind λq=>some (r.1::q.1,q.2):=rfl
@[simp] theorem gU {m:List D->G->Option (D×G)}:aI m fr σ g=(fr σ g).bind λr=>m r.1 r.2:=rfl
theorem IK {n:Nat}:aD n=decide (n<=16777216):=rfl
@[simp] theorem Pq {n:Nat}(h:n<=16777216):aD n=true:=decide_eq_true h
@[simp] theorem Ro {ds:List D}:aA ds g=if aD ds.length=true then some (.tup ds,g)else none:=rfl
@[simp] theorem Rp {ds:List D}:cx ds g=if aD ds.length=true then some (.lst ds,g)else none:=rfl
@[simp] theorem Rq {ds:List D}:mkRef ds g=if aD ds.length=true then some (.ref g.length,g ++ [ds])else none:=rfl
@[simp] theorem Ua:aO σ g=some (.nx,σ,g):=rfl
@[simp] theorem nU:aw f1 f2 σ g=(f1 σ g).bind λr=>match r.1 with|.nx=>f2 r.2.1 r.2.2|_=>some r:=rfl
@[simp] theorem kW:aF fa σ g=(fa σ g).bind λr=>some (.rt r.1,σ,r.2):=rfl
@[simp] theorem Ub:uc σ g=some (.rt .aq,σ,g):=rfl
@[simp] theorem eF:bu ga f1 f2 σ g=(ga σ g).bind λr=>if r.1=true then f1 σ r.2 else f2 σ r.2:=rfl
@[simp] theorem Uc:fG fa σ g=(fa σ g).bind λr=>some (.nx,σ,r.2):=rfl
@[simp] theorem dI:aC fa t σ g=(fa σ g).bind λr=>(t r.1 σ r.2).bind λq=>some (.nx,q.1,q.2):=rfl
@[simp] theorem Pr {i:Nat}{d:D}:gN i d σ g=some (σ.set i (some d),g):=rfl
@[simp] theorem Ud:gk [] σ g=some (σ,g):=rfl
@[simp] theorem Rr {d:D}{r:List D}:b9 t ts (d::r) σ g=(t d σ g).bind λq=>ts r q.1 q.2:=rfl
@[simp] theorem YT {n:Nat}{xs:List D}:gT n ts (.tup xs) σ g=if xs.length=n then ts xs σ g else none:=rfl
@[simp] theorem gw:au fn fr σ g=(fr σ g).bind λr=>fn r.1 r.2:=rfl
@[simp] theorem V1 {T:Ty}:D_ T fa σ g=(fa σ g).bind λr=>if isFn r.1=true then none else some (.bl (kT T r.1),r.2):=rfl
@[simp] theorem nV {i:FI}:gr i t f1 σ g=(i σ g).bind λr=>forL t f1 r.1 σ r.2:=rfl
@[simp] theorem x8:cW fa σ g=(fa σ g).bind λr=>match r.1 with|.tup xs=>some (xs,r.2)|.lst xs=>some (xs,r.2)|_=>none:=rfl
@[simp] theorem Ue:ud fa σ g=(fa σ g).bind λr=>match r.1 with|.tup xs=>some (xs,r.2)|_=>none:=rfl
@[simp] theorem Ug:ue fa σ g=(fa σ g).bind λr=>match r.1 with|.lst xs=>some (xs,r.2)|_=>none:=rfl
@[simp] theorem er {mk:List D->G->Option (D×G)}{fi:FI}{fr:List (Option Nat)}{c:FT}:bP mk fi fr t c fa σ g=(fi σ g).bind λr=>if aD r.1.length=true then(a_ t c fa r.1 (bZ fr σ) r.2).bind λq=>mk q.1 q.2 else none:=rfl
@[simp] theorem V2 {ds:List D}:b4 ds g=some (.lst ds,g):=rfl
@[simp] theorem vD:bp σ g=some (true,g):=rfl
@[simp] theorem Xg {c:Int->Int->Bool}{f:Int->Int->Int}{i j:Int}:cI c f (.int i) (.int j) g=if c i j=true then some (.int (f i j),g)else none:=rfl
@[simp] theorem Uh {i j:Int}:kh i j=true:=rfl
@[simp] theorem Xh {i j:Int}:oLt (.int i) (.int j) g=some (.bl (decide (i<j)),g):=rfl
@[simp] theorem Xi {i j:Int}:oLe (.int i) (.int j) g=some (.bl (decide (i<=j)),g):=rfl
@[simp] theorem Xj {i j:Int}:sR (.int i) (.int j) g=some (.bl (decide (j<i)),g):=rfl
@[simp] theorem Xk {i j:Int}:Bs (.int i) (.int j) g=some (.bl (decide (j<=i)),g):=rfl
@[simp] theorem V3 {i:Int}:zI (.int i) g=some (.int (-i),g):=rfl
@[simp] theorem V4 {i j:Int}:bC (.int i) (.int j) g=some (.int (i+j),g):=rfl
@[simp] theorem V5 {i j:Int}:dq (.int i) (.int j) g=if dn i j=true then some (.int (i*j),g)else none:=rfl
@[simp] theorem Xl {d:D}{i:Int}:vt d (.int i) g=(eR d g).bind λxs=>(bJ xs i).map λe=>(e,g):=rfl
@[simp] theorem V6 {xs:List D}:eR (.tup xs) g=some xs:=rfl
@[simp] theorem IL {xs:List D}:eR (.lst xs) g=some xs:=rfl
@[simp] theorem V7 {n:Nat}:eR (.ref n) g=g[n]?:=rfl
@[simp] theorem V8 {d:D}:bN [d] g=(eR d g).map λxs=>(.int xs.length,g):=rfl
@[simp] theorem V9 {i j:Int}:pI [.int i,.int j] g=some (.int (if j>i then j else i),g):=rfl
@[simp] theorem V_ {i j:Int}:kC [.int i,.int j] g=some (.int (if j<i then j else i),g):=rfl
@[simp] theorem Ui {k:Bool}:pJ [.bl k] g=some (.int (if k then 1 else 0),g):=rfl
@[simp] theorem Uj {i:Int}:pJ [.int i] g=some (.int i,g):=rfl
@[simp] theorem IM {d:D}:dG [d] g=(eR d g).bind λxs=>if aD xs.length=true then some (.tup xs,g)else none:=rfl
@[simp] theorem Wa {i j:Int}:oEq (.int i) (.int j) g=some (.bl (i == j),g):=rfl
@[simp] theorem Wb {i j:Bool}:oEq (.bl i) (.bl j) g=some (.bl (i == j),g):=rfl
@[simp] theorem We {i j:Str}:oEq (.str i) (.str j) g=some (.bl (i == j),g):=rfl
@[simp] theorem Wf {d:D}:D9 d .aq g=some (.bl (b8 d),g):=rfl
@[simp] theorem Uk {d:D}:zJ d .aq g=some (.bl (!b8 d),g):=rfl
theorem aQ {nN nP:Nat}{ds:List D}{b:FS}{σ':Sg}{d:D}{g':G}(hl:ds.length=nP)(h:b (ds.map some++Zo (nN-nP) none) g=some (.rt d,σ',g'))(hg:g'.length=g.length):ao false nN nP b ds g=some (d,g'):=by
 unfold ao
 rw[if_pos hl,h]
 have e:settle g.length d g'=some (d,g'):=by
  unfold settle
  rw[if_pos hg]
 simpa using e
theorem kX {nN nP:Nat}{ds:List D}{b:FS}{σ':Sg}{d:D}{g':G}(hl:ds.length=nP)(h:b (ds.map some++Zo (nN-nP) none) g=some (.rt d,σ',g')):ao true nN nP b ds g=some (d,g'):=by
 unfold ao
 rw[if_pos hl,h]
 rfl
end
@[simp] theorem Ul {α:Type}{σ:List (Option α)}:bZ [] σ = []:=rfl
@[simp] theorem Rt {α:Type}{σ:List (Option α)}{fr:List (Option Nat)}:bZ (none::fr) σ=none::bZ fr σ:=rfl
@[simp] theorem Rv {α:Type}{σ:List (Option α)}{fr:List (Option Nat)}{i:Nat}:bZ (some i::fr) σ=(σ[i]?).join::bZ fr σ:=rfl
end L3
namespace L3
open PySem PySem.Spec PyProof.Rows L2
noncomputable def zL (c:Bool):D->Bool
 |.bl b=>b == c
 |_=>false
noncomputable def isLit (d1 d2:D):Option Bool:=match d2 with
 |.aq=>some (b8 d1)
 |.bl c=>some (zL c d1)
 |_=>none
noncomputable def mY (d1 d2:D)(g:G):Option (D×G):=(isLit d1 d2).map λb=>(.bl b,g)
noncomputable def jk (d1 d2:D)(g:G):Option (D×G):=(isLit d1 d2).map λb=>(.bl (!b),g)
section
variable {X:Cx}
theorem Bu {K H ι d v u c}(r:Rel K H ι d v)(rx:RelV v u):(u == acW c)=zL c d/\PySem.plainIs u (.bool c)=true:=by
 cases d with
 |aq=>simp only[Rel]at r;subst r;cases rx;exact⟨rfl,rfl⟩
 |bl b=>simp only[Rel]at r;subst r;cases rx;exact⟨by cases b<;>cases c<;>rfl,rfl⟩
 |int _=>simp only[Rel]at r;subst r;obtain⟨t,rfl⟩:=rx;exact⟨rfl,rfl⟩
 |str _=>simp only[Rel]at r;subst r;obtain⟨t,rfl⟩:=rx;exact⟨rfl,rfl⟩
 |tup _=>simp only[Rel]at r;obtain⟨a,e,rfl,_⟩:=r;cases rx;exact⟨rfl,rfl⟩
 |lst _=>simp only[Rel]at r;obtain⟨a,e,rfl,_⟩:=r;cases rx;exact⟨rfl,rfl⟩
 |de=>simp only[Rel]at r;obtain⟨a,rfl,_⟩:=r;cases rx;exact⟨rfl,rfl⟩
 |ref _=>simp only[Rel]at r;obtain⟨a,rfl,_⟩:=r;cases rx;exact⟨rfl,rfl⟩
 |ax _=>simp only[Rel]at r;obtain⟨a,rfl,_⟩:=r;cases rx;exact⟨rfl,rfl⟩
 |fn _=>simp only[Rel]at r;obtain⟨a,rfl,_⟩:=r;cases rx;exact⟨rfl,rfl⟩
theorem Pt:bO X (aam .Is) (dz X.kw mY):=by
 intro pins s σ H x y v u Q I f b q
 obtain⟨ι,g,k,i,d,j,G0,h,a,q,p⟩:=q
 cases i with
 |aq=>exact LU pins s σ H x y v u Q I f b ⟨ι,g,k,.aq,d,j,G0,h,a,q,p⟩
 |bl c =>
  simp only[Rel]at a;subst a;cases b
  simp only[mY,isLit,aaV]at q
  cases q
  obtain⟨e,z⟩:=Bu (c:=c) h f
  refine wpAny_is_plain z ?_
  rw[e]
  exact⟨.bl _,H,I,rfl,p H ι _ Ext.refl G0 (by simp[Rel])⟩
 |_=>cases q
theorem IP:bO X (aam .IsNot) (dz X.kw jk):=by
 intro pins s σ H x y v u Q I f b q
 obtain⟨ι,g,k,i,d,j,G0,h,a,q,p⟩:=q
 cases i with
 |aq=>exact IB pins s σ H x y v u Q I f b ⟨ι,g,k,.aq,d,j,G0,h,a,q,p⟩
 |bl c =>
  simp only[Rel]at a;subst a;cases b
  simp only[jk,isLit,aaV]at q
  cases q
  obtain⟨e,z⟩:=Bu (c:=c) h f
  refine wpAny_isNot_plain z ?_
  rw[e]
  exact⟨.bl _,H,I,rfl,p H ι _ Ext.refl G0 (by simp[Rel])⟩
 |_=>cases q
end
@[simp] theorem Xm {d1 d2:D}{g:G}:mY d1 d2 g=(isLit d1 d2).map λb=>(.bl b,g):=rfl
@[simp] theorem Um {d1 d2:D}{g:G}:jk d1 d2 g=(isLit d1 d2).map λb=>(.bl (!b),g):=rfl
@[simp] theorem Rw {d1:D}:isLit d1 .aq=some (b8 d1):=rfl
@[simp] theorem Rx {d:D}{c:Bool}:isLit d (.bl c)=some (zL c d):=rfl
@[simp] theorem Wg {b c:Bool}:zL c (.bl b)=(b == c):=rfl
noncomputable def Ix.none (ι:Ix):Ix:=⟨[],ι.ix++ι.hd,ι.kd⟩
noncomputable def Ec:HO->Bool
 |.tup _=>true
 |.mF _ _=>true
 |.dK _=>true
 |_=>false
mutual
theorem Rel.toN {K H ι}:∀(d:D) {v:V},b5 0 d=true->Rel K H ι d v->Rel K H (Ix.none ι) d v
 |.aq,v,_,h=>by simpa[Rel]using h
 |.bl _,v,_,h=>by simpa[Rel]using h
 |.int _,v,_,h=>by simpa[Rel]using h
 |.str _,v,_,h=>by simpa[Rel]using h
 |.tup xs,v,z,h=>by
  simp only[Rel]at h ⊢
  obtain⟨a,f,c,b,e⟩:=h
  refine⟨a,f,c,?_,aj.toN xs z e⟩
  rcases b with⟨b,hn⟩|b
  . exact .inl ⟨b,by simp[Ix.none]⟩
  . exact .inr b
 |.lst xs,v,z,h=>by
  simp only[Rel]at h ⊢
  obtain⟨a,f,c,b,e⟩:=h
  refine⟨a,f,c,?_,aj.toN xs z e⟩
  rcases b with⟨b,hn,hh⟩|b
  . exact .inl ⟨b,by simp[Ix.none],λm=>(ZN.mp m).elim hn hh⟩
  . exact .inr b
 |.de,v,_,h=>by
  simp only[Rel]at h ⊢
  obtain⟨a,c,b,e⟩:=h
  exact⟨a,c,b,by simp[Ix.none]⟩
 |.ref k,v,z,h=>by simp[b5]at z
 |.ax k,v,z,h=>by simp[b5]at z
 |.fn x,v,_,h=>by simpa[Rel]using h
theorem aj.toN {K H ι}:∀(ds:List D) {vs:List V},aX 0 ds=true->aj K H ι ds vs->aj K H (Ix.none ι) ds vs
 | [],vs,_,h=>by simpa[aj]using h
 |d::ds,vs,z,h=>by
  simp only[aj]at h ⊢
  simp only[aX,Zv]at z
  obtain⟨v,e,a,c,b⟩:=h
  exact⟨v,e,a,Rel.toN d z.1 c,aj.toN ds z.2 b⟩
end
mutual
theorem Rel.x9 {K H ι ι'}(hh:ι'.hd=ι.ix++ι.hd)(hl:∀a∈ι.ix,∃o,H a=some o/\Ec o=false):∀(d:D) {v:V},b5 0 d=true->Rel K H ι' d v->Rel K H ι d v
 |.aq,v,_,h=>by simpa[Rel]using h
 |.bl _,v,_,h=>by simpa[Rel]using h
 |.int _,v,_,h=>by simpa[Rel]using h
 |.str _,v,_,h=>by simpa[Rel]using h
 |.tup xs,v,z,h=>by
  simp only[Rel]at h ⊢
  obtain⟨a,j,c,b,i⟩:=h
  refine⟨a,j,c,?_,aj.x9 hh hl xs z i⟩
  rcases b with⟨b,hn⟩|b
  . refine .inl ⟨b,λm=>?_⟩
    obtain⟨us,e,f⟩:=hl a m
    rcases b with b|⟨o,b⟩<;>rw[e]at b<;>cases b<;>cases f
  . exact .inr b
 |.lst xs,v,z,h=>by
  simp only[Rel]at h ⊢
  obtain⟨a,j,c,b,i⟩:=h
  refine⟨a,j,c,?_,aj.x9 hh hl xs z i⟩
  rcases b with⟨b,hn,hk⟩|b
  . rw[hh]at hk
    exact .inl ⟨b,λm=>hk (ZN.mpr (.inl m)),λm=>hk (ZN.mpr (.inr m))⟩
  . exact .inr b
 |.de,v,_,h=>by
  simp only[Rel]at h ⊢
  obtain⟨a,c,b,i⟩:=h
  refine⟨a,c,b,λm=>?_⟩
  obtain⟨us,e,f⟩:=hl a m
  rw[e]at b;cases b;cases f
 |.ref k,v,z,h=>by simp[b5]at z
 |.ax k,v,z,h=>by simp[b5]at z
 |.fn x,v,_,h=>by simpa[Rel]using h
theorem aj.x9 {K H ι ι'}(hh:ι'.hd=ι.ix++ι.hd)(hl:∀a∈ι.ix,∃o,H a=some o/\Ec o=false):∀(ds:List D) {vs:List V},aX 0 ds=true->aj K H ι' ds vs->aj K H ι ds vs
 | [],vs,_,h=>by simpa[aj]using h
 |d::ds,vs,z,h=>by
  simp only[aj]at h ⊢
  simp only[aX,Zv]at z
  obtain⟨v,f,b,e,c⟩:=h
  exact⟨v,f,b,Rel.x9 hh hl d z.1 e,aj.x9 hh hl ds z.2 c⟩
end
theorem az.lst {K H ι g}(h:az K H ι g){a:Addr}(ha:a∈ι.ix):∃o,H a=some o/\Ec o=false:=by
 obtain⟨i,c,e⟩:=abw.mp ha
 have k:i<g.length:=by rw[<- h.len];exact c
 obtain⟨b,o,m,f,l,j,_⟩:=h.at_ i _ (Zs k)
 rw[Zs c,e]at f
 cases f
 generalize ι.kd i=kk at j
 exact⟨o,l,by cases j<;>rfl⟩
noncomputable def mZ (fn:Fn):Fn:=λds g=>if aX 0 ds=true then(fn ds []).bind λr=>if b5 0 r.1=true then some (r.1,g)else none else none
theorem oV {fn:Fn}{ds g d g'}(h:mZ fn ds g=some (d,g')):aX 0 ds=true/\(∃gx,fn ds []=some (d,gx))/\b5 0 d=true/\g'=g:=by
 unfold mZ at h
 split at h
 . rename_i z
   obtain⟨⟨b,g1⟩,a,h⟩:=bind_some h
   split at h
   . rename_i z2
     cases h
     exact⟨z,⟨g1,a⟩,z2,rfl⟩
   . cases h
 . cases h
theorem IQ {P:ZW}{K:KW}{base:Heap}{k n f fd ps}{fn:Fn}(F:dF P K.w K.fr K.mg base i8 k f fd ps (mn K n fn)):dF P K.w K.fr K.mg base i8 k f fd ps (mn K n (mZ fn)):=
 dF.imp F λl H Q E ⟨hl,ι,g,ds,d,g',G0,r,h,p⟩=>by
  obtain⟨z,⟨gx,u⟩,z2,rfl⟩:=oV h
  refine⟨hl,Ix.none ι,[],ds,d,gx,⟨aey,rfl,λb y=>⟨by simp[Ix.none],?_⟩,λi xs q=>by simp at q⟩,aj.toN ds z r,u,λj ι' v e G1 x=>?_⟩
  . rcases ZN.mp y with m|m
    . exact G0.su m
    . exact(G0.cH b m).2
  . have same:∀a∈ι.ix,j a=H a:=λa c=>by
      obtain⟨l,ev,_⟩:=G0.lst c
      rw[ev]
      exact e.same a _ ev (by simp[Ix.none])
    have s:Ext H ι j ι:=⟨λa o q _=>e.same a o q (by simp[Ix.none]),e.there,⟨[],by simp,λ_ q=>by simp at q⟩,rfl,λ_ _=>rfl⟩
    refine p j ι v s (G0.ext s same) (Rel.x9 e.cH (λa c=>?_) d z2 x)
    obtain⟨l,ev,f⟩:=G0.lst c
    exact⟨l,by rw[same a c];exact ev,f⟩
theorem zM {fn:Fn}{n:Nat}(h:∀ds g r,fn ds g=some r->ds.length=n):∀ds g r,mZ fn ds g=some r->ds.length=n:=λds g r q=>by
 obtain⟨_,⟨gx,a⟩,_⟩:=oV (d:=r.1) (g':=r.2) q
 exact h _ _ _ a
end L3
namespace L3
open PySem L2
def wp {α:Type}(o:Option α)(Q:α->Prop):Prop:=∃a,o=some a/\Q a
section
variable {α β:Type}{o:Option α}{Q R:α->Prop}
@[simp] theorem fH {a:α}:wp (some a) Q=Q a:=by simp[wp]
@[simp] theorem Wh:wp (none:Option α) Q=False:=by simp[wp]
@[simp] theorem wp_bind {f:α->Option β}{Q:β->Prop}:wp (o.bind f) Q=wp o λa=>wp (f a) Q:=by
 cases o<;>simp[wp]
@[simp] theorem wp_map {f:α->β}{Q:β->Prop}:wp (o.map f) Q=wp o λa=>Q (f a):=by
 cases o<;>simp[wp]
theorem wp_mono (h:wp o R)(i:∀a,R a->Q a):wp o Q:=let⟨a,e,r⟩:=h;⟨a,e,i a r⟩
end
@[simp] theorem Xn {o:Option (D×G)}{Q:Bool×G->Prop}:wp (gR o) Q=wp o λr=>∃b,r.1 = .bl b/\Q (b,r.2):=by
 cases o with
 |none=>simp[gR]
 |some r =>
  obtain⟨d,g⟩:=r
  cases d with
  |bl b=>cases b<;>simp[gR]
  |_=>simp[gR]
section
variable {σ:Sg}{g:G}{fa:FE}{fl fh:FO}
@[simp] theorem Uo {xs ys:List D}:bC (.tup xs) (.tup ys) g=if aD (xs.length+ys.length)=true then some (.tup (xs++ys),g)else none:=rfl
@[simp] theorem Up {xs ys:List D}:bC (.lst xs) (.lst ys) g=if aD (xs.length+ys.length)=true then some (.lst (xs++ys),g)else none:=rfl
@[simp] theorem Uq {x y:Str}:bC (.str x) (.str y) g=if aD (x.length+y.length)=true then some (.str (x++y),g)else none:=rfl
@[simp] theorem IS:mX σ g=some (none,g):=rfl
@[simp] theorem Ed:dD fa σ g=(fa σ g).bind λr=>match r.1 with|.int i=>some (some i,r.2)|_=>none:=rfl
theorem Ee {xs:List D}{k:Int}(h1:k<=1000)(h0:-1000<=k)(h2:xs.length<=1000):dq (.tup xs) (.int k) g=some (.tup (Zo k.toNat xs).flatten,g):=by
 show(if(cE k&&aD (xs.length*k.toNat))=true then some (D.tup (Zo k.toNat xs).flatten,g)else none)=_
 rw[if_pos]
 have a:k.toNat<=1000:=by omega
 have:xs.length*k.toNat<=1000*1000:=Nat.mul_le_mul h2 a
 rw[cE.of (by omega) (by omega),Pq (by omega)]
 rfl
theorem Bv {n a:Nat}(h:a<=n):HT.bh n n (some (a:Int))=a:=by rw[HT.rH];omega
theorem Ef {n a:Nat}(h:a<=n):HT.bh n 0 (some (a:Int))=a:=by rw[HT.rH];omega
end
theorem nW {t:FG}{b:FS}{Q:F×Sg×G->Prop}(I:Nat->Sg->G->Prop):∀(ds:List D) (i:Nat) (σ:Sg) (g:G),I i σ g ->
  (∀(j:Nat) (d:D) σ g,ds[j]? = some d->I (i+j) σ g->wp (t d σ g) λq=>wp (b q.1 q.2) λr=>match r.1 with
   |.nx=>I (i+j+1) r.2.1 r.2.2
   |.ct=>I (i+j+1) r.2.1 r.2.2
   |.bk=>Q (.nx,r.2.1,r.2.2)
   |.rt d=>Q (.rt d,r.2.1,r.2.2))->(∀σ g,I (i+ds.length) σ g->Q (.nx,σ,g))->wp (forL t b ds σ g) Q
 | [],i,σ,g,hi,_,he=>by simp only[forL,fH];exact he σ g hi
 |d::ds,i,σ,g,hi,hs,he=>by
  simp only[forL,wp_bind]
  refine wp_mono (hs 0 d σ g rfl hi) λq f=>wp_mono f λr a=>?_
  have go:I (i+0+1) r.2.1 r.2.2->wp (forL t b ds r.2.1 r.2.2) Q:=λz =>
   nW I ds (i+1) _ _ z (λj d σ g e h=>by
    have q:=hs (j+1) d σ g (by simpa using e) (by rw[show i+(j+1)=i+1+j by omega];exact h)
    rw[show i+(j+1)+1=i+1+j+1 by omega]at q
    exact q) λσ g h=>he σ g (by rw[aas,show i+(ds.length+1)=i+1+ds.length by omega];exact h)
  obtain⟨c,k⟩:=r
  cases c with
  |nx=>exact go a
  |ct=>exact go a
  |bk=>simp only[fH];exact a
  |rt d=>simp only[fH];exact a
theorem jN {t:FG}{c:FT}{e:FE}{Q:List D×G->Prop}(I:Nat->List D->Sg->G->Prop):∀(ds:List D) (i:Nat) (σ:Sg) (g:G) (acc:List D),I i acc σ g ->
  (∀(j:Nat) (d:D) acc σ g,ds[j]? = some d->I (i+j) acc σ g->wp (t d σ g) λq=>wp (c q.1 q.2) λk=>if k.1=true then wp (e q.1 k.2) λr=>I (i+j+1) (acc ++ [r.1]) q.1 r.2 else I (i+j+1) acc q.1 k.2) ->
  (∀xs σ g,I (i+ds.length) (acc++xs) σ g->Q (xs,g))->wp (a_ t c e ds σ g) Q
 | [],i,σ,g,acc,hi,_,he=>by simp only[a_,fH];exact he [] σ g (by simpa using hi)
 |d::ds,i,σ,g,acc,hi,hs,he=>by
  simp only[a_,wp_bind]
  refine wp_mono (hs 0 d acc σ g rfl hi) λq f=>wp_mono f λk b=>?_
  have go:∀(a:List D) (s:Sg) (h:G) (R:List D×G->Prop),I (i+1) a s h->(∀xs σ g,I (i+1+ds.length) (a++xs) σ g->R (xs,g))->wp (a_ t c e ds s h) R:=λa s h R z he =>
    jN I ds (i+1) s h a z (λj d acc σ g e h=>by
     have q:=hs (j+1) d acc σ g (by simpa using e) (by rw[show i+(j+1)=i+1+j by omega];exact h)
     rw[show i+(j+1)+1=i+1+j+1 by omega]at q
     exact q) he
  have m:i+(d::ds).length=i+1+ds.length:=by rw[aas];omega
  rw[m]at he
  by_cases hc:k.1=true
  . rw[if_pos hc]at b ⊢
    simp only[wp_bind]
    refine wp_mono b λr l=>?_
    refine go (acc ++ [r.1]) q.1 r.2 _ l λxs σ g h=>?_
    simp only[fH]
    exact he (r.1::xs) σ g (by simpa using h)
  . rw[if_neg hc]at b ⊢
    exact go acc q.1 k.2 _ b he
theorem wp_run {nN nP:Nat}{b:FS}{ds:List D}{g:G}{Q:D×G->Prop}(hl:ds.length=nP)(h:wp (b (ds.map some++Zo (nN-nP) none) g) λr=>match r.1 with
  |.rt d=>r.2.2.length=g.length/\Q (d,r.2.2)
  |.nx=>r.2.2.length=g.length/\Q (.aq,r.2.2)
  |_=>False):wp (ao false nN nP b ds g) Q:=by
 obtain⟨⟨r,σ,c⟩,e,q⟩:=h
 unfold ao
 rw[if_pos hl,e]
 cases r with
 |rt d =>
  obtain⟨q1,a⟩:=q
  dsimp only at q1 a
  refine⟨_,?_,a⟩
  simp[settle,q1]
 |nx =>
  obtain⟨q1,a⟩:=q
  dsimp only at q1 a
  refine⟨_,?_,a⟩
  simp[settle,q1]
 |bk=>exact q.elim
 |ct=>exact q.elim
theorem IT {nN nP:Nat}{b:FS}{ds:List D}{g:G}{Q:D×G->Prop}(hl:ds.length=nP)(h:wp (b (ds.map some++Zo (nN-nP) none) g) λr=>match r.1 with
  |.rt d=>Q (d,r.2.2)
  |.nx=>Q (.aq,r.2.2)
  |_=>False):wp (ao true nN nP b ds g) Q:=by
 obtain⟨⟨r,σ,a⟩,e,q⟩:=h
 unfold ao
 rw[if_pos hl,e]
 cases r with
 |rt d=>exact⟨_,rfl,q⟩
 |nx=>exact⟨_,rfl,q⟩
 |bk=>exact q.elim
 |ct=>exact q.elim
theorem fI {nN nP:Nat}{b:FS}{ds:List D}{g:G}{Q:D×G->Prop}(hl:ds.length=nP)(h:wp (b (ds.map some++Zo (nN-nP) none) g) λr=>match r.1 with
  |.rt d=>b5 g.length d=true/\(r.2.2.take g.length).all (aX g.length)=true/\g.length<=r.2.2.length/\Q (d,r.2.2.take g.length)
  |.nx=>(r.2.2.take g.length).all (aX g.length)=true/\g.length<=r.2.2.length/\Q (.aq,r.2.2.take g.length)
  |_=>False):wp (ao false nN nP b ds g) Q:=by
 obtain⟨⟨r,σ,a⟩,e,q⟩:=h
 unfold ao
 rw[if_pos hl,e]
 have fin:∀d,b5 g.length d=true->(a.take g.length).all (aX g.length)=true->g.length<=a.length->Q (d,a.take g.length)->wp (settle g.length d a) Q:=λd z1 z2 z3 z4=>by
  by_cases hg:a.length=g.length
  . rw[abk (by omega)]at z4
    exact⟨_,by unfold settle;rw[if_pos hg],z4⟩
  . refine⟨_,?_,z4⟩
    unfold settle
    rw[if_neg hg,if_pos z2]
    cases d with
    |ref k =>
     have z:k<g.length:=by simpa[b5]using z1
     simp only[if_pos z]
    |_=>simp only[if_pos z1]
 cases r with
 |rt d =>
  obtain⟨q1,f,c,i⟩:=q
  exact fin d q1 f c i
 |nx =>
  obtain⟨f,c,i⟩:=q
  exact fin .aq rfl f c i
 |bk=>exact q.elim
 |ct=>exact q.elim
end L3
namespace L3
open PySem PySem.Spec PyProof.Rows L2
open SeqAt
theorem qv {M:Model}{A:Z0}{E:Value->Zq->Prop}{s:Zq}{β:Type}(f:Nat->β->Sem (ForInStep β))(I:List Nat->β->Zq->Prop)(Q:β->Zq->Prop){lo hi:Nat}{b:β}
  (turn:∀x rest b s,I (x::rest) b s->wpAny M A (f x b) (λr s'=>match r with|.yield b'=>I rest b' s'|.done b'=>Q b' s') E s)
  (fin:∀b s,I [] b s->Q b s) (h:I (adv lo (hi-lo)) b s):wpAny M A (forIn [lo:hi] b f) Q E s:=by
 rw[ae0]
 refine abE f I Q turn fin _ b ?_
 simpa[air]using h
theorem tV (l:Addr)(items:Array Value)(n:Nat)(dd:Option Addr)(sl:Array (Option Value))(x:Value)(e:Value->Bool)(j:Nat)(hj:j<items.size)
  (hit:e items[j]=true) (uP:∀m (hm:m<items.size),m<j->e items[m]=false):
  Meets (aaY.«tuple.index» ⟨[.ref l,x],[]⟩)
   (λA R s=>s.heap.get? l=some { cls:=.type "tuple",dict:=dd,data:=.seq items n,slots:=sl }/\(∀y,y∈items->EqAt A.in1 s y x (e y))/\R (.ok (.ret (.int j s.toks))) { s with toks:=s.toks+1 }):=
 .of_wp λprog w A R s h=>by
  obtain⟨p,g,d,v,os⟩:=s;obtain⟨r,he,h⟩:=h
  wp_walk using wpAny_loadPart' r,qv _ (λrest b f=>b.1=none/\f=⟨p,g,d,v,os⟩ /\ ∃i,rest=adv i (items.size-i)/\i<=j) _
  case turn =>
   rintro y rest b f ⟨q,rfl,i,a,u⟩
   have c:i<items.size:=by omega
   have k:adv i (items.size-i)=i::adv (i+1) (items.size-(i+1)):=by
     rw[show items.size-i=(items.size-(i+1))+1 by omega,List.range'_succ]
   rw[k]at a
   injection a with h1 h2
   subst h1 h2
   have o:items[y]? = some items[y]:=by simp[c]
   rw[o]
   refine Zn (he _ (aft c) prog w _ _ ?_)
   by_cases hy:y=j
   . subst hy
     rw[hit]
     wp_walk
     exact⟨_,rfl,h⟩
   . rw[uP y c (by omega)]
     wp_walk
     exact⟨rfl,rfl,y+1,rfl,by omega⟩
  case fin =>
   rintro⟨b1,z⟩ f ⟨q,rfl,i,a,u⟩
   have:(adv i (items.size-i)).length=0:=by rw[<- a];rfl
   rw[List.length_range']at this
   omega
  case h=>exact⟨rfl,rfl,0,by simp,aab _⟩
noncomputable def eO:D->Bool
 |.aq=>true
 |.bl _=>true
 |.int _=>true
 |.str _=>true
 |_=>false
noncomputable def toV:D->V
 |.bl b=>.bl b
 |.int i=>.int i
 |.str x=>.str x
 |_=>.aq
theorem iw {K H ι d v}(h:eO d=true)(r:Rel K H ι d v):v=toV d/\gP v=true:=by
 cases d with
 |aq=>simp only[Rel]at r;subst r;exact⟨rfl,rfl⟩
 |bl _=>simp only[Rel]at r;subst r;exact⟨rfl,rfl⟩
 |int _=>simp only[Rel]at r;subst r;exact⟨rfl,rfl⟩
 |str _=>simp only[Rel]at r;subst r;exact⟨rfl,rfl⟩
 |_=>cases h
theorem kY {K H ι d}(h:eO d=true):Rel K H ι d (toV d):=by
 cases d with
 |aq=>simp[Rel,toV]
 |bl _=>simp[Rel,toV]
 |int _=>simp[Rel,toV]
 |str _=>simp[Rel,toV]
 |_=>cases h
theorem lK {K H ι}:∀{xs:List D} {vs:List V},xs.all eO=true->aj K H ι xs vs->vs=xs.map toV/\vs.all gP=true
 | [],vs,_,r=>by simp only[aj]at r;subst r;exact⟨rfl,rfl⟩
 |d::xs,vs,h,r=>by
  simp only[aj]at r
  obtain⟨v,f,rfl,b,e⟩:=r
  rw[acN,Zv]at h
  obtain⟨a,f1⟩:=iw h.1 b
  obtain⟨c,f2⟩:=lK h.2 e
  subst a c
  exact⟨rfl,by rw[acN,f1,f2];rfl⟩
theorem pM {K H ι}:∀{xs:List D},xs.all eO=true->aj K H ι xs (xs.map toV)
 | [],_=>by simp[aj]
 |d::xs,h=>by
  rw[acN,Zv]at h
  simp only[Z9,aj]
  exact⟨_,_,rfl,kY h.1,pM h.2⟩
theorem Gy {a b:D}(ha:eO a=true)(hb:eO b=true):sL (toV a) (toV b)=aB a b:=by
 cases a<;>cases b<;>first| (simp[toV,sL,aB];done)| (simp[eO]at ha;done)| (simp[eO]at hb;done)
noncomputable def inD (d:D)(xs:List D):Bool:=xs.any λy=>aB y d
def vE (K:KW)(d:D)(v:V):Prop:=(eO d=true/\v=toV d) \/
 ∃xs a o av n,d = .tup xs/\xs.all eO=true/\v = .ref a/\K.fr.lookup a=some o/\o.cls = .type "tuple" /\ o.dict=none/\o.data = .seq av n/\av.size<=ZQ/\Vals (xs.map toV) av.toList
noncomputable def nX (w:World)(K:KW):List Z4->List (Str×D)->Prop
 | [],cM=>cM = []
 |e::es,cM=>∃x d rest,cM=(x,d)::rest/\(∃t,e.key = .str x t)/\e.hash=hashStr w x/\(∃v,RelV v e.val/\vE K d v)/\nX w K es rest
structure iI (w:World)(K:KW)(a:Addr)(cM:List (Str×D)):Prop where
 ex:∃o es ep,K.fr.lookup a=some o/\o.ExactDict/\o.data = .dict es ep/\nX w K es.toList cM
 sys:(a == abi)=false
noncomputable def rP (cM:List (Str×D))(x:Str):Option D:=(cM.find? λp=>decide (p.1=x)).map (·.2)
theorem nX.keys {P:ZW}{w:World}{K:KW}:∀{es:List Z4} {cM:List (Str×D)},nX w K es cM->∀e∈es,∃k,(dQ P w).is k e.key=true/\e.hash=(dQ P w).hash k
 | [],_,_,e,he=>nomatch he
 |e0::es,cM,h,e,he=>by
  obtain⟨x,d,rest,rfl,⟨t,c⟩,a,_,b⟩:=h
  rcases ZI.mp he with rfl|he
  . exact⟨.inr x,by rw[c];exact oG P w x t,a⟩
  . exact b.keys e he
theorem Me {P:ZW}{w:World}{x y:Str}{t:Tok}:(dQ P w).is (.inr x) (.str y t)=decide (y=x):=by
 show acK x (.str y t)=_
 by_cases h:y=x
 . subst h;simp[acK]
 . simp[acK,h,abg h]
theorem nX.find {P:ZW}{w:World}{K:KW}{x:Str}:∀{es:List Z4} {cM:List (Str×D)},nX w K es cM ->
  match rP cM x with
  |some d=>∃u v,(es.find? λe=>(dQ P w).is (.inr x) e.key).map (·.val)=some u/\RelV v u/\vE K d v
  |none=>(es.find? λe=>(dQ P w).is (.inr x) e.key).map (·.val)=none
 | [],cM,h=>by
  have c:cM = []:=h
  subst c
  rfl
 |e0::es,cM,h=>by
  obtain⟨y,d,rest,rfl,⟨t,j⟩,k,⟨v,i,b⟩,f⟩:=h
  have ih:=f.find (P:=P) (x:=x)
  have a:(dQ P w).is (.inr x) e0.key=decide (y=x):=by rw[j];exact Me
  unfold rP at ih ⊢
  rw[af_,af_]
  by_cases hy:y=x
  . subst hy
    simp only[decide_true,a]
    exact⟨_,v,rfl,i,b⟩
  . simp only[hy,decide_false,a]
    exact ih
theorem iI.map {P:ZW}{w:World}{K:KW}{a:Addr}{cM:List (Str×D)}(h:iI w K a cM){hp:Heap}(hk:K.fr.In hp):∃f,hp.MapOf (dQ P w) a f /\ ∀x:Str,match rP cM x with
  |some d=>∃u v,f (.inr x)=some u/\RelV v u/\vE K d v
  |none=>f (.inr x)=none:=by
 obtain⟨o,j,c,i,l,m,b⟩:=h.ex
 refine⟨_,⟨o,j,c,hk a o i,l,m,λe he=>b.keys e (by simpa using he),λk=>rfl⟩,λx=>?_⟩
 have:=b.find (P:=P) (x:=x)
 unfold findBy
 rw[<- Array.find?_toList]
 exact this
noncomputable def Ur (K:KW)(a:Addr)(cM:List (Str×D)):R2:=λx y H Q=>∃k d,x = .ref a/\y = .str k/\rP cM k=some d /\ ∀v,vE K d v->Q v H
section
variable {X:Cx}{a:Addr}{cM:List (Str×D)}
theorem Mf (hD:iI X.w X.kw a cM):ma X (Ur X.kw a cM):=by
 intro value slice pins s σ H x y v u Q I l i h n
 obtain⟨k,d,rfl,rfl,hd,q⟩:=h
 cases l
 obtain⟨f,hm,hf⟩:=hD.map (P:=X.prog) I.gL
 have b:=hf k
 rw[hd]at b
 obtain⟨e,c,p,j,o⟩:=b
 obtain⟨t,rfl⟩:=i
 exact abP (x:=e) hm.typeIs acF.lookup
  (wpAny_getItem_of (k:=(.inr k:Key)) (Q:=λr m=>r=e/\EP X pins σ Q r m) (oG X.prog X.w k t) hm p ⟨rfl,c,H,I.tok _,j,q c o⟩) n
noncomputable def pN (xs:List D)(d:D):Option Nat:=xs.findIdx? λy=>aB y d
noncomputable def ug (cM:List (Str×D))(fe fx:FE):FE:=λσ g=>(fe σ g).bind λr=>match r.1 with
 |.str x=>match rP cM x with
  |some (.tup xs)=>(fx σ r.2).bind λq=>if(eO q.1&&xs.all eO)=true then(pN xs q.1).map λj=>(.int j,q.2)else none
  |_=>none
 |_=>none
noncomputable def Pu (K:KW):V->List V->Hp->VK->Prop:=λx a H Q=>∃xs y j,vE K (.tup xs) x/\a = [toV y]/\eO y=true/\xs.all eO=true/\pN xs y=some j/\Q (.int j) H
theorem Bw:A7 X "tuple.index" (Pu X.kw):=by
 intro pins s σ H x vs v us Q I rx rv h
 obtain⟨xs,y,j,c,rfl,e,b,k,q⟩:=h
 rcases c with⟨c,_⟩|⟨By,a,o,av,n,e0,fg,rfl,h1,h2,h3,h4,h5,h6⟩
 . cases c
 cases e0
 cases rx
 obtain⟨u,rfl,ru⟩:=rv.one
 have l:=I.gL a o h1
 obtain⟨cls,dd,data,sl⟩:=o
 simp only at h2 h3 h4
 subst h2 h3 h4
 have fy:gP (toV y)=true:=(iw e (kY (K:=X.kw) (H:=H) (ι:=⟨[],[],λ_=>0⟩) e)).2
 have fx:(xs.map toV).all gP=true:=(lK b (pM (K:=X.kw) (H:=H) (ι:=⟨[],[],λ_=>0⟩) b)).2
 unfold pN at k
 rw[acJ]at k
 obtain⟨bU,hit,uP⟩:=k
 have hlen:(xs.map toV).length=av.toList.length:=h6.length
 rw[Z3]at hlen
 have r:j<av.size:=by rw[<- ach];omega
 have item:∀m (hm:m<xs.length) (mx:m<av.size),xP (toV y) av[m]=aB xs[m] y:=λm hm mx=>by
   obtain⟨u',p,r'⟩:=h6.get (i:=m) (x:=toV xs[m]) (by rw[ZG,Zs hm];rfl)
   rw[aez,abx mx]at p
   cases p
   have f:eO xs[m]=true:=ZY.mp b _ (Z2 hm)
   rw[uR r' (iw f (kY (K:=X.kw) (H:=H) (ι:=⟨[],[],λ_=>0⟩) f)).2,Gy f e]
 refine abj F.slot_tuple_index ⟨_,l,rfl⟩ F.entry_tuple_index (F.args_tuple_index_2 _ _) (tV a av n none sl u (xP (toV y)) j r (by rw[item j bU r];exact hit) (λm hm Mg=>by
   have qw:m<xs.length:=by omega
   rw[item m qw hm]
   simpa using uP m Mg)) ⟨l,λz hz=>pF ru fy h6 fx z (by simpa using hz),?_⟩
 exact⟨.int j,H,I.tok _,⟨_,rfl⟩,q⟩
theorem IU {C:Str}{p pos apos cK:Pos}{e x:Expr}{fe fx:FE}(hD:iI X.w X.kw a cM)(hm:X.mg C=some (.ref a))(he:DE X e fe)(hx:DE X x fx)(hg:Gl X C:=by rfl)(hs:nQ e:=by exact λ_ _=>rfl)(hd:(C == ("__debug__":Str))=false:=by decide)
  (lE:aca (.Subscript (.Name C p) e pos) "index" X.env (eval (.Subscript (.Name C p) e pos) X.env)=eval (.Subscript (.Name C p) e pos) X.env:=by rfl)
  (uU:((abe cK (ZU [x] X.env)).all (λx=>!x.1)&&(backToKw cK (afE [] X.env)).all (λx=>x.1.isSome)
   && decide ([x].length+([]:List adp).length+(if([]:List adp).isEmpty then 0 else 1)<30))=true:=by rfl)
  (lF:(apos.endLine == cK.line)=true:=by rfl) (dA:ZU [x] X.env=(false,eval x X.env)::ZU [] X.env:=by rfl):
  DE X (.Call (.Attribute (.Subscript (.Name C p) e pos) "index" apos) [x] [] cK) (ug cM fe fx):=.of (
 PE.imp (O6 PySem.F.plainAttrs_tuple PySem.F.slot_tuple_index PySem.F.type_tuple_index Bw (F_ (Mf hD) (rG (v:=.ref a) hg hm rfl hd) he.un hs) (kJ hx.un qa dA) lE uU lF dA (by rfl)) λσ H Q h=>by
  obtain⟨ι,σd,g,d,g',G0,r,h,p⟩:=h
  obtain⟨⟨y,g1⟩,h1,h⟩:=bind_some h
  refine tD.bind G0 r h1 λH1 ι1 v i l S1 f=>?_
  cases y with
  |str k =>
   simp only[Rel]at f
   subst f
   dsimp only at h
   cases hk:rP cM k with
   |none=>rw[hk]at h;cases h
   |some d2 =>
    rw[hk]at h
    cases d2 with
    |tup xs =>
     dsimp only at h
     obtain⟨⟨c,g3⟩,q,h⟩:=bind_some h
     refine⟨k,_,rfl,rfl,hk,λv b=>⟨?_,?_⟩⟩
     . rcases b with⟨b,_⟩|⟨By,a',o,av,n,e0,fg,rfl,q1,q2,q3,q4,q5,q6⟩
       . cases b
       . exact .inr (.inl ⟨rfl,o,q1,q2,q3⟩)
     . refine tD.bind l S1 q λs ι2 u e2 G2 S2 m=>?_
       dsimp only at h
       split at h
       . rename_i z
         rw[Zv]at z
         cases hj:pN xs c with
         |none=>rw[hj]at h;cases h
         |some j =>
          rw[hj]at h
          cases h
          refine⟨xs,c,j,b,by rw[(iw z.1 m).1],z.1,z.2,hj,p s ι2 _ (i.trans e2) G2 (by simp[Rel])⟩
       . cases h
    |_=>cases h
  |_=>cases h)
end
end L3
namespace L3
open PySem PySem.Spec PyProof.Rows L2
theorem tW {prog:ZW}{w:World}{A:Z0}{E:Value->Zq->Prop}{s:Zq}{it a:Addr}{i:Nat}{items:Array Value}{x:Value}{Q:Value->Zq->Prop}(hit:s.heap.IsTupleIter it a i)(hl:s.heap.IsTuple a items)(hx:items[i]? = some x)
  (hQ:∀h',h'.IsTupleIter it a (i+1)->acn it s.heap h'->Q x { s with heap:=h' }):wpAny (model prog w) A (aby (.ref it)) Q E s:=by
 obtain⟨o,c,f,b⟩:=id hit
 obtain⟨j,e,_,k,h⟩:=hl
 unfold aby
 refine Zn (aaB (name:=Zt "__next__") hit.typeIs F.slot_tuple_iterator_next (aai F.slot_tuple_iterator_next hit.typeIs F.entry_tuple_iterator_next ?_ (F.args_tuple_iterator_next_1 _)))
 change wpAny _ _ (field (.ref it) 0 >>= λ_=>_) _ _ _
 refine Zn (acf c b (x:=.ref a) rfl ?_)
 change wpAny _ _ (if(abz a == ab3)=true then _ else _) _ _ _
 rw[if_neg (by exact aaN)]
 change wpAny _ _ (field (.ref it) 1 >>= λ_=>_) _ _ _
 refine Zn (acf c b (x:=.int i 0) rfl ?_)
 change wpAny _ _ (seqItems? (.ref a) >>= λ_=>_) _ _ _
 refine Zn (acz e h ?_)
 simp only[abr,hx]
 refine Zn (adt c b (by simp) ?_)
 refine Zu ⟨x,rfl,Zu (hQ _ ⟨_,abo _ c (aeA (acu b _)),(afu ..).trans f,?_⟩ (abf ..))⟩
 rw[acu b]
 simp[adY]
theorem m7 {prog:ZW}{w:World}{A:Z0}{E:Value->Zq->Prop}{s:Zq}{it a:Addr}{i:Nat}{items:Array Value}{Q:Value->Zq->Prop}(hh:A.handled=none)(hit:s.heap.IsTupleIter it a i)(hl:s.heap.IsTuple a items)(hx:items[i]? = none)
  (hE:∀h' e,afH it s.heap h'->(∃o,h'.get? e=some o/\o.cls = .type "StopIteration")->E (.ref e) { s with heap:=h' }):wpAny (model prog w) A (aby (.ref it)) Q E s:=by
 obtain⟨o,c,j,b⟩:=id hit
 obtain⟨k,f,_,l,h⟩:=hl
 unfold aby
 refine Zn (aaB (name:=Zt "__next__") hit.typeIs F.slot_tuple_iterator_next (aai F.slot_tuple_iterator_next hit.typeIs F.entry_tuple_iterator_next ?_ (F.args_tuple_iterator_next_1 _)))
 change wpAny _ _ (field (.ref it) 0 >>= λ_=>_) _ _ _
 refine Zn (acf c b (x:=.ref a) rfl ?_)
 change wpAny _ _ (if(abz a == ab3)=true then _ else _) _ _ _
 rw[if_neg (by exact aaN)]
 change wpAny _ _ (field (.ref it) 1 >>= λ_=>_) _ _ _
 refine Zn (acf c b (x:=.int i 0) rfl ?_)
 change wpAny _ _ (seqItems? (.ref a) >>= λ_=>_) _ _ _
 refine Zn (acz f h ?_)
 simp only[abr,hx]
 refine Zn (aa1 (Zn (adt c b (by simp) ?_)))
 change wpAny _ _ (newExc (.type "StopIteration") [] >>= λ_=>_) _ _ _
 refine Zn ?_
 simp only[newExc,newTuple]
 refine Zn (aaU ?_ (by size_fits))
 refine Zn (m:=firstArgMember _ _) (wpAny_of_eq (a:=ab3) (by first|rfl| (simp only[firstArgMember];rfl)) ?_)
 refine aaU ?_ (by size_fits)
 simp only[raiseNew]
 refine Zn (wpAny_handled ?_)
 rw[show A.in1.handled=none from hh]
 exact Zn (Zu (wpAny_throw (hE _ _ (((abf ..).extBut.push _).push _) ⟨_,ZF _ rfl,rfl⟩)))
theorem Bz {prog:ZW}{w:World}{A:Z0}(hh:A.handled=none)(it a:Addr)(cS:a≠it)(items:Array Value):
  Draws prog w A it [it,a] items.size (λi v=>items[i]? = some v) (λi h=>h.IsTupleIter it a i/\h.IsTuple a items) where
 live:=λ_ _ st=>let⟨o,ho,_⟩:=st.1;⟨o,ho⟩
 frame:=λ_ _ _ st f=>⟨st.1.at λo e=>f it (by simp) o e,let⟨o,ho,r⟩:=st.2;⟨o,f a (by simp) o ho,r⟩⟩
 item:=λi s Q E b st m=>tW st.1 st.2 (x:=items[i]) (by simp[b]) λk j c=>m _ k s.toks (by simp[b]) ⟨j,st.2.extBut c.extBut cS⟩ c
 done:=λs Q E st l=>m7 hh st.1 st.2 (by simp) l
theorem BB {prog:ZW}{w:World}{A:Z0}(hh:A.handled=none)(it a:Addr)(items:Array Value)(n:Nat)(hn:items.size<=n):
  Draws prog w A it [it,a] n (λ_ _=>True) (λj h=>j=n/\h.IsTupleIter it a n/\h.IsTuple a items) where
 live:=λ_ _ st=>let⟨o,ho,_⟩:=st.2.1;⟨o,ho⟩
 frame:=λ_ _ _ st b=>⟨st.1,st.2.1.at λo e=>b it (by simp) o e,let⟨o,ho,r⟩:=st.2.2;⟨o,b a (by simp) o ho,r⟩⟩
 item:=λi s Q E c st k=>absurd st.1 (ZX c)
 done:=λs Q E st f=>m7 hh st.2.1 st.2.2 (by simp;exact hn) f
theorem BC (a:Addr)(items:Array Value)(n:Nat)(ax:Option Addr)(sl:Array (Option Value)):
  Meets (aaY.«enumerate.__new__» ⟨[.type "enumerate",.ref a],[]⟩) (λ_ R s=>s.heap.get? a=some { cls:=.type "tuple",dict:=ax,data:=.seq items n,slots:=sl } /\
    R (.ok (.ret (.ref (s.heap.push { cls:=.type "tuple_iterator",data:=.fields #[.ref a,.int 0 0] }).objs.size)))
     { s with heap:=(s.heap.push { cls:=.type "tuple_iterator",data:=.fields #[.ref a,.int 0 0] }).push { cls:=.type "enumerate",data:=.fields #[.none,.bool false,.ref s.heap.objs.size,adY 0,.none,.none] } }):=
 .of_wp λprog w A R s h=>by
  obtain⟨f,g,d,e,os⟩:=s
  obtain⟨b,h⟩:=h
  have sub:=sub_enumerate
  have tup:Heap.IsTuple (Shared.heap ⟨f,g,d,e,os⟩) a items:=⟨_,b,rfl,n,rfl⟩
  wp_walk using wpAny_loadPart' b
  refine wpAny_stack_any λst=>Zu ?_
  split
  . rename_i c _ _ _ _ _
    cases (c == aaD "enumerate")<;>(wp_walk using wpAny_loadPart' b,acp tup;exact⟨_,rfl,h⟩)
  . wp_walk using wpAny_loadPart' b,acp tup
    exact⟨_,rfl,h⟩
theorem zN {prog:ZW}{w:World}{A:Z0}{E:Value->Zq->Prop}{s:Zq}{a:Addr}{items:Array Value}{Q:Value->Zq->Prop}(ht:s.heap.IsTuple a items)
  (h:∀h',IsEnum h' (s.heap.objs.size+1) s.heap.objs.size 0 .none->h'.IsTupleIter s.heap.objs.size a 0->(∀b o,s.heap.get? b=some o->h'.get? b=some o)->Q (.ref (s.heap.objs.size+1)) { s with heap:=h' }):
  wpAny (model prog w) A (call (.type "enumerate") [.ref a]) Q E s:=by
 obtain⟨⟨c,l,dt,f⟩,i,k,n,j⟩:=ht
 cases (show c = .type "tuple" from k)
 cases (show dt = .seq items n from j)
 refine callType_new F.called_enumerate (by decide) (F.typeCall_enumerate_1 _) (F.newCall_enumerate_1 _) (λobj=>F.args_object_init_2 obj _) F.entry_enumerate_new (BC a items n l f) ⟨i,?_⟩
 have sz:(s.heap.push { cls:=.type "tuple_iterator",data:=.fields #[.ref a,.int 0 0] }).objs.size=s.heap.objs.size+1:=ads ..
 have e:=ZF (s.heap.push { cls:=.type "tuple_iterator",data:=.fields #[.ref a,.int 0 0] }) (o:={ cls:=.type "enumerate",data:=.fields #[.none,.bool false,.ref s.heap.objs.size,adY 0,.none,.none] }) rfl
 rw[sz]at e
 show _/\_
 rw[sz]
 exact⟨⟨_,e,rfl⟩,h _ e ⟨_,Zy _ (ZF _ rfl),rfl,rfl⟩ λb o x=>Zy _ (Zy _ x)⟩
theorem IV {X:Cx}{pins:List (Addr×Obj)}{σ:L2.St}{H:Hp}{s:Zq}{h':Heap}{t':Nat}{ch:List Addr}(I:L2.Inv X pins σ H s)(k:∀b o,b ∉ ch->s.heap.get? b=some o->h'.get? b=some o)(hf:∀b∈ch,gq X pins H b):
   L2.Inv X pins σ H { s with heap:=h',toks:=t' }:=by
 have f:∀b u,H b=some u->b ∉ ch:=λb u e z=>by rw[(hf b z).1]at e;cases e
 refine I.step (g':=s.gens) (d':=s.drawn) (ch:=ch) (λb l=>?_) (λb o _ _ a e _=>k b o a e) (λb o _ _ a e _=>⟨o.slots,k b o a e⟩) (λ_ _ _ _ n=>n)
   (λb o a e=>⟨o,k b o a e⟩) (λ_ _ e=>e) (λ_ _ _ e=>e) (λb y e=>⟨#[],by rw[e];simp⟩) (λm hm=>?_) (λb u e=>?_) I.bare
 . obtain⟨f0,f1,f2,i,f4,p⟩:=hf b l
   exact⟨i,f1,f4,p⟩
 . obtain⟨o,j,x,h,r⟩:=hm
   exact⟨o,j,x,k _ o (λz=>(hf _ z).2.1 rfl) h,r⟩
 . refine(I.bo b u e).pB (λc v a q=>k c v ?_ q) (λ_ q=>q) λ_ _ q=>q
   rcases a with z|z
   . rw[z];exact f b u e
   . exact f c _ z
noncomputable def Mj (K:ZD)(a:Addr):It :=
 ⟨λi H=>∃xs x,dR K H a xs/\xs[i]? = some x,λi H x b=>∃T v,x = .ref T/\H T=none/\b=upd H T (.tup [.int i,v]) /\ ∀xs,dR K H a xs->xs[i]? = some v,λi H=>∃xs,dR K H a xs/\xs.length<=i⟩
theorem zO {P:ZW}{w:World}{K:ZD}{elts:List Expr}{kt:Nat}{tp:Pos}(a e it:Addr)(Ml:e≠it):Turn P w K (.Tuple elts kt tp) (Mj K a) [e,it] e (λi h=>(∃old,IsEnum h e it i old)/\h.IsTupleIter it a i) where
 mem:=by simp
 obj:=λi h st b c=>by
  obtain⟨⟨old,l⟩,o,j,h3,h4⟩:=st
  rcases ZI.mp c with rfl|c
  . exact⟨_,l,λv z=>by cases z⟩
  . have iR:b=it:=by simpa using c
    subst iR
    exact⟨o,j,λv z=>by rw[h4]at z;cases z⟩
 keep:=λi h m st k=>by
  obtain⟨⟨old,l⟩,j⟩:=st
  exact⟨⟨old,k e (by simp) _ l⟩,j.at λo q=>k it (by simp) o q⟩
 item:=by
  intro X hP hw hK hc i pins s σ H E I hf st hg
  subst hP hw hK
  obtain⟨⟨old,l⟩,j⟩:=st
  obtain⟨xs,x,hq,hx⟩:=hg
  obtain⟨y,rv,p,hz⟩:=I.tuple hq
  obtain⟨u,hu,ru⟩:=rv.get hx
  have ai:a≠it:=λz=>by
    obtain⟨o,q1,n,_⟩:=p
    obtain⟨o',q3,q4,_⟩:=j
    rw[z,q3]at q1
    cases q1
    rw[q4]at n
    exact absurd n (by decide)
  have ae:e≠a:=λz=>by
    obtain⟨o,q1,n,_⟩:=p
    rw[<- z,l]at q1
    cases q1
    exact absurd (show aaD "enumerate" = aaD "tuple" from n) (by decide)
  have hi:i<y.toArray.size:=by
    have:=(Zr.mp hu).1
    simpa using this
  refine wpAny_pyNext_enum_itemD (Bz (A:=X.A.in1) (I.ok.hd hc) it a ai y.toArray) l ⟨j,p⟩ hi Ml (by simp[Ml,ae]) λx' m r hP Us dA hT f7 hk=>?_
  have ex:x'=u:=by
    have q:y.toArray[i]? = some x':=hP
    have q':y[i]? = some x':=by simpa using q
    rw[hu]at q'
    exact(aaM q').symm
  subst ex
  refine⟨_,rfl,wpAny_letOwnedTupleGo_enum Us λxX Gz Mm=>?_⟩
  have I1:L2.Inv X pins σ (upd H s.heap.objs.size (.tup [.int i,x])) { s with heap:=s.heap.push { cls:=.type "tuple",data:=.seq #[.int i r,x'] } }:=
    I.laid (t':=s.toks) (o:=.tup [.int i,x]) (λb o q=>Zy _ q) (ZA _) (show cY X.prog X.w _ _ _ (.tup [.int i,x]) from⟨by show 2<=ZQ;decide,[.int i r,x'],.cons ⟨r,rfl⟩ (.cons ru .nil),f6.new _ _⟩)
  have eT:e≠s.heap.objs.size:=ZX (ZH l)
  have iT:it≠s.heap.objs.size:=by
    obtain⟨o',q3,_⟩:=j
    exact ZX (ZH q3)
  have I2:L2.Inv X pins σ (upd H s.heap.objs.size (.tup [.int i,x])) { s with heap:=xX,toks:=r+1 }:=IV (s:={ s with heap:=s.heap.push { cls:=.type "tuple",data:=.seq #[.int i r,x'] } }) (ch:=[e,it]) I1 (λb o c q=>by
    simp only[ZI,List.mem_nil_iff,or_false,not_or]at c
    have h3:m.get? b=some o:=by
      by_cases Ry:b=s.heap.objs.size
      . subst Ry
        have:(s.heap.push { cls:=.type "tuple",data:=.seq #[.int i r,x'] }).get? s.heap.objs.size=some o:=q
        rw[ZF _ rfl]at this
        rw[<- this];exact hT
      . exact hk b o c.1 c.2 ((abb s.heap b _ Ry).symm.trans q)
    exact(Mm.2 b c.1).trans h3) (λb c=>by
      obtain⟨f0,f1,f2,f3,f4,f5⟩:=hf b c
      refine⟨?_,f1,f2,f3,f4,f5⟩
      rcases ZI.mp c with rfl|c
      . rw[aT eT];exact f0
      . have iR:b=it:=by simpa using c
        subst iR
        rw[aT iT];exact f0)
  refine⟨.ref s.heap.objs.size,_,I2,rfl,⟨_,x,rfl,I.fresh,rfl,λys hy=>by rw[I.mI hy hq];exact hx⟩,⟨⟨_,by simpa using Gz⟩,?_⟩,λb c=>?_⟩
  . exact dA.1.at λo q=>(Mm.2 it (abg Ml)).trans q
  . rcases ZI.mp c with rfl|c
    . rw[aT eT];exact(hf _ (by simp)).1
    . have iR:b=it:=by simpa using c
      subst iR
      rw[aT iT];exact(hf _ (by simp)).1
 done:=by
  intro X hP hw hK hc i pins s σ H E I hf st hg
  subst hP hw hK
  obtain⟨⟨old,l⟩,j⟩:=st
  obtain⟨xs,hq,hx⟩:=hg
  obtain⟨y,rv,p,hz⟩:=I.tuple hq
  have ai:a≠it:=λz=>by
    obtain⟨o,q1,n,_⟩:=p
    obtain⟨o',q3,q4,_⟩:=j
    rw[z,q3]at q1
    cases q1
    rw[q4]at n
    exact absurd n (by decide)
  have f:=hf it (by simp)
  have fin:∀m,afH it s.heap m->L2.Inv X pins σ H { s with heap:=m }:=λm eb=>I.turned (t':=s.toks) (λb o c q=>eb b o c q) f.1 f.2.1 f.2.2.2.1 f.2.2.2.2.1 f.2.2.2.2.2
  have hl:=rv.length
  exact wpAny_pyNext_enum_endD (BB (A:=X.A.in1) (I.ok.hd hc) it a y.toArray i (by simp;omega)) l ⟨rfl,j,p⟩ λm eb=>⟨rfl,fin m eb⟩
 self:=λ_ _ _ _ _ st h=>wpAny_pyIter_enum st.1.choose_spec h
noncomputable def iJ (xs:List D):List D:=xs.zipIdx.map λp=>.tup [.int (p.2:Nat),p.1]
noncomputable def BD (f:FE):FI:=λσ g=>(f σ g).bind λr=>match r.1 with|.tup xs=>some (iJ xs,r.2)|_=>none
theorem lI.Pw {K H ι a vs ds}(hq:mf K H ι a vs)(hr:aj K H ι ds vs):lI K (Mj K a) H ι (iJ ds):=λi H1 m g1 b e =>
 ⟨λk=>⟨vs,(hq.eZ b).sq,by rw[<- hr.length];simpa[iJ]using k⟩,λd hd=>by
  unfold iJ at hd
  rw[ZG,aeK]at hd
  cases hx:ds[i]? with
  |none=>rw[hx]at hd;cases hd
  |some d0 =>
   rw[hx]at hd
   simp only[aaV,aaA,abV]at hd
   subst hd
   obtain⟨v,f,h⟩:=(aj.eZ b _ hr).get hx
   refine⟨⟨vs,v,(hq.eZ b).sq,f⟩,λx n y=>?_⟩
   obtain⟨T,l,rfl,c,rfl,j⟩:=y
   have:=j vs (hq.eZ b).sq
   rw[f]at this
   cases this
   refine⟨Ext.lay c,e.lay c,?_⟩
   simp only[Rel]
   refine⟨T,_,rfl,.inl ⟨.inl bG,e.fresh c⟩,?_⟩
   simp only[aj,Rel]
   exact⟨_,_,rfl,rfl,_,_,rfl,Rel.ext (Ext.lay c) _ h,rfl⟩⟩
theorem Eg {X:Cx}{l:Expr}{fe:FE}{p pos tp:Pos}{elts:List Expr}{kt:Nat}(hg:Gl X "enumerate")(hm:X.mg "enumerate" = none)(hl:DE X l fe)
  (hs:ZU [l] X.env = [(false,eval l X.env)]:=by rfl):DI X (.Tuple elts kt tp) (.Call (.Name "enumerate" p) [l] [] pos) (BD fe):=.of (by
 intro pins s σ H R I h
 obtain⟨ι,x,g,ds,g',G0,S0,h,q⟩:=h
 obtain⟨⟨d1,g1⟩,h1,h⟩:=bind_some h
 cases d1 with
 |tup xs =>
  cases h
  refine Call_ (kH I hg hm PyProof.Rows.boot_enumerate (abl (bf ((kJ hl.un qa hs) pos pins s σ H (λm H1=>∃v c,m = [v]/\Ext H ι H1 c/\az X.kw H1 c g1/\Rel X.kw H1 c (.tup xs) v) I ?_) λus s1 ⟨m,H1,e,j,v,c,z,f,i,o⟩=>?_) hs rfl))
  . exact⟨ι,x,g,_,g1,G0,S0,h1,λH1 c v f i j=>⟨v,c,rfl,f,i,j⟩⟩
  . subst z
    obtain⟨u,rfl,ru⟩:=vals1 j
    simp only[Rel]at o
    obtain⟨a,m,rfl,n,hr⟩:=o
    cases ru
    obtain⟨av,rv,pt,hz⟩:=e.tuple n.sq
    refine zN (show s1.heap.IsTuple a av.toArray from pt) λh' r vF y=>?_
    refine wpAny_pyIter_enum r ?_
    have cS:s1.heap.objs.size+1≠s1.heap.objs.size:=Nat.succ_ne_self _
    refine⟨s1.heap.objs.size+1,[s1.heap.objs.size+1,s1.heap.objs.size],_,_,H1,rfl,e.kept (t':=s1.toks) y,zO a _ _ cS,⟨⟨_,r⟩,vF⟩,λb k=>?_,q H1 c _ f i (.Pw n hr)⟩
    rcases ZI.mp k with rfl|k
    . exact e.mJ (aeo _) (e.bo.fresh (aeo _))
    . have iR:b=s1.heap.objs.size:=by simpa using k
      subst iR
      exact e.mJ (ZA _) (e.bo.fresh (ZA _))
 |_=>cases h)
noncomputable def uh (f:FE):FI:=λσ g=>(f σ g).bind λr=>match r.1 with|.tup xs=>some (iJ xs,r.2)|_=>none
theorem IW {X:Cx}{l:Expr}{fe:FE}{p pos tp:Pos}{elts:List Expr}{kt:Nat}(hg:Gl X "enumerate")(hm:X.mg "enumerate" = none)(hl:DE X l fe)
  (hs:ZU [l] X.env = [(false,eval l X.env)]:=by rfl):DI X (.Tuple elts kt tp) (.Call (.Name "enumerate" p) [l] [] pos) (uh fe):=.of (by
 intro pins s σ H R I h
 obtain⟨ι,b,g,ds,e,G0,c,h,q⟩:=h
 obtain⟨⟨f,g1⟩,i,a⟩:=bind_some h
 cases f with
 |tup xs=>exact(Eg hg hm hl hs).un pins s σ H R I ⟨ι,b,g,ds,e,G0,c,by unfold BD;rw[i];exact a,q⟩
 |_=>cases a)
@[simp] theorem Ut {fa:FE}{σ:Sg}{g:G}:uh fa σ g=(fa σ g).bind λr=>match r.1 with|.tup xs=>some (iJ xs,r.2)|_=>none:=rfl
noncomputable def pO (i:Nat)(o:Int->Int->Int)(fe:FE):FS:=λσ g=>match σ[i]? with
 |some (some (.int a))=>(fe σ g).bind λr=>match r.1 with
  |.int b=>some (.nx,σ.set i (some (.int (o a b))),r.2)
  |_=>none
 |_=>none
section
variable {X:Cx}
theorem BE {i:Nat}{x:Str}{e:Expr}{fe:FE}{op:aco}{o:Int->Int->Int}{pos' pos:Pos}(hN:X.N.Nodup)(hi:X.N[i]? = some x)(hx:Loc X.env.scope x)(ho:F4 X op (Kn o))(he:DE X e fe)
  (hf:X.fn x=true\/X.env.scope.names.lookup x=some .local:=by first|exact .inl rfl|exact .inr rfl|assumption):DS X (.AugAssign (.Name x pos') op e pos) (pO i o fe):=.of (
 PS.imp (Km hN hi hx he.un ho hf) λDn σ H h=>by
  obtain⟨ι,z,g,r,b7,g',G0,j,h,p⟩:=h
  unfold pO at h
  split at h
  . rename_i a m
    obtain⟨⟨s,g1⟩,y,h⟩:=bind_some h
    obtain⟨v,q,c⟩:=j.2 i _ m
    simp only[Rel]at c
    subst c
    refine⟨.int a,q,?_⟩
    refine tD.bind G0 j y λH1 n u k l S1 f=>?_
    cases s with
    |int b =>
     cases h
     simp only[Rel]at f
     subst f
     exact⟨a,b,rfl,rfl,p H1 n k l _ (S1.set (d:=.int (o a b)) (by simp[Rel]) i)⟩
    |_=>cases h
  . cases h)
end
section
variable {σ:Sg}{g:G}{fa fb fo fx:FE}{fr:FA}
@[simp] theorem Wi {i:Nat}{o:Int->Int->Int}:pO i o fa σ g=(match σ[i]? with
 |some (some (.int a))=>(fa σ g).bind λr=>match r.1 with
  |.int b=>some (.nx,σ.set i (some (.int (o a b))),r.2)
  |_=>none
 |_=>none):=rfl
end
section
variable {σ:Sg}{g:G}{fa fb:FE}
@[simp] theorem Px:kz .aq g=some false:=rfl
@[simp] theorem Py {xs:List D}:kz (.tup xs) g=some (!xs.isEmpty):=rfl
@[simp] theorem Pz {xs:List D}:kz (.lst xs) g=some (!xs.isEmpty):=rfl
end
def pB (cs:List Addr)(h h':Heap):Prop:=∀c o,c ∉ cs->h.get? c=some o->h'.get? c=some o
section
variable {X:Cx}
section
open SeqAt
variable {pins:List (Addr×Obj)}{σ:L2.St}{H:Hp}{s:Zq}{ι:Ix}
theorem Mp (I:Inv X pins σ H s):∀(d1 d2:D) {A:Z0} {x y:V} {u v:Value},flat d1=true->flat d2=true->Rel X.kw H ι d1 x->Rel X.kw H ι d2 y->RelV x u->RelV y v->A.units+dep d1<cLine->RcNeAt A s u v (!aB d1 d2)
 |.aq,d2,A,x,y,u,v,_,f2,r1,r2,ru,rv,hu=>by
  simp only[Rel]at r1;subst r1;cases ru
  cases d2 with
  |aq=>simp only[Rel]at r2;subst r2;cases rv;simp only[aB,ZP,ZO];exact .none_none
  |bl b=>simp only[Rel]at r2;subst r2;cases rv;simp only[aB,ZP,ZO];exact .none_bool b
  |int b=>simp only[Rel]at r2;subst r2;obtain⟨t,rfl⟩:=rv;simp only[aB,ZP,ZO];exact .none_int b t
  |str b=>simp only[Rel]at r2;subst r2;obtain⟨t,rfl⟩:=rv;simp only[aB,ZP,ZO];exact .none_str b t
  |tup ys=>simp only[Rel]at r2;obtain⟨k,ws,rfl,f,i⟩:=r2;cases rv;obtain⟨h,_,c,_⟩:=I.tuple f.sq;simp only[aB,ZP,ZO];exact .none_tuple c (by omega)
  |lst ys=>simp only[Rel]at r2;obtain⟨k,ws,rfl,f,i⟩:=r2;cases rv;obtain⟨h,_,c,_⟩:=I.list f.sq;simp only[aB,ZP,ZO];exact .none_list c.isList (by omega)
  |_=>cases f2
 |.bl a,d2,A,x,y,u,v,_,f2,r1,r2,ru,rv,hu=>by
  simp only[Rel]at r1;subst r1;cases ru
  cases d2 with
  |aq=>simp only[Rel]at r2;subst r2;cases rv;simp only[aB,ZP,ZO];exact .bool_none a
  |bl b=>simp only[Rel]at r2;subst r2;cases rv;simp only[aB,ZP,ZO];exact .bool_bool a b
  |int b=>simp only[Rel]at r2;subst r2;obtain⟨t,rfl⟩:=rv;simp only[aB,ZP,ZO];exact .bool_int a b t
  |str b=>simp only[Rel]at r2;subst r2;obtain⟨t,rfl⟩:=rv;simp only[aB,ZP,ZO];exact .bool_str a b t
  |tup ys=>simp only[Rel]at r2;obtain⟨k,ws,rfl,f,i⟩:=r2;cases rv;obtain⟨h,_,c,_⟩:=I.tuple f.sq;simp only[aB,ZP,ZO];exact .bool_tuple a c (by omega)
  |lst ys=>simp only[Rel]at r2;obtain⟨k,ws,rfl,f,i⟩:=r2;cases rv;obtain⟨h,_,c,_⟩:=I.list f.sq;simp only[aB,ZP,ZO];exact .bool_list a c.isList (by omega)
  |_=>cases f2
 |.int a,d2,A,x,y,u,v,_,f2,r1,r2,ru,rv,hu=>by
  simp only[Rel]at r1;subst r1;obtain⟨t0,rfl⟩:=ru
  cases d2 with
  |aq=>simp only[Rel]at r2;subst r2;cases rv;simp only[aB,ZP,ZO];exact .int_none a t0
  |bl b=>simp only[Rel]at r2;subst r2;cases rv;simp only[aB,ZP,ZO];exact .int_bool a t0 b
  |int b=>simp only[Rel]at r2;subst r2;obtain⟨t,rfl⟩:=rv;simp only[aB,ZP,ZO];exact .int_int a t0 b t
  |str b=>simp only[Rel]at r2;subst r2;obtain⟨t,rfl⟩:=rv;simp only[aB,ZP,ZO];exact .int_str a t0 b t
  |tup ys=>simp only[Rel]at r2;obtain⟨k,ws,rfl,f,i⟩:=r2;cases rv;obtain⟨h,_,c,_⟩:=I.tuple f.sq;simp only[aB,ZP,ZO];exact .int_tuple a t0 c (by omega)
  |lst ys=>simp only[Rel]at r2;obtain⟨k,ws,rfl,f,i⟩:=r2;cases rv;obtain⟨h,_,c,_⟩:=I.list f.sq;simp only[aB,ZP,ZO];exact .int_list a t0 c.isList (by omega)
  |_=>cases f2
 |.str a,d2,A,x,y,u,v,_,f2,r1,r2,ru,rv,hu=>by
  simp only[Rel]at r1;subst r1;obtain⟨t0,rfl⟩:=ru
  cases d2 with
  |aq=>simp only[Rel]at r2;subst r2;cases rv;simp only[aB,ZP,ZO];exact .str_none a t0
  |bl b=>simp only[Rel]at r2;subst r2;cases rv;simp only[aB,ZP,ZO];exact .str_bool a t0 b
  |int b=>simp only[Rel]at r2;subst r2;obtain⟨t,rfl⟩:=rv;simp only[aB,ZP,ZO];exact .str_int a t0 b t
  |str b=>simp only[Rel]at r2;subst r2;obtain⟨t,rfl⟩:=rv;simp only[aB,ZP,ZO];exact .str_str a t0 b t
  |tup ys=>simp only[Rel]at r2;obtain⟨k,ws,rfl,f,i⟩:=r2;cases rv;obtain⟨h,_,c,_⟩:=I.tuple f.sq;simp only[aB,ZP,ZO];exact .str_tuple a t0 c (by omega)
  |lst ys=>simp only[Rel]at r2;obtain⟨k,ws,rfl,f,i⟩:=r2;cases rv;obtain⟨h,_,c,_⟩:=I.list f.sq;simp only[aB,ZP,ZO];exact .str_list a t0 c.isList (by omega)
  |_=>cases f2
 |.tup xs,d2,A,x,y,u,v,f1,f2,r1,r2,ru,rv,hu=>by
  simp only[Rel]at r1;obtain⟨a,vs,rfl,f,i⟩:=r1;cases ru
  obtain⟨h,p,c,_⟩:=I.tuple f.sq
  simp only[dep]at hu
  cases d2 with
  |aq=>simp only[Rel]at r2;subst r2;cases rv;simp only[aB,ZP,ZO];exact .tuple_none c (by omega)
  |bl b=>simp only[Rel]at r2;subst r2;cases rv;simp only[aB,ZP,ZO];exact .tuple_bool b c (by omega)
  |int b=>simp only[Rel]at r2;subst r2;obtain⟨t,rfl⟩:=rv;simp only[aB,ZP,ZO];exact .tuple_int b t c (by omega)
  |str b=>simp only[Rel]at r2;subst r2;obtain⟨t,rfl⟩:=rv;simp only[aB,ZP,ZO];exact .tuple_str b t c (by omega)
  |tup ys =>
   simp only[Rel]at r2;obtain⟨k,ws,rfl,m,n⟩:=r2;cases rv
   obtain⟨e,o,l,_⟩:=I.tuple m.sq
   simp only[aB,jL]
   have q:xs.length=h.toArray.size:=by rw[Zz,<- p.length];exact i.length
   have l2:ys.length=e.toArray.size:=by rw[Zz,<- o.length];exact n.length
   rw[q,l2]
   refine .tuples c l (by omega) λj h1 r=>?_
   have:=kS I xs ys (A:=A.in1) f1 f2 i n p o (by rw[in1_units];omega) j (by simpa using h1) (by simpa using r)
   simpa using this
  |lst ys =>
   simp only[Rel]at r2;obtain⟨k,ws,rfl,m,n⟩:=r2;cases rv
   obtain⟨e,o,l,_⟩:=I.list m.sq
   simp only[aB,ZP,ZO];exact .tuple_list c l.isList (by omega)
  |_=>cases f2
 |.lst xs,d2,A,x,y,u,v,f1,f2,r1,r2,ru,rv,hu=>by
  simp only[Rel]at r1;obtain⟨a,vs,rfl,f,i⟩:=r1;cases ru
  obtain⟨h,p,c,_⟩:=I.list f.sq
  simp only[dep]at hu
  cases d2 with
  |aq=>simp only[Rel]at r2;subst r2;cases rv;simp only[aB,ZP,ZO];exact .list_none c.isList (by omega)
  |bl b=>simp only[Rel]at r2;subst r2;cases rv;simp only[aB,ZP,ZO];exact .list_bool b c.isList (by omega)
  |int b=>simp only[Rel]at r2;subst r2;obtain⟨t,rfl⟩:=rv;simp only[aB,ZP,ZO];exact .list_int b t c.isList (by omega)
  |str b=>simp only[Rel]at r2;subst r2;obtain⟨t,rfl⟩:=rv;simp only[aB,ZP,ZO];exact .list_str b t c.isList (by omega)
  |lst ys =>
   simp only[Rel]at r2;obtain⟨k,ws,rfl,m,n⟩:=r2;cases rv
   obtain⟨e,o,l,_⟩:=I.list m.sq
   simp only[aB,jL]
   have q:xs.length=h.toArray.size:=by rw[Zz,<- p.length];exact i.length
   have l2:ys.length=e.toArray.size:=by rw[Zz,<- o.length];exact n.length
   rw[q,l2]
   by_cases hs:h.toArray.size=e.toArray.size
   . have z:(h.toArray.size == e.toArray.size)=true:=by simpa using hs
     rw[z,adH,<- hs,Nat.min_self]
     refine .lists c.isList l.isList hs (by omega) λj h1 r=>?_
     have:=kS I xs ys (A:=A.in1) f1 f2 i n p o (by rw[in1_units];omega) j (by simpa using h1) (by simpa using r)
     simpa using this
   . have z:(h.toArray.size == e.toArray.size)=false:=by simpa using hs
     rw[z,agq,ZO]
     exact .lists_lengths c.isList l.isList (by simpa using hs) (by omega)
  |tup ys =>
   simp only[Rel]at r2;obtain⟨k,ws,rfl,m,n⟩:=r2;cases rv
   obtain⟨e,o,l,_⟩:=I.tuple m.sq
   simp only[aB,ZP,ZO];exact .list_tuple c.isList l (by omega)
  |_=>cases f2
 |.de,d2,A,x,y,u,v,f1,_,_,_,_,_,_=>by cases f1
 |.ref _,d2,A,x,y,u,v,f1,_,_,_,_,_,_=>by cases f1
 |.ax _,d2,A,x,y,u,v,f1,_,_,_,_,_,_=>by cases f1
 |.fn _,d2,A,x,y,u,v,f1,_,_,_,_,_,_=>by cases f1
end
noncomputable def dY (d1 d2:D)(g:G):Option (D×G):=if(flat d1&&flat d2&&decide (dep d1<=60))=true then some (.bl (!aB d1 d2),g)else none
theorem Mq (hu:X.A.units+64<cLine):bO X (aam .NotEq) (dz X.kw dY):=by
 intro pins s σ H x y v u Q I b a q
 obtain⟨ι,g,h,f,d,i,G0,c,e,q,p⟩:=q
 unfold dY at q
 split at q
 . rename_i z
   simp only[Zv,decide_eq_true_eq]at z
   cases q
   exact Mp I h f z.1.1 z.1.2 c e b a (by omega) _ _ _ _ ⟨.bl _,H,I,rfl,p H ι _ Ext.refl G0 (by simp[Rel])⟩
 . cases q
end
@[simp] theorem Wj {d1 d2:D}{g:G}:dY d1 d2 g=if(flat d1&&flat d2&&decide (dep d1<=60))=true then some (.bl (!aB d1 d2),g)else none:=rfl
noncomputable def et:List D->Option (List Int)
 | []=>some []
 |.int i::ds=>(et ds).map (i :: ·)
 |_=>none
theorem qx {d:D}{ds:List D}{ns:List Int}(h:et (d::ds)=some ns):∃i ms,d = .int i/\ns=i::ms/\et ds=some ms:=by
 cases d with
 |int i =>
  simp only[et,ZM]at h
  obtain⟨ms,a,rfl⟩:=h
  exact⟨i,ms,rfl,rfl,a⟩
 |_=>simp[et]at h
theorem m8 {K H ι}:∀{xs:List D} {vs:List V} {us:List Value} {ns:List Int},et xs=some ns->aj K H ι xs vs->Vals vs us->ado us ns
 | [],vs,us,ns,h,r,rv=>by simp only[aj]at r;subst r;cases rv;cases h;exact .nil
 |d::ds,vs,us,ns,h,r,rv=>by
  obtain⟨i,ms,rfl,rfl,a⟩:=qx h
  simp only[aj,Rel]at r
  obtain⟨v,c,rfl,rfl,b⟩:=r
  cases rv with
  |cons r0 rr =>
   obtain⟨t,rfl⟩:=r0
   exact .cons i t (m8 a b rr)
theorem lL:∀{us:List Value} {ns:List Int},ado us ns->∃xs:List (Int×Tok),us=xs.map (λp=>aeb p.1 p.2)/\ns=xs.map (·.1)
 |_,_,.nil=>⟨[],rfl,rfl⟩
 |_,_,.cons n t h=>by
  obtain⟨xs,rfl,rfl⟩:=lL h
  exact⟨(n,t)::xs,rfl,rfl⟩
section
variable {X:Cx}
noncomputable def iK (ds:List D)(g:G):Option (D×G):=match ds with| [d]=>(jh d g).bind λxs=>(et xs).bind λns=>ns.min?.map λm=>(.int m,g)|_=>none
theorem IX (hh:X.A.handled=none):b_ X (.builtin "min") (gC X.kw iK):=by
 intro pins s σ H xs us Q I r q
 obtain⟨ι,g,ds,d,g',G0,f,q,p⟩:=q
 cases ds with
 |nil=>cases q
 |cons e qu =>
 cases qu with
 |cons _ _=>cases q
 |nil =>
  simp only[iK]at q
  obtain⟨ys,n,q⟩:=bind_some q
  obtain⟨ns,hn,q⟩:=bind_some q
  obtain⟨m,hm,q⟩:=ZM.mp q
  cases q
  simp only[aj]at f
  obtain⟨v,_,rfl,x,rfl⟩:=f
  obtain⟨a,vs,rfl,hq,hr⟩:=jM G0 x n
  cases r with
  |cons ru rr =>
   cases rr
   cases ru
   obtain⟨av,u,y,_⟩:=I.list hq
   obtain⟨b,rfl,rfl⟩:=lL (m8 hn hr u)
   obtain⟨c,m2⟩:=aeB.mp hm
   have z:(b.map (λp=>aeb p.1 p.2)).toArray=intItems b.toArray:=by simp[intItems]
   have h:=y.isList
   rw[z]at h
   have k:0<b.toArray.size:=by
    cases b with
    |nil=>simp at c
    |cons _ _=>simp
   refine min_intList hh h k λv h' tk hv hk=>?_
   obtain⟨t,rfl⟩:=intItems_at hv
   obtain⟨h1,h2⟩:=argBest_lt (numAt b.toArray) (b.toArray.size-1)
   have e:numAt b.toArray (argBest (λi j=>decide (numAt b.toArray i<numAt b.toArray j)) (b.toArray.size-1))=m:=by
    have key:∀j,j<b.length->numAt b.toArray j=(b.map (·.1)).getD j 0:=λj l=>by rw[ab6]
    have o:numAt b.toArray (argBest (λi j=>decide (numAt b.toArray i<numAt b.toArray j)) (b.toArray.size-1))∈b.map (·.1):=by
     rw[ab6];exact getD_mem (by rw[Z3];simp at k h1 ⊢;omega)
    refine aga ?_ (m2 _ o)
    obtain⟨j,l,ej⟩:=mem_getD c
    rw[<- ej]
    have:=h2 j (by simp at l ⊢;omega)
    rw[ab6]at this
    rw[ab6]
    simpa[ab6]using this
   rw[e]
   exact⟨.int m,H,I.kept hk,⟨_,rfl⟩,p H ι _ Ext.refl G0 (by simp[Rel])⟩
end
section
variable {σ:Sg}{g:G}{fr:FA}
@[simp] theorem Uu {d:D}:iK [d] g=(jh d g).bind λxs=>(et xs).bind λns=>ns.min?.map λm=>(.int m,g):=rfl
end
end L3
namespace L3
open PySem PySem.Spec PyProof.Rows L2 HT
section
variable {prog:ZW}{w:World}{A:Z0}{E:Value->Zq->Prop}{s:Zq}
theorem mE {t sl:Addr}{items:Array Value}{vl vu:Value}{lo hi:Option Int}{Q:Value->Zq->Prop}(ht:IsTup s.heap t items)(hs:s.heap.IsSliceOf sl vl vu .none)(pl:ac4 vl lo)(pu:ac4 vu hi)
  (hw:bh items.size 0 lo=0/\bh items.size items.size hi=items.size)
  (h:Q (.ref t) s):wpAny (model prog w) A (adn (.ref t) (.ref sl)) Q E s:=by
 obtain⟨os,c,e,f⟩:=id hs
 have b:s.TypeIs (.ref sl) "slice":=⟨os,c,e⟩
 unfold adn
 try with_reducible refine Z5 ?_
 first|refine Zn (Zu ?_)|skip
 refine Zn (acD ht.typeIs (by decide) ?_)
 refine Zn (aaB (name:=Zt "__getitem__") ht.typeIs aat
  (aai aat ht.typeIs aeW ?_ (args_tuple_getitem _ _)))
 show wpAny _ _ (ab_ (.ref t) >>= _) _ _ s
 refine Zn (tupleItemsOf_ ht ?_)
 refine Zn (abU b ?_)
 rw[if_pos (by decide)]
 refine Zn (jE hs pl pu ?_)
 have a:((((bh items.size 0 lo:Nat):Int)== 0&&(1:Int)== 1&&(bh items.size items.size hi-bh items.size 0 lo)== items.size)=true):=by
  rw[hw.1,hw.2];simp
 show wpAny _ _ (if(((bh items.size 0 lo:Nat):Int)== 0&&(1:Int)== 1&&(bh items.size items.size hi-bh items.size 0 lo)== items.size)=true then _ else _) _ _ s
 rw[if_pos a]
 unfold Builtin.Tuple.tupleIsExact
 refine Zn (Zn (abU ht.typeIs (Zu ?_)))
 rw[if_pos (by decide)]
 refine Zn (aa1 (Zu ⟨_,rfl,Zu h⟩))
end
section
variable {X:Cx}
noncomputable def Uw (K:KW):V->Option Int->Option Int->Hp->VK->Prop:=λx lo b H Q=>∃a xs,x = .ref a/\dR K H a xs/\(HT.bh xs.length 0 lo=0/\HT.bh xs.length xs.length b=xs.length)/\Q (.ref a) H
theorem Eh:oO X (Uw X.kw):=by
 intro pins s σ H x v m n lo k l Q I e f j pu h
 obtain⟨a,xs,rfl,c,hw,q⟩:=h
 cases e
 obtain⟨i,r,b,o⟩:=I.tuple c
 have hlen:i.toArray.size=xs.length:=by rw[Zz];exact r.length.symm
 refine⟨"tuple",_,aat.lookup,b.typeIs,?_⟩
 exact mE b f j pu (by rw[hlen];exact hw) ⟨.ref a,H,I,rfl,q⟩
noncomputable def iZ (d:D)(lo hi:Option Int)(g:G):Option (D×G):=match d with
 |.tup xs=>some (.tup (cutD xs lo hi),g)
 |d=>Ma d lo hi g
theorem BF {xs:List D}{lo hi:Option Int}(h:kU xs.length lo hi=true):cutD xs lo hi=xs:=by
 unfold kU at h
 rw[Zv,decide_eq_true_eq,decide_eq_true_eq]at h
 unfold cutD
 rw[h.1,h.2]
 simp
noncomputable def iy (fa:FE)(fl fh:FO):FE:=λσ g=>(fa σ g).bind λr=>(fl σ r.2).bind λl=>(fh σ l.2).bind λh=>iZ r.1 l.1 h.1 h.2
theorem BG {a:Expr}{lo hi:Option Expr}{fa:FE}{fl fh:FO}{p2 pos:Pos}(ha:DE X a fa)(hl:DO X lo fl)(hh:DO X hi fh):DE X (.Subscript a (.Slice lo hi none p2) pos) (iy fa fl fh):=.of (
 PE.imp (DM (oO.or II Eh) ha.un hl.un hh.un) λσ H Q h=>by
  obtain⟨ι,x,g,d,g',G0,S0,h,p⟩:=h
  obtain⟨⟨d1,g1⟩,h1,h⟩:=bind_some h
  obtain⟨⟨l,g2⟩,h2,h⟩:=bind_some h
  obtain⟨⟨u,g3⟩,h3,h⟩:=bind_some h
  refine tD.bind G0 S0 h1 λH1 ι1 v e1 G1 S1 r1=>?_
  refine⟨ι1,x,g1,l,g2,G1,S1,h2,λH2 ι2 s G2=>?_⟩
  refine⟨ι2,x,g2,u,g3,G2,S1.ext s,h3,λo ι3 y j=>?_⟩
  have i:=Rel.ext (s.trans y) _ r1
  have r:=p.mono (e1.trans (s.trans y))
  have lst:∀{xs:List D} {a:Addr} {f:List V},v = .ref a->c_ X.kw o a f->aj X.kw o ι3 xs f->some (D.lst (cutD xs l u),g3)=some (d,g')->Mc X.kw v l u o Q:=fun {xs a f} ev k e hh=>by
   cases hh
   refine .inr ⟨a,f,ev,k,λq b=>r _ _ _ (Ext.lay b) (j.lay b) ?_⟩
   simp only[Rel]
   exact⟨q,_,rfl,.inl ⟨.inl bG,j.fresh b,j.kL b⟩,aj.ext (Ext.lay b) _ (e.Mb l u)⟩
  dsimp only at h
  cases d1 with
  |tup xs =>
   simp only[iZ]at h
   cases h
   have r4:=i
   simp only[Rel]at i
   obtain⟨a,f,rfl,k,e⟩:=i
   by_cases z:kU xs.length l u=true
   . refine .inr ⟨a,f,rfl,k.sq,?_,r _ _ _ Ext.refl j ?_⟩
     . unfold kU at z
       rw[e.length,Zv,decide_eq_true_eq,decide_eq_true_eq]at z;exact z
     . rw[BF z];exact r4
   . refine .inl (.inl ⟨a,f,rfl,k.sq,λc=>z ?_,λq b=>r _ _ _ (Ext.lay b) (j.lay b) ?_⟩)
     . unfold kU
       rw[e.length,Zv,decide_eq_true_eq,decide_eq_true_eq];exact c
     . simp only[Rel]
       exact⟨q,_,rfl,.inl ⟨.inl bG,j.fresh b⟩,aj.ext (Ext.lay b) _ (e.Mb l u)⟩
  |lst xs =>
   simp only[iZ,Ma]at h
   simp only[Rel]at i
   obtain⟨a,f,m,k,e⟩:=i
   exact .inl (lst m k.sq e h)
  |ref n =>
   simp only[iZ,Ma]at h
   split at h
   . rename_i xs hx
     simp only[Rel]at i
     obtain⟨a,m,ha⟩:=i
     obtain⟨f,hv,e⟩:=j.at hx ha
     exact .inl (lst m (.of hv) e h)
   . cases h
  |_=>cases h)
end
@[simp] theorem IY {fa:FE}{fl fh:FO}{σ:Sg}{g:G}:iy fa fl fh σ g=(fa σ g).bind λr=>(fl σ r.2).bind λl=>(fh σ l.2).bind λh=>iZ r.1 l.1 h.1 h.2:=rfl
end L3
namespace L3
open PySem PySem.Spec PyProof.Rows L2
mutual
noncomputable def nd:D->Nat
 |.tup xs=>Rz xs+1
 |_=>1
noncomputable def Rz:List D->Nat
 | []=>0
 |d::ds=>nd d+Rz ds
end
section
variable {X:Cx}
noncomputable def PB (K:KW):V->List V->Hp->VK->Prop:=λx b H Q=>∃a xs y j,x = .ref a/\c_ K H a (xs.map toV)/\b = [toV y]/\eO y=true/\xs.all eO=true/\pN xs y=some j/\Q (.int j) H
theorem BH:A7 X "list.index" (PB X.kw):=by
 intro pins s σ H x vs v us Q I rx rv h
 obtain⟨a,xs,y,j,rfl,hq,rfl,f,e,p,q⟩:=h
 cases rx
 obtain⟨u,rfl,ru⟩:=rv.one
 obtain⟨b,c,pl,hz⟩:=I.list hq
 obtain⟨⟨cls,dd,data,sl⟩,n,hg,h2,h3,r⟩:=id pl
 simp only at h2 h3 r
 subst h2 h3 r
 have fy:gP (toV y)=true:=(iw f (kY (K:=X.kw) (H:=H) (ι:=⟨[],[],λ_=>0⟩) f)).2
 have fx:(xs.map toV).all gP=true:=(lK e (pM (K:=X.kw) (H:=H) (ι:=⟨[],[],λ_=>0⟩) e)).2
 unfold pN at p
 rw[acJ]at p
 obtain⟨bU,hit,uP⟩:=p
 have hlen:(xs.map toV).length=b.length:=c.length
 rw[Z3]at hlen
 have o:j<b.toArray.size:=by rw[Zz];omega
 have item:∀m (hm:m<xs.length) (mx:m<b.toArray.size),xP (toV y) b.toArray[m]=aB xs[m] y:=λm hm mx=>by
  obtain⟨u',e',r'⟩:=c.get (i:=m) (x:=toV xs[m]) (by rw[ZG,Zs hm];rfl)
  have k:m<b.length:=by simpa using mx
  rw[Zs k]at e'
  cases e'
  have l:eO xs[m]=true:=ZY.mp e _ (Z2 hm)
  rw[List.getElem_toArray,uR r' (iw l (kY (K:=X.kw) (H:=H) (ι:=⟨[],[],λ_=>0⟩) l)).2,Gy l f]
 have Gx:b.length<=ZQ:=by
  have:=c.length
  first|omega| (simp only[Z3]at *;omega)
 have vH:ZQ<2 ^ 62:=by decide
 refine abj F.slot_list_index ⟨_,hg,rfl⟩ F.entry_list_index (F.args_list_index_2 _ _) (SeqAt.list_indexAt a b.toArray n none sl u (xP (toV y)) j o (by rw[Zz]at o;omega) (by rw[item j bU o];exact hit) (λm hm Mg=>by
  have k:m<xs.length:=by omega
  rw[item m k hm]
  simpa using uP m Mg)) ⟨hg,λz hz=>pF ru fy c fx z (by simpa using hz),?_⟩
 exact⟨.int j,H,I.tok _,⟨_,rfl⟩,q⟩
end
end L3
namespace TL
open PySem PySem.Spec PySem.SeqAt PyProof.Rows
open AutoSeq1 (wpAny_loadPart')
open MeetsSeq MeetsSeq2 MeetsSeq3 SeqRoads2
noncomputable def lM (A:Z0)(s:Zq)(y x:Value)(b:Bool):Prop :=
 ∀(prog:ZW) (w:World) (E:Value->Zq->Prop) (Q:Value->Zq->Prop),Q (.bool b) s->wpAny (model prog w) A (richCompare .Lt y x) Q E s
inductive Lex (A:Z0)(s:Zq)(fin:Bool):List (Value×Value)->Bool->Prop
 |nil:Lex A s fin [] fin
 |eq {p q r k}:EqAt A s p q true->Lex A s fin r k->Lex A s fin ((p,q)::r) k
 |ne {p q r k}:EqAt A s p q false->lM A s p q k->Lex A s fin ((p,q)::r) k
theorem zP (l b:Addr)(items e_:Array Value)(n n2:Nat)(dd mN:Option Addr)(sl l_:Array (Option Value))(k:Bool):
  Meets (aaY.«tuple.__lt__» ⟨[.ref l,.ref b],[]⟩)
   (λA R s=>s.heap.get? l=some { cls:=.type "tuple",dict:=dd,data:=.seq items n,slots:=sl }/\s.heap.get? b=some { cls:=.type "tuple",dict:=mN,data:=.seq e_ n2,slots:=l_ } /\
    Lex A.in1 s (decide (items.size<e_.size)) (items.toList.zip e_.toList) k/\R (.ok (.ret (.bool k))) s):=
 .of_wp λprog w A R s h=>by
  obtain⟨f,g,d,i,os⟩:=s;obtain⟨m,j,he,h⟩:=h
  have f2:=aa9
  wp_walk using wpAny_loadPart' m,wpAny_loadPart' j,abE _ (λrest b a=>b.1=none/\a=⟨f,g,d,i,os⟩/\Lex A.in1 ⟨f,g,d,i,os⟩ (decide (items.size<e_.size)) rest k) _
  case turn =>
   rintro⟨y,x⟩ rest b a ⟨c,rfl,e⟩
   cases e with
   |eq e1 e2 =>
    refine Zn (e1 prog w _ _ ?_)
    wp_walk
    exact⟨rfl,rfl,e2⟩
   |ne e1 e2 =>
    refine Zn (e1 prog w _ _ ?_)
    simp only[ZO,if_true]
    refine Zn (aa1 ?_)
    refine Zn (e2 prog w _ _ ?_)
    wp_walk
    exact⟨_,rfl,h⟩
  case fin =>
   rintro⟨p,o⟩ a ⟨c,rfl,e⟩
   simp only at c
   subst c
   cases e
   wp_walk
   exact⟨_,rfl,by simpa[Builtin.Tuple.tupleCompareSizes]using h⟩
  case h =>
   exact⟨rfl,rfl,he⟩
section
variable {A:Z0}{s:Zq}
theorem lM.tuples {l b:Addr}{items e_:Array Value}{k:Bool}(hl:s.heap.IsTuple l items)(hb:s.heap.IsTuple b e_)(hu:A.units<cLine)
  (he:Lex A.in1 s (decide (items.size<e_.size)) (items.toList.zip e_.toList) k):lM A s (.ref l) (.ref b) k:=λprog w E Q h=>by
 obtain⟨⟨cls,j,data,m⟩,a,f,n,hd⟩:=id hl
 obtain⟨⟨p,i,data2,o⟩,e,c,n2,hd2⟩:=id hb
 simp only at f hd c hd2
 subst f hd c hd2
 exact richCompare_meets_room (op:=.Lt) ⟨_,a,rfl⟩ ⟨_,e,rfl⟩ F.slot_tuple_lt F.entry_tuple_lt (F.args_tuple_lt_2 _ _) (zP l b items e_ n n2 j i m o k)
  ⟨a,e,he,show acW k≠ac8/\Q (.bool k) s from⟨(λx=>nomatch x),h⟩⟩ hu
theorem lM.ints (a b:Int)(t u:Tok):lM A s (.int a t) (.int b u) (decide (a<b)):=λprog w E Q h =>
 aep (op:=.Lt) (acx s a t) (acx s b u) slot_int_lt (call_int_lt ⟨(λx=>nomatch x),h⟩)
theorem lM.strs (a b:Str)(t u:Tok):lM A s (.str a t) (.str b u) (decide (a.cps.toList<b.cps.toList)):=λprog w E Q h =>
 aep (op:=.Lt) (aeG s a t) (aeG s b u) slot_str_lt (call_str_lt ⟨(λx=>nomatch x),h⟩)
end
open PySem.W
section
variable {prog:ZW}{w:World}{A:Z0}{E:Value->Zq->Prop}{s:Zq}
noncomputable def cZ (h:Heap)(a:Addr)(vs:List Value):Heap:=((h.update a (aa7 λ_=>#[])).push (aaL "tuple" vs.toArray 0)).push (aaL "list" #[] 0)
theorem oW {h:Heap}{a b:Addr}{vs:List Value}{o:Obj}(hb:b≠a)(ho:h.get? b=some o):(cZ h a vs).get? b=some o:=by
 unfold cZ
 have c:=ZH ho
 rw[abb _ _ _ (by rw[size_push',ab7];exact ZX (aaI c)),abb _ _ _ (by rw[ab7];exact ZX c),ae1 _ _ _ _ hb]
 exact ho
end
end TL
namespace L3
open PySem PySem.Spec PyProof.Rows L2
noncomputable def Mr:D->D->Option Bool
 |.int a,.int b=>some (decide (a<b))
 |.str a,.str b=>some (decide (a.cps.toList<b.cps.toList))
 |_,_=>none
noncomputable def gh (nn L:Nat)(t:FG)(c:FT)(e:FE):Nat->Sg->G->Option (List D×G)
 | 0,_,g=>(g[nn]?).bind λxs=>if xs.length=L then some ([],g)else none
 |r+1,σ,g=>(g[nn]?).bind λxs=>if xs.length=L then(xs[L-(r+1)]?).bind λd=>(t d σ g).bind λq=>(c q.1 q.2).bind λk=>if k.1=true then(e q.1 k.2).bind λa=>(gh nn L t c e r q.1 a.2).bind λz=>some (a.1::z.1,z.2)else gh nn L t c e r q.1 k.2 else none
abbrev oY:=Sg->G->Option (Nat×Nat×G)
noncomputable def zQ (K:KW)(J:It)(H:Hp)(ι:Ix)(nn L:Nat):Prop :=
 ∀(i:Nat) H1 ι1 g1,jH H ι H1 ι1->az K H1 ι1 g1->∀xs,g1[nn]? = some xs->xs.length=L->(L<=i->J.stop i H1) /\ ∀d,xs[i]? = some d->J.go i H1 /\ ∀x H2,J.AQ i H1 x H2->Ext H1 ι1 H2 ι1/\az K H2 ι1 g1/\Rel K H2 ι1 d x
inductive Ms (K:KW)(f:oY)(σ:L2.St)(H:Hp)(R:(It->Hp->Prop)):Prop
 |mk (ι:Ix) (σd:Sg) (g:G) (nn:Nat) (L:Nat) (g':G) (h0:az K H ι g) (h1:bR K H ι σd σ) (h2:f σd g=some (nn,L,g')) (h3:∀H' ι' J,Ext H ι H' ι'->az K H' ι' g'->zQ K J H' ι' nn L->R J H'):Ms K f σ H R
structure GA (X:Cx)(tg iter:Expr)(f:oY):Prop where of ::
 un:PI X tg iter (Ms X.kw f)
noncomputable def rQ (f:FE):oY:=λσ g=>(f σ g).bind λr=>match r.1 with|.ref n=>(r.2[n]?).bind λxs=>some (n,xs.length,r.2)|_=>none
theorem zQ.ref {K H ι a n L}(h:cR ι n a false):zQ K (F7 K a) H ι n L:=λi H1 p g1 j c xs k o=>by
 obtain⟨vs,m,e⟩:=c.at k (j.at h)
 have b:c_ K H1 a vs:=.inl (.inl m)
 refine⟨λh=>⟨vs,b,by rw[<- e.length];omega⟩,λd hd=>?_⟩
 obtain⟨v,f,l⟩:=e.get hd
 refine⟨⟨vs,v,b,f⟩,λx q y=>?_⟩
 obtain⟨rfl,y⟩:=y
 have:=y vs b
 rw[f]at this;cases this
 exact⟨Ext.refl,c,l⟩
theorem x_ {X:Cx}{tg l:Expr}{fe:FE}(hl:DE X l fe):GA X tg l (rQ fe):=.of (PI.imp (xM hl.un) λσ H Q h=>by
 obtain⟨ι,s,g,nn,L,x,G0,k,h,p⟩:=h
 obtain⟨⟨q,g1⟩,r,h⟩:=bind_some h
 cases q with
 |ref n =>
  obtain⟨xs,i,h⟩:=bind_some h
  cases h
  refine tD.bind G0 k r λH1 j v f b S1 c=>?_
  simp only[Rel]at c
  obtain⟨a,rfl,e⟩:=c
  obtain⟨m,o,u⟩:=b.at i e
  exact⟨a,rfl,⟨m,.inl (.inl o)⟩,p H1 j _ f b (.ref e)⟩
 |_=>cases h)
noncomputable def iS (mk:List D->G->Option (D×G))(fi:oY)(fr:List (Option Nat))(t:FG)(c:FT)(e:FE):FE:=λσ g=>(fi σ g).bind λr=>if aD r.2.1=true then(gh r.1 r.2.1 t c e r.2.1 (bZ fr σ) r.2.2).bind λq=>mk q.1 q.2 else none
noncomputable def Mt (fi:oY):qo:=λσ g=>(fi σ g).map λr=>(λg=>g[r.1]?,r.2.1,r.2.2)
theorem ya {X:Cx}{tg iter:Expr}{fi:oY}(h:GA X tg iter fi):ve X tg iter (Mt fi):=.of (PI.imp h.un λσ H Q q=>by
 obtain⟨ι,c,g,o,L,r,G0,k,f,p⟩:=q
 obtain⟨⟨nn,a,g1⟩,n,e⟩:=ZM.mp f
 cases e
 exact⟨ι,c,g,nn,a,g1,G0,k,n,λi m J b j l=>p i m J b j l⟩)
theorem vI {nn L:Nat}{t:FG}{c:FT}{e:FE}:∀(k:Nat) (σ:Sg) (g:G),gh nn L t c e k σ g=dh (λg=>g[nn]?) L t c e k σ g
 | 0,σ,g=>by simp only[gh,dh]
 |k+1,σ,g=>by simp only[gh,dh,vI k]
theorem vJ {mk:List D->G->Option (D×G)}{fi:oY}{fr:List (Option Nat)}{t:FG}{c:FT}{e:FE}:iS mk fi fr t c e=jK mk (Mt fi) fr t c e:=by
 funext σ g
 unfold iS jK Mt
 cases fi σ g with
 |none=>rfl
 |some r=>simp only[Zw,aaV,vI]
section
variable {X:Cx}{tg iter elt:Expr}{ifs:List Expr}{scope:Scope}{pos cK:Pos}{N:List Str}{fr:List (Option Nat)}{fi:oY}{t:FG}{c:FT}{e:FE}
theorem Ei (gE:X.xe=λ_ _=>False)(hc:X.calm=true)(ok:dU X N fr scope)(hit:GA X tg iter fi)(cF:∀C s3 H fp pins,DG (ba X N scope C s3 H fp pins) tg t/\gu (ba X N scope C s3 H fp pins) ifs c/\DE (ba X N scope C s3 H fp pins) elt e)
  (hs:∀x,aaf iter X.env x=pure x:=by intro _;rfl):DE X (.ListComp elt [⟨tg,iter,ifs,0⟩] scope pos) (iS b4 fi fr t c e):=by
 rw[vJ];exact vm gE hc ok (ya hit) cF hs
end
section
variable {σ:Sg}{g:G}{fa:FE}
@[simp] theorem IZ:rQ fa σ g=(fa σ g).bind λr=>match r.1 with|.ref n=>(r.2[n]?).bind λxs=>some (n,xs.length,r.2)|_=>none:=rfl
@[simp] theorem BI {mk:List D->G->Option (D×G)}{fi:oY}{fr:List (Option Nat)}{t:FG}{c:FT}:iS mk fi fr t c fa σ g=(fi σ g).bind λr=>if aD r.2.1=true then(gh r.1 r.2.1 t c fa r.2.1 (bZ fr σ) r.2.2).bind λq=>mk q.1 q.2 else none:=rfl
end
section
variable {X:Cx}{tg iter elt:Expr}{ifs:List Expr}{scope:Scope}{pos cK:Pos}{N:List Str}{fr:List (Option Nat)}{fi:FI}{t:FG}{c:FT}{e:FE}
theorem Ej (gE:X.xe=λ_ _=>False)(hc:X.calm=true)(ok:dU X N fr scope)(hit:DI X tg iter fi)(cF:∀C s3 H fp pins,DG (ba X N scope C s3 H fp pins) tg t/\gu (ba X N scope C s3 H fp pins) ifs c/\DE (ba X N scope C s3 H fp pins) elt e)
  (hs:∀x,aaf iter X.env x=pure x:=by intro _;rfl):DE X (.ListComp elt [⟨tg,iter,ifs,0⟩] scope pos) (bP kB fi fr t c e):=by
 rw[nS];exact sQ gE hc ok (mV hit) cF hs
end
noncomputable def bF:FE:=λ_ _=>none
theorem bW {X:Cx}{e:Expr}:DE X e bF:=.of (λpins s σ H Q I h=>by
 obtain⟨ι,a,g,d,c,G0,b,h,p⟩:=h
 cases h)
@[simp] theorem Ux {σ:Sg}{g:G}:bF σ g=none:=rfl
end L3
namespace L3
open PySem PySem.Spec PyProof.Rows L2
open Sem (wp)
open Builtin
section
variable {X:Cx}
noncomputable def nY (ds:List D)(g:G):Option (D×G):=match ds with| [d]=>(jh d g).bind λxs=>(et xs).bind λns=>ns.max?.map λm=>(.int m,g)|_=>none
theorem I0 (hh:X.A.handled=none):b_ X (.builtin "max") (gC X.kw nY):=by
 intro pins s σ H xs us Q I r q
 obtain⟨ι,g,ds,d,g',G0,f,q,p⟩:=q
 cases ds with
 |nil=>cases q
 |cons e qu =>
 cases qu with
 |cons _ _=>cases q
 |nil =>
  simp only[nY]at q
  obtain⟨ys,n,q⟩:=bind_some q
  obtain⟨ns,hn,q⟩:=bind_some q
  obtain⟨m,hm,q⟩:=ZM.mp q
  cases q
  simp only[aj]at f
  obtain⟨v,_,rfl,x,rfl⟩:=f
  obtain⟨a,vs,rfl,hq,hr⟩:=jM G0 x n
  cases r with
  |cons ru rr =>
   cases rr
   cases ru
   obtain⟨av,u,y,_⟩:=I.list hq
   obtain⟨b,rfl,rfl⟩:=lL (m8 hn hr u)
   obtain⟨c,m2⟩:=List.max?_eq_some_iff.mp hm
   have z:(b.map (λp=>aeb p.1 p.2)).toArray=intItems b.toArray:=by simp[intItems]
   have h:=y.isList
   rw[z]at h
   have k:0<b.toArray.size:=by
    cases b with
    |nil=>simp at c
    |cons _ _=>simp
   refine max_intList hh h k λv h' tk hv hk=>?_
   obtain⟨t,rfl⟩:=intItems_at hv
   obtain⟨h1,h2⟩:=argBest_gt (numAt b.toArray) (b.toArray.size-1)
   have e:numAt b.toArray (argBest (λi j=>decide (numAt b.toArray i>numAt b.toArray j)) (b.toArray.size-1))=m:=by
    have key:∀j,j<b.length->numAt b.toArray j=(b.map (·.1)).getD j 0:=λj l=>by rw[ab6]
    have o:numAt b.toArray (argBest (λi j=>decide (numAt b.toArray i>numAt b.toArray j)) (b.toArray.size-1))∈b.map (·.1):=by
     rw[ab6];exact getD_mem (by rw[Z3];simp at k h1 ⊢;omega)
    refine aga (m2 _ o) ?_
    obtain⟨j,l,ej⟩:=mem_getD c
    rw[<- ej]
    have:=h2 j (by simp at l ⊢;omega)
    rw[ab6]at this
    rw[ab6]
    simpa[ab6]using this
   rw[e]
   exact⟨.int m,H,I.kept hk,⟨_,rfl⟩,p H ι _ Ext.refl G0 (by simp[Rel])⟩
theorem noFill_list_mul:fillsNumberSlot (.type "list") "mul" = pure false :=
 adO (id:="list.__mul__") (r:=some (.builtin "list.__rmul__")) F.slot_list_mul.lookup (by decide +kernel) F.slot_list_rmul.lookup (by decide +kernel)
theorem repeat_list:aeJ (.type "list")=pure (some (.builtin "list.__mul__")):=by
 unfold aeJ
 rw[acQ (T:="list") (name:="__mul__") (id:="list.__mul__") F.slot_list_mul.lookup (by decide +kernel),acQ (T:="list") (name:="__rmul__") (id:="list.__rmul__") F.slot_list_rmul.lookup (by decide +kernel)]
 rfl
theorem tX (a:Int)(t:Tok)(l:Addr)(items:Array Value)(n:Nat)(dd:Option Addr)(sl:Array (Option Value)):
  Meets (aaY.«int.__rmul__» ⟨[.int a t,.ref l],[]⟩) (λ_ R s=>s.heap.get? l=some { cls:=.type "list",dict:=dd,data:=.seq items n,slots:=sl }/\R (.ok (.ret ac8)) s):=
 .of_wp λprog w A R s h=>by obtain⟨e,g,d,c,os⟩:=s;obtain⟨b,h⟩:=h;wp_walk;exact⟨_,rfl,h⟩
theorem BJ (l:Addr)(items:Array Value)(n:Nat)(dd:Option Addr)(sl:Array (Option Value))(x:Int)(u:Tok)(h0:¬(!acb x)=true)
  (h3:¬items.size*x.toNat>(2 ^ 63-1) / 8) (h4:¬abD (items.size*x.toNat)=true) (cS:items.isEmpty=false) (f7:((Zo x.toNat items).foldl (· ++ ·) #[]).size<=ZQ):
  Meets (aaY.«list.__mul__» ⟨[.ref l,.int x u],[]⟩) (λ_ R s=>s.heap.get? l=some { cls:=.type "list",dict:=dd,data:=.seq items n,slots:=sl }/\R (.ok (.ret (abz s.heap.objs.size))) { s with heap:=s.heap.push { cls:=aaD "list",data:=afP ((Zo x.toNat items).foldl (· ++ ·) #[]) },toks:=s.toks }):=
 .of_wp λprog w A R s h=>by
  obtain⟨c,g,d,b,os⟩:=s;obtain⟨a,h⟩:=h
  have f1:=ab5;have f2:=aem
  wp_walk using aae a
  exact⟨_,rfl,by rw[if_neg (by simp[cS])];exact h⟩
noncomputable def PC (K:KW):R2:=λx y H Q=>∃a k xs,x = .ref a/\y = .int k/\c_ K H a xs/\xs ≠ []/\0<=k/\k<2 ^ 62/\xs.length*k.toNat<=16777216 /\ ∀p,H p=none->Q (.ref p) (upd H p (.lst (Zo k.toNat xs).flatten))
theorem I_:bO X (aaz .Mult) (PC X.kw):=by
 intro pins s σ H x y v u Q I rx ry h
 obtain⟨a,k,xs,rfl,rfl,hq,z,h1,h2,q,q2⟩:=h
 cases rx
 obtain⟨t,rfl⟩:=ry
 obtain⟨c,r,ht,Gx⟩:=I.list hq
 have hl:=r.length
 obtain⟨⟨cls,dd,data,l⟩,n,f,p,m,hd⟩:=id ht
 simp only at p hd m
 subst p hd m
 refine adP (T:="list") (U:="int") (by decide) ⟨_,f,rfl⟩ (λs'=>acx s' k t) noFill_list_mul F.fills_int_mul F.slot_int_rmul repeat_list F.slot_int_index.lookup
   (abj F.slot_int_rmul (acx s k t) F.entry_int_rmul (F.args_int_rmul_2 _ _) (tX k t a c.toArray n none l) ⟨f,rfl,⟨_,f,rfl⟩,?_⟩)
 have hi:c ≠ []:=λe=>z (by subst e;cases r;rfl)
 have fresh:H s.heap.objs.size=none:=I.bo.fresh (ZA _)
 have o:af6 (λx1 x2=>x1++x2) #[] (Zo k.toNat c.toArray)=(Zo k.toNat c).flatten.toArray:=by
   have:=foldl_rep c k.toNat []
   rw[abp]at this
   exact this
 have i:ZQ=16777216:=aaP
 have j:c.length*k.toNat<=16777216:=by rw[<- hl];exact q
 have Uy:¬(!acb k)=true:=by
   unfold acb
   simp
   omega
 have PD:¬abD (c.toArray.size*k.toNat)=true:=by
   rw[DN (by rw[Zz,i];exact j)]
   simp
 refine abj F.slot_list_mul ⟨_,f,rfl⟩ F.entry_list_mul (F.args_list_mul_2 _ _) (BJ a c.toArray n none l k t Uy (by rw[Zz];omega) PD (by simp[hi]) ?_) ⟨f,?_⟩
 . rw[o,Zz,len_rep,ac_,i];exact j
 . rw[o]
   refine⟨.ref _,_,I.laid (t':=s.toks) (λb u e=>Zy _ e) (ZA _) (show cY X.prog X.w _ _ _ (.lst (Zo k.toNat xs).flatten) from⟨by rw[len_rep,ac_,i];exact q,_,0,r.rep k.toNat,ZF _ rfl⟩),rfl,q2 _ fresh⟩
end
section
variable {σ:Sg}{g:G}
@[simp] theorem Uz {d:D}:nY [d] g=(jh d g).bind λxs=>(et xs).bind λns=>ns.max?.map λm=>(.int m,g):=rfl
end
end L3
namespace L3
open PySem PySem.Spec PyProof.Rows L2
noncomputable abbrev RB (h:Heap)(a:Addr):Heap:=h.push { cls:=.type "list_iterator",data:=.fields #[.ref a,.int 0 0] }
noncomputable abbrev Mu (h:Heap)(a b:Addr):Heap:=RB (RB h a) b
end L3
namespace DK
open PySem PySem.Spec PyProof.Rows L2 L3 SeqAt
def fJ (s:Zq)(m:Nat)(u:Value):Prop:=∀(prog:ZW) (w:World) (A:Z0) (E:Value->Zq->Prop) (Q:Bool->Zq->Prop),Q true s->wpAny (model prog w) A (aee m u) Q E s
structure GB (A:Z0)(s:Zq)(key:Value)(h:Int)(es:Array Z4)(t:Nat->Bool):Prop where
 eq:∀i e,es[i]? = some e->e.hash=h->EqAt A s e.key key (t i)
 hs:∀i e,es[i]? = some e->t i=true->e.hash=h
 qk:fJ s 8 key
 qe:∀e∈es,fJ s 8 e.key
 rf:∀e∈es,e.key=key->e.hash=h
 un:∀i j,i<es.size->j<es.size->t i=true->t j=true->i=j
 st:∀x tk,key = .str x tk->∀i e,es[i]? = some e->isExactStrKey e.key=true->e.key.isStr x=t i
section
variable {prog:ZW}{w:World}{A:Z0}{E:Value->Zq->Prop}{s:Zq}{d:Addr}{o:Obj}{es:Array Z4}{ep:Nat}{key:Value}{h:Int}{t:Nat->Bool}{Q:Option Nat->Zq->Prop}
theorem pP {stored:List Value}{Q:Bool->Zq->Prop}(hk:fJ s 8 key)(dA:∀v∈stored,fJ s 8 v)(q:Q false s):wpAny (model prog w) A (tableMayTell key stored) Q E s:=by
 unfold tableMayTell
 split
 . exact Zu q
 refine Zn (hk prog w _ _ _ ?_)
 simp only[ZP,Z1,if_false]
 refine Zn (abE _ (λrest r z=>z=s/\r=(none,()) /\ ∀v∈rest,fJ s 8 v) _ ?_ ?_ _ _ ⟨rfl,rfl,dA⟩)
 . rintro x rest r z ⟨rfl,rfl,a⟩
   refine Zn (a x ZR prog w _ _ _ ?_)
   simp only[ZP,Z1,if_false]
   exact Zu ⟨rfl,rfl,λv b=>a v (ZV _ b)⟩
 . rintro r z ⟨rfl,rfl,_⟩
   exact Zu q
theorem lN {i:Nat}:i∈aax es.size (λi=>es[i]?.map (·.hash)) h ↔ ∃e,es[i]? = some e/\e.hash=h:=by
 unfold aax
 simp only[aaE,Z_,beq_iff_eq,ZM]
 constructor
 . rintro⟨_,e,a,b⟩;exact⟨e,a,b⟩
 . rintro⟨e,a,b⟩;exact⟨(acd.mp a).1,e,a,b⟩
theorem vK:(aax es.size (λi=>es[i]?.map (·.hash)) h).Nodup:=by
 unfold aax
 exact ad3.sublist ae2
theorem rR (ho:s.heap.get? d=some o)(hd:o.data = .dict es ep)(K:GB A s key h es t)(hn:(∀i,i<es.size->t i=false)->Q none s)(hy:∀i,i<es.size->t i=true->Q (some i) s):
  wpAny (model prog w) A (dictFind d key h) Q E s:=by
 have none_of:(∀i∈aax es.size (λi=>es[i]?.map (·.hash)) h,t i=false)->Q none s:=λz=>hn λi c=>by
  cases ht:t i with
  |false=>rfl
  |true =>
    have k:=abx c
    rw[z i (lN.mpr ⟨_,k,K.hs i _ k ht⟩)]at ht;cases ht
 have gen:∀tells:Bool,tells=false->wpAny (model prog w) A (do
    let mut hit:Option Nat:=none
    for i in aax es.size (λi=>es[i]?.map (·.hash)) h do
      if let some e:=es[i]? then
        if e.hash == h then
          let before <- dictEpoch d (keyPart key)
          let same <- eqBool e.key key
          if(<- dictEpoch d (keyPart key)) != before then unsupported "dict.changed-during-lookup"
          if same then
            if hit.isSome then unsupported "dict.find:order-among-keys-of-one-hash"
            rule "dict.find.hit"
            if((aax es.size (λi=>es[i]?.map (·.hash)) h).filterMap λi=>es[i]?.map (·.key)).length<2 then return some i
            hit:=some i
          else
            rule "dict.find.same-hash-other-key"
            if tells && !(0<=h&&h<32)then unsupported "dict.find:asked-again-or-not-hangs-on-the-table"
    return hit) Q E s:=λtells Xq=>by
  subst Xq
  refine Zn (abE _ (λrest (b:Option (Option Nat)×Option Nat) z=>z=s /\ ∃done,aax es.size (λi=>es[i]?.map (·.hash)) h=done++rest/\b.1=none /\
    ((b.2=none /\ ∀i∈done,t i=false) \/ ∃i,b.2=some i/\i∈done/\i<es.size/\t i=true)) _ ?_ ?_ _ _ ⟨rfl,[],rfl,rfl,.inl ⟨rfl,λi z=>by simp at z⟩⟩)
  . rintro x rest ⟨y,hit⟩ z ⟨rfl,done,f,rfl,j⟩
    have p:x∈aax es.size (λi=>es[i]?.map (·.hash)) h:=by rw[f];simp
    obtain⟨e,he,m⟩:=lN.mp p
    have n:x<es.size:=(acd.mp he).1
    have r:aax es.size (λi=>es[i]?.map (·.hash)) h=(done ++ [x])++rest:=by rw[f];simp
    rw[he]
    dsimp only at j ⊢
    rw[if_pos (by simpa using m)]
    refine Zn (aaX ho hd (Zn (K.eq x e he m prog w _ _ (Zn (aaX ho hd ?_)))))
    rw[if_neg (by simp)]
    cases ht:t x with
    |true =>
      have h0:hit=none:=by
        rcases j with⟨h0,_⟩|⟨i,_,c,oT,vF⟩
        . exact h0
        . have:=K.un i x oT n vF ht
          subst this
          have nd:=vK (es:=es) (h:=h)
          rw[f,abS]at nd
          exact absurd rfl (nd.2.2 i c i ZR)
      subst h0
      simp only[if_true,Option.isSome_none,Z1,if_false]
      try refine Zn (Zu ?_)
      refine Zn (aa1 ?_)
      split
      . exact Zu (Zu (hy x n ht))
      . exact Zu ⟨rfl,done ++ [x],r,rfl,.inr ⟨x,rfl,by simp,n,ht⟩⟩
    |false =>
      simp only[Z1,if_false,agj]
      refine Zn (aa1 ?_)
      refine Zu ⟨rfl,done ++ [x],r,rfl,?_⟩
      rcases j with⟨h0,hz⟩|⟨i,l,c,oT,vF⟩
      . exact .inl ⟨h0,λi c=>by
          rcases ZN.mp c with c|c
          . exact hz i c
          . simp at c;subst c;exact ht⟩
      . exact .inr ⟨i,l,ZN.mpr (.inl c),oT,vF⟩
  . rintro⟨y,hit⟩ z ⟨rfl,done,f,rfl,j⟩
    dsimp only at j ⊢
    refine Zu ?_
    rcases j with⟨rfl,hz⟩|⟨i,rfl,_,oT,vF⟩
    . exact none_of (by rw[f];simpa using hz)
    . exact hy i oT vF
 have plain:wpAny (model prog w) A (dictWalkPlain d key h es (aax es.size (λi=>es[i]?.map (·.hash)) h)) Q E s:=by
  unfold dictWalkPlain
  refine Zn (abE _ (λrest b z=>z=s /\ ∃done,aax es.size (λi=>es[i]?.map (·.hash)) h=done++rest/\b=(none,()) /\ ∀i∈done,t i=false) _ ?_ ?_ _ _ ⟨rfl,[],rfl,rfl,λi z=>by simp at z⟩)
  . rintro x rest b z ⟨rfl,done,f,rfl,j⟩
    have p:x∈aax es.size (λi=>es[i]?.map (·.hash)) h:=by rw[f];simp
    obtain⟨e,he,m⟩:=lN.mp p
    have n:x<es.size:=(acd.mp he).1
    rw[he]
    dsimp only
    rw[if_pos (by simpa using m)]
    refine Zn (aaX ho hd (Zn (K.eq x e he m prog w _ _ (Zn (aaX ho hd ?_)))))
    rw[if_neg (by simp)]
    cases ht:t x with
    |true =>
      simp only[if_true]
      refine Zn (aa1 ?_)
      exact Zu (Zu (hy x n ht))
    |false =>
      simp only[Z1,if_false]
      refine Zn (aa1 ?_)
      refine Zu ⟨rfl,done ++ [x],by rw[f];simp,rfl,λi c=>?_⟩
      rcases ZN.mp c with c|c
      . exact j i c
      . simp at c;subst c;exact ht
  . rintro b z ⟨rfl,done,f,rfl,j⟩
    exact Zu (none_of (by rw[f];simpa using j))
 have keys:∀v∈(aax es.size (λi=>es[i]?.map (·.hash)) h).filterMap (λi=>es[i]?.map (·.key)),fJ s 8 v:=λv hv=>by
  obtain⟨i,_,c⟩:=abK.mp hv
  obtain⟨e,he,rfl⟩:=ZM.mp c
  exact K.qe e (acT he)
 unfold dictFind
 refine Z5 ?_
 refine Zn (abt ho hd ?_)
 cases key with
 |str x tk =>
  refine aap (λlH=>?_) (λ_=>?_)
  . unfold foundByValue
    have u:∀i e,es[i]? = some e->e.key.isStr x=t i:=λi e he=>K.st x tk rfl i e he (Array.all_eq_true_iff_forall_mem.mp lH e (acT he))
    cases hf:es.findIdx? (·.key.isStr x)with
    |none =>
      refine Zu (hn λi c=>?_)
      rw[<- u i _ (abx c)]
      simpa using (Array.findIdx?_eq_none_iff.mp hf) es[i] (aft c)
    |some i =>
      obtain⟨c,l,_⟩:=Array.findIdx?_eq_some_iff_getElem.mp hf
      have k:=abx c
      rw[u i _ k]at l
      dsimp only
      rw[k]
      refine Zn (aaX ho hd (Zn (K.eq i _ k (K.hs i _ k l) prog w _ _ (Zn (aaX ho hd ?_)))))
      refine aap (λz=>by simp at z) (λ_=>?_)
      rw[l]
      exact Zn (aa1 (Zu (hy i c l)))
  . refine aap (λ_=>plain) (λ_=>?_)
    refine aap (λ_=>Zn (Zu ?_)) (λ_=>Zn (pP K.qk keys ?_))<;>
      exact aap (λz=>by simp at z) (λ_=>gen false rfl)
 |ref a =>
  refine aap (λz=>by simp[carriedByValue]at z) (λ_=>?_)
  refine aap (λz=>?_) (λ_=>?_)
  . rw[<- Array.any_toList,ad2]at z
    obtain⟨e,he,q⟩:=z
    simp only[Zv,beq_iff_eq,bne_iff_ne,ne_eq]at q
    exact absurd (K.rf e (aeL.mp he) q.1) q.2
  . refine aap (λ_=>Zn (Zu ?_)) (λ_=>Zn (pP K.qk keys ?_))<;>
      exact aap (λz=>by simp at z) (λ_=>gen false rfl)
 |_ =>
  refine aap (λ_=>plain) (λ_=>?_)
  refine aap (λ_=>Zn (Zu ?_)) (λ_=>Zn (pP K.qk keys ?_))<;>
    exact aap (λz=>by simp at z) (λ_=>gen false rfl)
end
section
variable {X:Cx}{pins:List (Addr×Obj)}{σ:L2.St}{H:Hp}{ι:Ix}{prog:ZW}{E:Value->Zq->Prop}
mutual
theorem qy:∀(d:D) {n:Nat} {s:Zq} {A:Z0} {x:V} {u:Value} {Q:Int->Zq->Prop},Inv X pins σ H s->aY n d=true->Rel X.kw H ι d x->RelV x u->A.units+n<cLine ->
  (∀tk,Q (hD X.w d) { s with toks:=tk })->wpAny (model prog X.w) A (pyHash u) Q E s
 |.aq,n,s,A,x,u,Q,I,k,r,ru,hu,q=>by
  simp only[Rel]at r;subst r;cases ru
  simp only[hD]at q
  exact ae3 (T:="NoneType") rfl F.slot_NoneType_hash F.entry_NoneType_hash (F.args_NoneType_hash_1 _) (ad4 _) (.inr (by omega)) (Zn (Zu (Zn (wpAny_mkInt (Zu ⟨_,_,rfl,q _⟩)))))
 |.int i,n,s,A,x,u,Q,I,k,r,ru,hu,q=>by
  simp only[Rel]at r;subst r;obtain⟨t,rfl⟩:=ru
  simp only[hD]at q
  exact wpAny_pyHash_int (q _)
 |.str y,n,s,A,x,u,Q,I,k,r,ru,hu,q=>by
  simp only[Rel]at r;subst r;obtain⟨t,rfl⟩:=ru
  simp only[hD]at q
  exact wpAny_pyHash_str (q _)
 |.tup xs,n+1,s,A,x,u,Q,I,k,r,ru,hu,q=>by
  simp only[Rel]at r
  obtain⟨a,v,rfl,p,f⟩:=r
  cases ru
  obtain⟨z,h,⟨o,c,j,m,e⟩,_⟩:=I.tuple p.sq
  simp only[hD]at q
  simp only[aY]at k
  refine ae3 (T:="tuple") ⟨o,c,j⟩ F.slot_tuple_hash F.entry_tuple_hash (F.args_tuple_hash_1 _) (ad4 _) (.inr (by omega)) ?_
  show wpAny _ _ (ab_ (.ref a) >>= _) _ _ s
  refine Zn (wpAny_tupleItemsOf c e (Zn ?_))
  rw[<- afd]
  refine yb xs (acc:=#[]) I k f h (by rw[in1_units];omega) λtk b l=>?_
  show wpAny _ _ (retInt (adM b.toList)) _ _ _
  rw[l]
  exact Zn (wpAny_mkInt (Zu ⟨_,_,rfl,q _⟩))
 |.tup xs,0,s,A,x,u,Q,I,k,r,ru,hu,q=>by simp[aY]at k
 |.bl _,n,s,A,x,u,Q,I,k,r,ru,hu,q=>by simp[aY]at k
 |.lst _,n,s,A,x,u,Q,I,k,r,ru,hu,q=>by simp[aY]at k
 |.de,n,s,A,x,u,Q,I,k,r,ru,hu,q=>by simp[aY]at k
 |.ref _,n,s,A,x,u,Q,I,k,r,ru,hu,q=>by simp[aY]at k
 |.ax _,n,s,A,x,u,Q,I,k,r,ru,hu,q=>by simp[aY]at k
 |.fn _,n,s,A,x,u,Q,I,k,r,ru,hu,q=>by simp[aY]at k
theorem yb:∀(ds:List D) {n:Nat} {s:Zq} {A:Z0} {vs:List V} {us:List Value} {acc:Array Int} {Q:Array Int->Zq->Prop},Inv X pins σ H s->gQ n ds=true->aj X.kw H ι ds vs->Vals vs us->A.units+n<cLine ->
  (∀tk b,b.toList=acc.toList++Bb X.w ds->Q b { s with toks:=tk }) ->
  wpAny (model prog X.w) A (forIn us acc λx r=>do let h <- pyHash x;pure aeM;pure (aa8 (r.push h))) Q E s
 | [],n,s,A,vs,us,acc,Q,I,k,r,ru,hu,q=>by
  simp only[aj]at r;subst r;cases ru
  exact Zu (q s.toks acc (by simp[Bb]))
 |d::ds,n,s,A,vs,us,acc,Q,I,k,r,ru,hu,q=>by
  simp only[aj]at r
  obtain⟨v,i,rfl,f,c⟩:=r
  simp only[gQ,Zv]at k
  cases ru with
  |cons r0 rr =>
   rw[ac6]
   refine Zn (Zn (qy d I k.1 f r0 hu λtk=>Zn (Zu (Zu ?_))))
   exact yb ds (I.tok tk) k.2 c rr hu λa b e=>q a b (by simp[e,Bb])
end
mutual
theorem rS:∀(d:D) {n m:Nat} {s:Zq} {x:V} {u:Value},Inv X pins σ H s->aY n d=true->n<=m->Rel X.kw H ι d x->RelV x u->fJ s m u
 |.aq,n,m,s,x,u,I,k,hm,r,ru=>by
  simp only[Rel]at r;subst r;cases ru
  intro prog w A E Q q;unfold aee;exact Zu q
 |.int i,n,m,s,x,u,I,k,hm,r,ru=>by
  simp only[Rel]at r;subst r;obtain⟨t,rfl⟩:=ru
  intro prog w A E Q q;unfold aee;exact Zu q
 |.str y,n,m,s,x,u,I,k,hm,r,ru=>by
  simp only[Rel]at r;subst r;obtain⟨t,rfl⟩:=ru
  intro prog w A E Q q;unfold aee;exact Zu q
 |.tup xs,n+1,m,s,x,u,I,k,hm,r,ru=>by
  simp only[Rel]at r
  obtain⟨a,vs,rfl,hq,b⟩:=r
  cases ru
  obtain⟨av,l,⟨o,h,p,z,h3⟩,_⟩:=I.tuple hq.sq
  simp only[aY]at k
  intro prog w A E Q q
  have f:s.TypeIs (.ref a) "tuple":=⟨o,h,p⟩
  obtain⟨m,rfl⟩:∃j,m=j+1:=⟨m-1,by omega⟩
  unfold aee
  refine Zn (wpAny_specialOf f F.slot_tuple_eq.lookup ?_)
  show wpAny _ _ (isInstance (.ref a) (.type "tuple") >>= _) _ _ s
  refine Zn (wpAny_isInstance f isSubtype_tuple_tuple ?_)
  simp only[ZP,Z1,if_false]
  refine Zn (acz h h3 (Zn ?_))
  show wpAny _ _ (forIn av.toArray _ _) _ _ s
  rw[<- afd]
  have BK:=vL xs (m:=m) I k (by omega) b l
  refine abE _ (λrest r c=>r.1=none/\c=s /\ ∀v∈rest,fJ s m v) _ ?_ ?_ _ _ ⟨rfl,rfl,BK⟩
  . rintro v rest r c ⟨b,rfl,e⟩
    refine Zn (e v ZR prog w _ _ _ ?_)
    simp only[ZP,Z1,if_false]
    exact Zu ⟨rfl,rfl,λu Xr=>e u (ZV _ Xr)⟩
  . rintro⟨r1,r2⟩ c ⟨b,rfl,_⟩
    simp only at b
    subst b
    exact Zu q
 |.tup xs,0,m,s,x,u,I,k,hm,r,ru=>by simp[aY]at k
 |.bl _,n,m,s,x,u,I,k,hm,r,ru=>by simp[aY]at k
 |.lst _,n,m,s,x,u,I,k,hm,r,ru=>by simp[aY]at k
 |.de,n,m,s,x,u,I,k,hm,r,ru=>by simp[aY]at k
 |.ref _,n,m,s,x,u,I,k,hm,r,ru=>by simp[aY]at k
 |.ax _,n,m,s,x,u,I,k,hm,r,ru=>by simp[aY]at k
 |.fn _,n,m,s,x,u,I,k,hm,r,ru=>by simp[aY]at k
theorem vL:∀(ds:List D) {n m:Nat} {s:Zq} {vs:List V} {us:List Value},Inv X pins σ H s->gQ n ds=true->n<=m->aj X.kw H ι ds vs->Vals vs us->∀v∈us,fJ s m v
 | [],n,m,s,vs,us,I,k,hm,r,ru=>by
  simp only[aj]at r;subst r;cases ru
  intro v a;simp at a
 |d::ds,n,m,s,vs,us,I,k,hm,r,ru=>by
  simp only[aj]at r
  obtain⟨v,e,rfl,a,c⟩:=r
  simp only[gQ,Zv]at k
  cases ru with
  |cons r0 rr =>
   intro z b
   rcases ZI.mp b with rfl|b
   . exact rS d I k.1 hm a r0
   . exact vL ds I k.2 hm c rr z b
end
end
mutual
theorem jO:∀(d:D) {n:Nat},aY n d=true->flat d=true/\dep d<=n
 |.aq,n,h=>⟨rfl,aab _⟩
 |.int _,n,h=>⟨rfl,aab _⟩
 |.str _,n,h=>⟨rfl,aab _⟩
 |.tup xs,n+1,h=>by
  simp only[aY]at h
  obtain⟨a,b⟩:=sT xs h
  exact⟨a,by simp only[dep];omega⟩
 |.tup xs,0,h=>by simp[aY]at h
 |.bl _,n,h=>by simp[aY]at h
 |.lst _,n,h=>by simp[aY]at h
 |.de,n,h=>by simp[aY]at h
 |.ref _,n,h=>by simp[aY]at h
 |.ax _,n,h=>by simp[aY]at h
 |.fn _,n,h=>by simp[aY]at h
theorem sT:∀(ds:List D) {n:Nat},gQ n ds=true->aN ds=true/\bS ds<=n
 | [],n,h=>⟨rfl,aab _⟩
 |d::ds,n,h=>by
  simp only[gQ,Zv]at h
  obtain⟨a,b⟩:=jO d h.1
  obtain⟨c,e⟩:=sT ds h.2
  exact⟨by simp[aN,a,c],by simp only[bS];omega⟩
end
mutual
theorem fq:∀(d e:D) {n m:Nat},aY n d=true->aY m e=true->(aB d e=true ↔ d=e)
 |.aq,e,n,m,h,k=>by cases e<;>simp_all[aY,aB]
 |.int _,e,n,m,h,k=>by cases e<;>simp_all[aY,aB]
 |.str _,e,n,m,h,k=>by cases e<;>simp_all[aY,aB]
 |.tup xs,e,n+1,m,h,k=>by
  cases e with
  |tup ys =>
   cases m with
   |zero=>simp[aY]at k
   |succ m =>
    simp only[aY]at h k
    simp only[aB,D.tup.injEq]
    exact yc xs ys h k
  |_=>simp_all[aY,aB]
 |.tup xs,e,0,m,h,k=>by simp[aY]at h
 |.bl _,e,n,m,h,k=>by simp[aY]at h
 |.lst _,e,n,m,h,k=>by simp[aY]at h
 |.de,e,n,m,h,k=>by simp[aY]at h
 |.ref _,e,n,m,h,k=>by simp[aY]at h
 |.ax _,e,n,m,h,k=>by simp[aY]at h
 |.fn _,e,n,m,h,k=>by simp[aY]at h
theorem yc:∀(ds es:List D) {n m:Nat},gQ n ds=true->gQ m es=true->(eh ds es=true ↔ ds=es)
 | [],es,n,m,h,k=>by cases es<;>simp[eh]
 |d::ds,[],n,m,h,k=>by simp[eh]
 |d::ds,e::es,n,m,h,k=>by
  simp only[gQ,Zv]at h k
  simp only[eh,Zv,aef,fq d e h.1 k.1,yc ds es h.2 k.2]
end
end DK
namespace L3
noncomputable def bg:List D->D->Option D
 |k::v::r,key=>if aB k key=true then some v else bg r key
 |_,_=>none
noncomputable def bj:List D->D->D->List D
 |k::v::r,key,val=>if aB k key=true then k::val::r else k::v::bj r key val
 |_,key,val=>[key,val]
noncomputable def tq:List D->D->Nat->Bool
 |k::_::_,key,0=>aB k key
 |_::_::r,key,i+1=>tq r key i
 |_,_,_=>false
end L3
namespace DK
open PySem PySem.Spec PyProof.Rows L2 L3 SeqAt
inductive Ent (K:KW)(H:Hp)(ι:Ix):List D->List Z4->Prop
 |nil:Ent K H ι [] []
 |cons {k v:D} {kv vv:V} {r:List D} {e:Z4} {es:List Z4}:aY 6 k=true->e.hash=hD K.w k->Rel K H ι k kv->RelV kv e.key->Rel K H ι v vv->RelV vv e.val->Ent K H ι r es->Ent K H ι (k::v::r) (e::es)
theorem Ent.of {K H ι}:∀{es:List Z4} {xs:List D} {vs:List V},Vals vs (qf es)->jG K.w xs es->aj K H ι xs vs->Ent K H ι xs es
 | [],xs,vs,rv,h,r=>by cases h;exact .nil
 |e::es,xs,vs,rv,h,r=>by
  cases h with
  |cons h1 h2 h3 =>
   simp only[aj]at r
   obtain⟨a,k,rfl,c,b,j,rfl,f,i⟩:=r
   cases rv with
   |cons r1 rv=>cases rv with
    |cons r2 rv=>exact .cons h1 h2 c r1 f r2 (Ent.of rv h3 i)
theorem Ent.out {K H ι}:∀{es:List Z4} {xs:List D},Ent K H ι xs es->jG K.w xs es /\ ∃vs,Vals vs (qf es)/\aj K H ι xs vs
 | [],xs,h=>by cases h;exact⟨.nil,[],.nil,by simp[aj]⟩
 |e::es,xs,h=>by
  cases h with
  | @cons k v kv vv r _ _ h1 h2 h3 h4 h5 h6 h7 =>
   obtain⟨a,vs,b,c⟩:=h7.out
   refine⟨.cons h1 h2 a,kv::vv::vs,.cons h4 (.cons h6 b),?_⟩
   simp only[aj]
   exact⟨kv,_,rfl,h3,vv,_,rfl,h5,c⟩
theorem Ent.at {K H ι}:∀{es:List Z4} {xs:List D} {i:Nat} {e:Z4},Ent K H ι xs es->es[i]? = some e->∃k kv,aY 6 k=true/\(bL xs)[i]? = some k/\e.hash=hD K.w k/\Rel K H ι k kv/\RelV kv e.key /\ ∀key,tq xs key i=aB k key
 | [],xs,i,e,h,q=>by simp at q
 |e0::es,xs,i,e,h,q=>by
  cases h with
  |cons h1 h2 h3 h4 h5 h6 h7 =>
   cases i with
   |zero=>simp at q;subst q;exact⟨_,_,h1,rfl,h2,h3,h4,λ_=>rfl⟩
   |succ i =>
    obtain⟨k,kv,a,b,c,d,j,f⟩:=h7.at (i:=i) (by simpa using q)
    exact⟨k,kv,a,by simpa[bL]using b,c,d,j,λkey=>f key⟩
theorem Ent.len {K H ι}:∀{es:List Z4} {xs:List D},Ent K H ι xs es->(bL xs).length=es.length
 | [],xs,h=>by cases h;rfl
 |e::es,xs,h=>by
  cases h with
  |cons h1 h2 h3 h4 h5 h6 h7=>simp[bL,h7.len]
theorem Ent.none_ {K H ι}:∀{es:List Z4} {xs:List D} {key:D},Ent K H ι xs es->(∀i,i<es.length->tq xs key i=false)->bg xs key=none /\ ∀v,bj xs key v=xs ++ [key,v]
 | [],xs,key,h,q=>by cases h;exact⟨rfl,λ_=>rfl⟩
 |e::es,xs,key,h,q=>by
  cases h with
  |cons h1 h2 h3 h4 h5 h6 h7 =>
   have c:=q 0 (by simp)
   simp only[tq]at c
   obtain⟨a,b⟩:=h7.none_ (key:=key) λi f=>by have:=q (i+1) (by simpa using f);simpa[tq]using this
   exact⟨by simp[bg,c,a],λv=>by simp[bj,c,b]⟩
theorem Ent.uk {K H ι}{key:D}:∀{es:List Z4} {xs:List D} {i:Nat},Ent K H ι xs es->i<es.length->tq xs key i=true->(∀j,j<es.length->tq xs key j=true->j=i) ->
  ∃e v vv,es[i]? = some e/\bg xs key=some v/\Rel K H ι v vv/\RelV vv e.val/\bL (bj xs key v)=bL xs /\
   ∀(w:D) (wv:V) (u:Value),Rel K H ι w wv->RelV wv u->Ent K H ι (bj xs key w) (es.modify i λe=>{ e with val:=u })/\bL (bj xs key w)=bL xs
 | [],xs,i,h,hi,q,un=>by simp at hi
 |e0::es,xs,i,h,hi,q,un=>by
  cases h with
  | @cons k v kv vv r _ _ h1 h2 h3 h4 h5 h6 h7 =>
   cases i with
   |zero =>
    simp only[tq]at q
    refine⟨e0,v,vv,rfl,by simp[bg,q],h5,h6,by simp[bj,q,bL],λw wv u l n=>⟨?_,by simp[bj,q,bL]⟩⟩
    simp only[bj,q,if_true,List.modify_zero_cons]
    exact .cons h1 h2 h3 h4 l n h7
   |succ i =>
    have m:aB k key=false:=by
     cases hk:aB k key with
     |false=>rfl
     |true=>exact absurd (un 0 (by simp) (by simpa[tq]using hk)) (by omega)
    obtain⟨e,o,p,a,b,c,d,f,g⟩:=h7.uk (i:=i) (by simpa using hi) (by simpa[tq]using q) λj s z=>by
     have:=un (j+1) (by simpa using s) (by simpa[tq]using z)
     omega
    refine⟨e,o,p,by simpa using a,by simp[bg,m,b],c,d,by simp[bj,m,bL,f],λw wv u l n=>?_⟩
    obtain⟨g1,g2⟩:=g w wv u l n
    simp only[bj,m,Z1,if_false,List.modify_succ_cons]
    exact⟨.cons h1 h2 h3 h4 h5 h6 g1,by simp[bL,g2]⟩
theorem Ent.push {K H ι}{k v:D}{kv vv:V}{e:Z4}(h1:aY 6 k=true)(h2:e.hash=hD K.w k)(h3:Rel K H ι k kv)(h4:RelV kv e.key)(h5:Rel K H ι v vv)(h6:RelV vv e.val):
  ∀{es:List Z4} {xs:List D},Ent K H ι xs es->Ent K H ι (xs ++ [k,v]) (es ++ [e])/\bL (xs ++ [k,v])=bL xs ++ [k]
 | [],xs,h=>by cases h;exact⟨.cons h1 h2 h3 h4 h5 h6 .nil,rfl⟩
 |e0::es,xs,h=>by
  cases h with
  |cons a1 a2 a3 a4 a5 a6 a7 =>
   obtain⟨a,b⟩:=Ent.push h1 h2 h3 h4 h5 h6 a7
   exact⟨.cons a1 a2 a3 a4 a5 a6 a,by simp[bL,b]⟩
section
variable {X:Cx}{pins:List (Addr×Obj)}{σ:L2.St}{H:Hp}{ι:Ix}{s:Zq}
theorem qA (I:Inv X pins σ H s){A:Z0}{d e:D}{x y:V}{u v:Value}(fd:flat d=true)(fe:flat e=true)(rd:Rel X.kw H ι d x)(re:Rel X.kw H ι e y)(ru:RelV x u)(rv:RelV y v)(hu:A.units+dep d<cLine):EqAt A s u v (aB d e):=by
 refine qt (vp I d e (A:=A) fd fe rd re ru rv hu) (λh=>?_) (λb t c=>Rel.x4 rd (by rw[c]at ru;exact ru))
 subst h
 have f:=ru.inj rv
 subst f
 have a:=Rel.inj I d e fd fe rd re
 subst a
 exact gv d fd
theorem kZ (I:Inv X pins σ H s){A:Z0}(hu:A.units+8<cLine){xs:List D}{es:List Z4}(en:Ent X.kw H ι xs es)(nd:(bL xs).Nodup){key:D}{x:V}{u:Value}(hk:aY 6 key=true)(r:Rel X.kw H ι key x)(ru:RelV x u):
  GB A s u (hD X.w key) es.toArray (tq xs key) where
 eq:=λi e he hh=>by
  obtain⟨k,m,a,b,c,d,f,g⟩:=en.at (i:=i) (by simpa using he)
  rw[g key]
  obtain⟨f1,f2⟩:=jO k a
  exact qA I f1 (jO key hk).1 d r f ru (by omega)
 hs:=λi e he n=>by
  obtain⟨k,m,a,b,c,d,f,g⟩:=en.at (i:=i) (by simpa using he)
  rw[g key]at n
  rw[c,(fq k key a hk).mp n]
 qk:=rS key I hk (by omega) r ru
 qe:=λe he=>by
  obtain⟨i,l⟩:=aah.mp (by simpa using he)
  obtain⟨k,m,a,b,c,d,f,g⟩:=en.at l
  exact rS k I a (by omega) d f
 rf:=λe he ek=>by
  obtain⟨i,l⟩:=aah.mp (by simpa using he)
  obtain⟨k,m,a,b,c,d,f,g⟩:=en.at l
  rw[ek]at f
  have:=f.inj ru
  subst this
  rw[c,Rel.inj I k key (jO k a).1 (jO key hk).1 d r]
 un:=λi j l hj o p=>by
  obtain⟨e,he⟩:∃e,es[i]? = some e:=⟨_,Zs (by simpa using l)⟩
  obtain⟨e',sU⟩:∃e,es[j]? = some e:=⟨_,Zs (by simpa using hj)⟩
  obtain⟨k,m,a,b,c,d,f,g⟩:=en.at he
  obtain⟨k',Xt,a',v,c',d',f',g'⟩:=en.at sU
  rw[g key]at o
  rw[g' key]at p
  rw[(fq k key a hk).mp o]at b
  rw[(fq k' key a' hk).mp p]at v
  exact(afx (Zr.mp b).1 nd).mp (b.trans v.symm)
 st:=λy tk e0 i e he h=>by
  subst e0
  obtain⟨k,m,a,b,c,d,f,g⟩:=en.at (i:=i) (by simpa using he)
  rw[g key]
  have kx:key = .str y:=by
   cases key with
   |str z=>simp only[Rel]at r;subst r;obtain⟨t,q⟩:=ru;cases q;rfl
   |aq=>simp only[Rel]at r;subst r;cases ru
   |int z=>simp only[Rel]at r;subst r;obtain⟨t,q⟩:=ru;cases q
   |tup z=>simp only[Rel]at r;obtain⟨_,_,rfl,_⟩:=r;cases ru
   |_=>simp[aY]at hk
  subst kx
  cases k with
  |str z =>
   simp only[Rel]at d;subst d;obtain⟨t,q⟩:=f
   rw[q]
   simp only[Value.isStr,aB]
  |aq=>simp only[Rel]at d;subst d;rw[f]at h;cases h
  |int z=>simp only[Rel]at d;subst d;obtain⟨t,q⟩:=f;rw[q]at h;cases h
  |tup z=>simp only[Rel]at d;obtain⟨_,_,rfl,_⟩:=d;rw[show e.key=_ from f]at h;cases h
  |_=>simp[aY]at a
end
section
variable {X:Cx}{pins:List (Addr×Obj)}{σ:L2.St}{H:Hp}{ι:Ix}{s:Zq}{A:Z0}{E:Value->Zq->Prop}{a:Addr}{xs:List D}{es:List Z4}{c:Nat}{key:D}{x:V}{u:Value}
theorem vM (I:Inv X pins σ H s)(hH:H a=some (dO a es c)):s.heap.get? a=some { cls:=.type "dict",data:=.dict es.toArray (es.length-c) }:=
 (show cY X.prog X.w H s.heap a (dO a es c) from I.bo a _ hH).1
theorem um (I:Inv X pins σ H s)(hH:H a=some (dO a es c)):∃ep,s.heap.get? a=some { cls:=.type "dict",data:=.dict es.toArray ep }:=⟨_,vM I hH⟩
theorem zR (I:Inv X pins σ H s)(hH:H a=some (dO a es c)):s.TypeIs (.ref a) "dict":=let⟨_,h⟩:=um I hH;⟨_,h,rfl⟩
theorem sV (I:Inv X pins σ H s)(hu:A.units+8<cLine)(hH:H a=some (dO a es c))(en:Ent X.kw H ι xs es)(nd:(bL xs).Nodup)(hk:aY 6 key=true)(r:Rel X.kw H ι key x)(ru:RelV x u){Q:Option Value->Zq->Prop}
   (hn:bg xs key=none->∀tk,Q none { s with toks:=tk }) (hs:∀v,bg xs key=some v->∀tk vv z,Rel X.kw H ι v vv->RelV vv z->Q (some z) { s with toks:=tk }):wpAny (model X.prog X.w) A (adW a u) Q E s:=by
 obtain⟨p,f⟩:=um I hH
 unfold adW
 refine Z5 (Zn (qy key I hk r ru (by omega) λtk=>Zn (rR (s:={ s with toks:=tk }) f rfl (kZ (I.tok tk) hu en nd hk r ru) (λz=>?_) (λi b h=>?_))))
 . exact Zu (hn (en.none_ λi b=>z i (by simpa using b)).1 tk)
 . have K:=kZ (I.tok tk) hu en nd hk r ru (A:=A)
   obtain⟨e,v,vv,m,o,n,k,_⟩:=en.uk (key:=key) (by simpa using b) h λj l z=>(K.un i j b (by simpa using l) h z).symm
   refine Zn (abt (s:={ s with toks:=tk }) f rfl ?_)
   have:es.toArray[i]? = some e:=by simpa using m
   rw[this]
   exact Zu (hs v o tk vv _ n k)
theorem BL (I:Inv X pins σ H s)(hH:H a=some (dO a es c))(en:Ent X.kw H ι xs es)(nd:(bL xs).Nodup)(hk:aY 6 key=true)(r:Rel X.kw H ι key x)(ru:RelV x u){v:D}(hv:bg xs key=some v):
   ∃vv z,Rel X.kw H ι v vv/\RelV vv z /\ ∀{A:Z0} {E:Value->Zq->Prop} {Q:Option Value->Zq->Prop},A.units+8<cLine->(∀tk,Q (some z) { s with toks:=tk })->wpAny (model X.prog X.w) A (adW a u) Q E s:=by
 obtain⟨ep,n⟩:=um I hH
 have hex:∃i,i<es.length/\tq xs key i=true:=by
   refine Classical.byContradiction λno=>?_
   have:=(en.none_ (key:=key) λi b=>by
    cases h:tq xs key i with
    |false=>rfl
    |true=>exact absurd ⟨i,b,h⟩ no).1
   rw[hv]at this;cases this
 obtain⟨i,b,f⟩:=hex
 have un:∀j,j<es.length->tq xs key j=true->j=i:=λj m z=>by
   obtain⟨k,kv,a1,p,_,_,_,g⟩:=en.at (Zs b)
   obtain⟨k',Xt,a2,l,_,_,_,g'⟩:=en.at (Zs m)
   rw[g]at f
   rw[g']at z
   rw[(fq k key a1 hk).mp f]at p
   rw[(fq k' key a2 hk).mp z]at l
   exact(afx (Zr.mp l).1 nd).mp (l.trans p.symm)
 obtain⟨e,v',vv,h1,o,h3,y,_⟩:=en.uk (key:=key) b f un
 rw[hv]at o;cases o
 refine⟨vv,e.val,h3,y,fun {A E Q} hu q=>?_⟩
 unfold adW
 refine Z5 (Zn (qy key I hk r ru (by omega) λtk=>Zn (rR (s:={ s with toks:=tk }) n rfl (kZ (I.tok tk) hu en nd hk r ru) (λz=>?_) (λj m tj=>?_))))
 . have:=z i (by simpa using b);rw[f]at this;cases this
 . have:=un j (by simpa using m) tj
   subst this
   refine Zn (abt (s:={ s with toks:=tk }) n rfl ?_)
   have:es.toArray[j]? = some e:=by simpa using h1
   rw[this]
   exact Zu (q tk)
theorem kj (I:Inv X pins σ H s)(hu:A.units+8<cLine)(hH:H a=some (dO a es c))(iP:c<=es.length)(hz:es.length<=ZQ)(en:Ent X.kw H ι xs es)(nd:(bL xs).Nodup)(hk:aY 6 key=true)(r:Rel X.kw H ι key x)(ru:RelV x u){v:D}{vv:V}{z:Value}(rv:Rel X.kw H ι v vv)(rz:RelV vv z){Q:Unit->Zq->Prop}
   (h:∀tk h' c8,Ent X.kw H ι (bj xs key v) c8->(bL (bj xs key v)).Nodup->c8.length<=es.length+1->c<=c8.length->h'.get? a=some { cls:=.type "dict",data:=.dict c8.toArray (c8.length-c) }->acn a s.heap h'->Q () { s with heap:=h',toks:=tk }):
   wpAny (model X.prog X.w) A (dictSet a u z) Q E s:=by
 have f:=vM I hH
 unfold dictSet
 refine Z5 (Zn (qy key I hk r ru (by omega) λtk=>?_))
 unfold dictSetHashed
 refine Z5 (Zn (rR (s:={ s with toks:=tk }) f rfl (kZ (I.tok tk) hu en nd hk r ru) (λy=>?_) (λi b l=>?_)))
 . obtain⟨_,p⟩:=en.none_ (key:=key) λi b=>y i (by simpa using b)
   obtain⟨e1,e2⟩:=Ent.push (e:=⟨hD X.w key,u,z⟩) hk rfl r ru rv rz en
   refine Zn (aa1 (wpAny_updateDictKeys (hz:=by simpa using hz) (s:={ s with toks:=tk }) f rfl ?_))
   refine h tk _ (es ++ [⟨hD X.w key,u,z⟩]) (by rw[p];exact e1) ?_ (by simp) (by simp;omega) ?_ (abf ..)
   . rw[p,e2,abS]
     refine⟨nd,by simp,λk L8 k' n=>?_⟩
     simp at n;subst n
     rintro rfl
     obtain⟨i,b,e⟩:=abw.mp L8
     have m:i<es.length:=by rw[<- en.len];exact b
     obtain⟨k,kv,a1,o,_,_,_,g⟩:=en.at (Zs m)
     rw[Zs b,e]at o
     cases o
     have:=y i (by simpa using m)
     rw[g,(fq _ _ hk hk).mpr rfl]at this
     cases this
   . have q:=abo (h:=s.heap) (agd (·.push ⟨hD X.w key,u,z⟩)) f rfl
     rw[q];simp[agd];omega
 . have K:=kZ (I.tok tk) hu en nd hk r ru (A:=A)
   obtain⟨e,v0,Y6,h1,h2,h3,h4,_,h5⟩:=en.uk (key:=key) (by simpa using b) l λj hj y=>(K.un i j b (by simpa using hj) l y).symm
   obtain⟨h6,h7⟩:=h5 v vv z rv rz
   refine Zn (aa1 (Zn (wpAny_updateDict (s:={ s with toks:=tk }) f rfl ?_)))
   refine wpAny_point ?_
   refine h tk _ (es.modify i λe=>{ e with val:=z }) h6 (by rw[h7];exact nd) (by simp) (by simpa using iP) ?_ (abf ..)
   have q:=abo (h:=s.heap) (Obj.mapDict (·.modify i λe=>{ e with val:=z })) f rfl
   rw[q];simp[Obj.mapDict]
end
end DK
namespace L3
open PySem PySem.Spec PyProof.Rows L2 SeqAt DK
noncomputable def ak (d1 d2:D)(g:G):Option (D×G):=match d1 with
 |.ax n=>(g[n]?).bind λxs=>if aY 6 d2=true then(bg xs d2).map λd=>(d,g)else none
 |d1=>vt d1 d2 g
section
variable {X:Cx}
theorem Ja (hu:X.A.units+64<cLine):ma X (dz X.kw ak):=by
 intro value slice pins s σ H x y v u Q I h f q k
 obtain⟨ι,g,d1,m,d,g',G0,e,l,q,p⟩:=q
 cases d1 with
 |ax n =>
  simp only[ak]at q
  obtain⟨xs,o,q⟩:=bind_some q
  split at q
  . rename_i hk
    simp only[Rel]at e
    obtain⟨a,rfl,ha⟩:=e
    cases h
    obtain⟨es,vs,c,i,k5,iP,rv,r,nd,sy,sz,rl⟩:=G0.oQ o ha
    have en:=Ent.of rv r rl
    cases hv:bg xs m with
    |none=>rw[hv]at q;cases q
    |some dv =>
     rw[hv]at q;cases q
     obtain⟨j,z,h1,h2,h3⟩:=BL I i en nd hk l f hv
     have b:=zR I i
     refine abP (x:=z) b acF.lookup ?_ k
     unfold adn
     refine Z5 (Zn (acD b (by decide) ?_))
     refine Zn (aaB (name:=Zt "__getitem__") b acF (aai acF b entry_dict_getitem ?_ (args_dict_getitem _ _)))
     show wpAny _ _ (adW a u >>= _) _ _ s
     refine Zn (h3 (by rw[in1_units];omega) λtk=>?_)
     exact Zu ⟨z,rfl,Zu ⟨rfl,j,H,I.tok tk,h2,p H ι j Ext.refl G0 h1⟩⟩
  . cases q
 |_=>exact ID value slice pins s σ H x y v u Q I h f ⟨ι,g,_,m,d,g',G0,e,l,q,p⟩ k
theorem Mv {a b:Expr}{fa fb:FE}{pos:Pos}(hu:X.A.units+64<cLine)(ha:DE X a fa)(hb:DE X b fb)(hs:nQ b:=by exact λ_ _=>rfl):DE X (.Subscript a b pos) (ag ak fa fb):=.of (
 PE.imp (F_ (Ja hu) ha.un hb.un hs) λσ H Q h=>qh h)
end
noncomputable def yd (d1:D)(xs:List D):Option Bool:=if(flat d1&&aN xs&&decide (bS xs<=50))=true then some (xs.any λy=>aB y d1)else none
noncomputable def my (d1 d2:D)(g:G):Option Bool:=match d2 with
 |.ax n=>(g[n]?).bind λxs=>if aY 6 d1=true then some (bg xs d1).isSome else none
 |d2=>(eR d2 g).bind (yd d1)
noncomputable def zS (d1 d2:D)(g:G):Option (D×G):=(my d1 d2 g).map λb=>(.bl b,g)
noncomputable def k8 (d1 d2:D)(g:G):Option (D×G):=(my d1 d2 g).map λb=>(.bl (!b),g)
theorem BM {d1 d2:D}{g:G}{b:Bool}(h:my d1 d2 g=some b):(∃n,d2 = .ax n) \/ ∃xs,eR d2 g=some xs/\yd d1 xs=some b:=by
 cases d2 with
 |ax n=>exact .inl ⟨n,rfl⟩
 |_=>simp only[my]at h;exact .inr (bind_some h)
section
variable {X:Cx}
theorem gF:∀{xs:List D} {i:Nat} {d:D},aN xs=true->xs[i]? = some d->flat d=true/\dep d<=bS xs
 | [],i,d,h,e=>by simp at e
 |x::xs,0,d,h,e=>by
  simp at e;subst e
  simp only[aN,Zv]at h
  exact⟨h.1,by simp only[bS];omega⟩
 |x::xs,i+1,d,h,e=>by
  simp only[aN,Zv]at h
  obtain⟨a,b⟩:=gF (i:=i) h.2 (by simpa using e)
  exact⟨a,by simp only[bS];omega⟩
theorem vN {pins:List (Addr×Obj)}{σ:L2.St}{H:Hp}{s:Zq}{ι:Ix}(I:Inv X pins σ H s){A:Z0}{key:D}{x:V}{u:Value}(fk:flat key=true)(r:Rel X.kw H ι key x)(ru:RelV x u){n:Nat}(hu:A.units+n<cLine):
   ∀{xs:List D} {vs:List V} {us:List Value},aN xs=true->bS xs<=n->aj X.kw H ι xs vs->Vals vs us->∃e:Value->Bool,(∀y,y∈us->EqAt A s y u (e y))/\us.any e=xs.any (λy=>aB y key):=by
 classical
 intro xs vs us h hn rl l
 refine⟨λy=>decide (∃d v,Rel X.kw H ι d v/\RelV v y/\flat d=true/\aB d key=true),λy hy=>?_,?_⟩
 . obtain⟨i,o,e⟩:=abw.mp hy
   have Xu:i<vs.length:=by rw[l.length];exact o
   have q:i<xs.length:=by rw[rl.length];exact Xu
   obtain⟨v,h1,f⟩:=rl.get (Zs q)
   obtain⟨z,p,m⟩:=l.get h1
   rw[Zs o,e]at p
   cases p
   obtain⟨f1,f2⟩:=gF h (Zs q)
   have k:=qA I f1 fk f r m ru (A:=A) (by omega)
   have:decide (∃d v,Rel X.kw H ι d v/\RelV v y/\flat d=true/\aB d key=true)=aB xs[i] key:=by
    cases hq:aB xs[i] key with
    |true=>exact decide_eq_true ⟨_,_,f,m,f1,hq⟩
    |false =>
     refine decide_eq_false ?_
     rintro⟨d,v',a,b,c,j⟩
     have:=b.inj m
     subst this
     rw[Rel.inj I d _ c f1 a f,hq]at j
     cases j
   show EqAt A s y u (decide _);rw[this];exact k
 . induction xs generalizing vs us with
   |nil=>simp only[aj]at rl;subst rl;cases l;rfl
   |cons d ds ih =>
    simp only[aj]at rl
    obtain⟨v,vr,rfl,f,hr⟩:=rl
    cases l with
    |cons r0 rr =>
     simp only[aN,Zv]at h
     simp only[bS]at hn
     rw[aay,aay,ih h.2 (by omega) hr rr]
     congr 1
     cases hq:aB d key with
     |true=>exact decide_eq_true ⟨_,_,f,r0,h.1,hq⟩
     |false =>
      refine decide_eq_false ?_
      rintro⟨d',v',a,b,c,j⟩
      have:=b.inj r0
      subst this
      rw[Rel.inj I d' _ c h.1 a f,hq]at j
      cases j
theorem ye (neg:Bool)(hu:X.A.units+64<cLine):bO X (aam (if neg then .NotIn else .In)) (dz X.kw λd1 d2 g=>(my d1 d2 g).map λb=>(.bl (if neg then !b else b),g)):=by
 intro pins s σ H x y v u Q I rx ry q
 obtain⟨ι,g,d1,d2,d,g',G0,r1,r2,q,p⟩:=q
 obtain⟨b,h,q⟩:=ZM.mp q
 cases q
 have fin:∀f,EP X pins σ Q (.bool (if neg then !b else b)) { s with toks:=f }:=λf=>⟨.bl _,H,I.tok f,rfl,p H ι _ Ext.refl G0 (by simp[Rel])⟩
 rcases BM h with⟨n,rfl⟩|⟨xs,m,h⟩
 . simp only[my]at h
   obtain⟨xs,m,h⟩:=bind_some h
   split at h
   . rename_i hk
     cases h
     simp only[Rel]at r2
     obtain⟨a,rfl,ha⟩:=r2
     cases ry
     obtain⟨es,vs,c,hH,k5,iP,rv,hh,nd,sy,sz,rl⟩:=G0.oQ m ha
     have en:=Ent.of rv hh rl
     have hT:=zR I hH
     have core:∀{Q':Bool->Zq->Prop},(∀f,Q' (bg xs d1).isSome { s with toks:=f })->wpAny (model X.prog X.w) X.A (contains (.ref a) v) Q' X.xe s:=fun {Q'} fin=>by
       unfold contains
       refine Z5 (Zn (wpAny_specialOf hT adz.lookup ?_))
       refine aap (λz=>by rw[ad4]at z;cases z) (λ_=>?_)
       refine Zn (wpAny_callSpecialUnlessNone?_slot (name:=Zt "__contains__") hT adz (aai adz hT entry_dict_contains ?_ (args_dict_contains _ _)))
       show wpAny _ _ (adW a v >>= _) _ _ s
       refine Zn (sV I (by rw[in1_units];omega) hH en nd hk r1 rx (λhn f=>?_) (λw hs f vv z _ _=>?_))
       . rw[hn]at fin
         show wpAny _ _ (Builtin.Dict.pendingKey? a v >>= _) _ _ _
         exact Zn (wpAny_pendingKey_other sy (Zu ⟨_,rfl,aba (fin f)⟩))
       . rw[hs]at fin
         show wpAny _ _ (ret (.bool true)) _ _ _
         exact Zu ⟨_,rfl,aba (fin f)⟩
     cases neg with
     |false=>exact(show wpAny _ _ (do return acW (<- contains (.ref a) v)) _ _ s from Zn (core λf=>Zu (fin f)))
     |true=>exact(show wpAny _ _ (do return acW (!(<- contains (.ref a) v))) _ _ s from Zn (core λf=>Zu (fin f)))
   . cases h
 . unfold yd at h
   split at h
   . rename_i z
     simp only[Zv,decide_eq_true_eq]at z
     cases h
     obtain⟨a,vs,rfl,k,hr⟩:=ki G0 r2 m
     cases ry
     rcases k with k|k
     . obtain⟨av,o,j,_⟩:=I.list k
       obtain⟨e,l,r⟩:=vN I (A:=X.A.in1) z.1.1 r1 rx (n:=50) (by rw[in1_units];omega) z.1.2 z.2 hr o
       have fin:=fin s.toks
       rw[<- r]at fin
       cases neg with
       |false=>exact in_listAt e j.isList (λy i=>l y (by simpa using i)) (by simpa using fin)
       |true=>exact notIn_listAt e j.isList (λy i=>l y (by simpa using i)) (by simpa using fin)
     . obtain⟨av,o,j,_⟩:=I.tuple k
       obtain⟨e,l,r⟩:=vN I (A:=X.A.in1) z.1.1 r1 rx (n:=50) (by rw[in1_units];omega) z.1.2 z.2 hr o
       have fin:=fin s.toks
       rw[<- r]at fin
       cases neg with
       |false=>exact in_tupleAt e j (λy i=>l y (by simpa using i)) (by simpa using fin)
       |true=>exact notIn_tupleAt e j (λy i=>l y (by simpa using i)) (by simpa using fin)
   . cases h
theorem Mw (hu:X.A.units+64<cLine):bO X (aam .In) (dz X.kw zS):=ye false hu
theorem BN (hu:X.A.units+64<cLine):bO X (aam .NotIn) (dz X.kw k8):=ye true hu
end
section
variable {X:Cx}{pins:List (Addr×Obj)}{σ:L2.St}{H:Hp}{ι:Ix}{s:Zq}{g:G}{a:Addr}{n:Nat}{xs:List D}{es:List Z4}{c:Nat}
theorem lO (I:Inv X pins σ H s)(hH:H a=some (dO a es c)){c8:List Z4}{h':Heap}{tk:Nat}(hg:h'.get? a=some { cls:=.type "dict",data:=.dict c8.toArray (c8.length-c) })(sb:acn a s.heap h'):
  Inv X pins σ (upd H a (dO a c8 c)) { s with heap:=h',toks:=tk }:=by
 refine I.write (x:=a) (e:=a) (o:=dO a c8 c) (t':=tk) (by rw[hH];exact abN) (.inl rfl) (λb u f q=>?_) ⟨_,hg⟩ ⟨hg,⟨_,hg⟩,λh i q k=>k _ q⟩
 rw[sb.2 b f];exact q
theorem lP (G0:az X.kw H ι g)(ha:cR ι n a true)(k5:ι.kd n=c+1)(hH:H a=some (dO a es c)){By:List D}{c8:List Z4}(en:Ent X.kw H ι By c8)(nd:(bL By).Nodup)(sy:(a == abi)=false)(iP:c<=c8.length)(sz:c8.length<=ZQ):
  az X.kw (upd H a (dO a c8 c)) ι (g.set n By):=by
 obtain⟨b,e,h,f⟩:=en.out
 exact G0.Lc ha hH (by rw[k5];exact .d c c8 e iP h b nd sy sz) f
end
noncomputable def ij (xs:List D):Bool:=aD (xs.length / 2+1)
noncomputable def eN (o i v:D)(g:G):Option G:=match o with
 |.ax n=>(g[n]?).bind λxs=>if(aY 6 i&&ij xs)=true then some (g.set n (bj xs i v))else none
 |o=>putD o i v g
inductive GD (K:KW)(o i v:V)(H:Hp)(Q:Hp->Prop):Prop
 |mk (ι:Ix) (g:G) (d1 d2 d3:D) (g':G) (h0:az K H ι g) (h1:Rel K H ι d1 o) (h2:Rel K H ι d2 i) (h3:Rel K H ι d3 v) (h4:eN d1 d2 d3 g=some g') (h5:∀H' ι',Ext H ι H' ι'->az K H' ι' g'->Q H'):GD K o i v H Q
theorem nZ {K H ι}{xs:List D}{es:List Z4}(en:Ent K H ι xs es):xs.length=2*es.length:=by
 induction en with
 |nil=>rfl
 |cons _ _ _ _ _ _ _ ih=>simp[ih];omega
section
variable {X:Cx}
theorem Jb (hu:X.A.units+64<cLine):Dv X (GD X.kw):=by
 intro pins s σ H o i v ov iv u Q I ro ri z q
 obtain⟨ι,g,d1,d2,d3,g',G0,h,r,y,q,p⟩:=q
 cases d1 with
 |ax n =>
  simp only[eN]at q
  obtain⟨xs,e,q⟩:=bind_some q
  split at q
  . rename_i m
    simp only[Zv]at m
    cases q
    simp only[Rel]at h
    obtain⟨a,rfl,b⟩:=h
    cases ro
    obtain⟨es,vs,c,f,k5,iP,qB,hh,nd,sy,sz,rl⟩:=G0.oQ e b
    have en:=Ent.of qB hh rl
    have l:=zR I f
    have hz:=aD.le m.2
    rw[nZ en]at hz
    unfold afk
    refine Z5 (Zn (acD l (by decide) ?_))
    refine Zn (aaB (name:=Zt "__setitem__") l slot_dict_setitem (aai slot_dict_setitem l entry_dict_setitem ?_ (args_dict_setitem _ _ _)))
    show wpAny _ _ (Builtin.Dict.notOrdered "__setitem__" ⟨[.ref a,iv,u],[]⟩ >>= _) _ _ s
    refine Zn (abW l ?_)
    show wpAny _ _ (dictSet a iv u >>= _) _ _ s
    refine Zn (kj I (by rw[in1_units];omega) f iP sz en nd m.1 r ri y z λtk h' c8 e1 e2 e3 e0 e4 e5=>Zu ⟨.none,rfl,Zu ?_⟩)
    exact⟨_,lO I f e4 e5,p _ ι (Ext.put b f) (lP G0 b k5 f e1 e2 sy e0 (by omega))⟩
  . cases q
 |ref n =>
  refine set_list pins s σ H o i v ov iv u Q I ro ri z ?_
  simp only[eN,putD]at q
  cases d2 with
  |int k =>
    simp only[Rel]at h r
    obtain⟨a,rfl,b⟩:=h
    subst r
    dsimp only at q
    cases e:g[n]? with
    |none=>rw[e]at q;cases q
    |some xs =>
     rw[e]at q
     dsimp only at q
     cases hj:j_ xs.length k with
     |none=>rw[hj]at q;cases q
     |some j =>
      rw[hj]at q
      cases q
      obtain⟨vs,x,hr⟩:=G0.at e b
      exact⟨a,vs,k,j,rfl,rfl,x,by rw[<- hr.length];exact hj,p _ ι (Ext.put b x) (G0.put b x (aj.set y j hr))⟩
  |_=>cases q
 |_=>cases q
noncomputable def cX (fo fi:FE):FG:=λv σ g=>(fo σ g).bind λr=>(fi σ r.2).bind λq=>(eN r.1 q.1 v q.2).map λa=>(σ,a)
theorem yf {o i:Expr}{fo fi:FE}{pos:Pos}(hu:X.A.units+64<cLine)(ho:DE X o fo)(hi:DE X i fi)
  (ha:∀v,ab9 (.Subscript o i pos) X.env v=(do
   let ov <- abA [v] (eval o X.env)
   let iv <- abA [v,ov] (eval i X.env)
   aet pos
   abA [v,ov,iv] (afk ov iv v)
   release [v,ov,iv] []):=by intro _;rfl):DG X (.Subscript o i pos) (cX fo fi):=.of (PG.imp (Kj ho.un hi.un (Jb hu) ha) λv σ H Q h=>by
 obtain⟨ι,σd,g,d,b7,u,G0,s,r,h,p⟩:=h
 obtain⟨⟨x,g1⟩,h1,h⟩:=bind_some h
 obtain⟨⟨q,g2⟩,e,h⟩:=bind_some h
 refine tD.bind G0 s h1 λH1 ι1 v1 b j S1 l=>?_
 refine tD.bind j S1 e λH2 y v2 a G2 S2 m=>?_
 obtain⟨g3,n,h⟩:=ZM.mp h
 cases h
 exact⟨y,g2,x,q,d,u,G2,Rel.ext a _ l,m,Rel.ext (b.trans a) _ r,n,λf z c k=>p f z σ ((b.trans a).trans c) k (S2.ext c)⟩)
end
inductive RF (K:KW)(ik:D->Bool)(m:D->List D->G->Option (D×G))(x:V)(xs:List V)(H:Hp)(Q:VK):Prop
 |mk (ι:Ix) (g:G) (d:D) (ds:List D) (d':D) (g':G) (h0:az K H ι g) (h1:Rel K H ι d x) (h2:aj K H ι ds xs) (h3:ik d=true) (h4:m d ds g=some (d',g')) (h5:fY K H ι d' g' Q):RF K ik m x xs H Q
structure MR (X:Cx)(T:String)(name:Str)(id:String)(ik:D->Bool)(m:D->List D->G->Option (D×G)):Prop where
 pa:PlainAttrs T
 slot:Slot T name id
 ty:typeOf (.builtin id)=pure (.type "method_descriptor")
 is:∀{pins:List (Addr×Obj)} {σ:L2.St} {H:Hp} {s:Zq} {ι:Ix} {g:G} {d:D} {x:V} {v:Value},Inv X pins σ H s->az X.kw H ι g->Rel X.kw H ι d x->RelV x v->ik d=true->s.TypeIs v T /\ ∀a,v = .ref a->∃ob,s.heap.get? a=some ob/\ob.dict=none
 run:A7 X id (RF X.kw ik m)
noncomputable def eA (ik:D->Bool)(m:D->List D->G->Option (D×G))(fo:FE)(fr:FA):FE:=λσ g=>(fo σ g).bind λr=>if ik r.1=true then(fr σ r.2).bind λq=>m r.1 q.1 q.2 else none
section
variable {X:Cx}{T:String}{name:Str}{id:String}{ik:D->Bool}{m:D->List D->G->Option (D×G)}{o e:Expr}{es:List Expr}{fo:FE}{fr:FA}{apos cK:Pos}
theorem Mx (R:MR X T name id ik m)(ho:DE X o fo)(ha:DA X (e::es) fr)(lE:aca o name X.env (eval o X.env)=eval o X.env:=by rfl)
   (uU:((abe cK (ZU (e::es) X.env)).all (λx=>!x.1)&&(backToKw cK (afE [] X.env)).all (λx=>x.1.isSome)
    && decide ((e::es).length+([]:List adp).length+(if([]:List adp).isEmpty then 0 else 1)<30))=true:=by rfl)
   (lF:(apos.endLine == cK.line)=true:=by rfl) (hs:ZU (e::es) X.env=(false,eval e X.env)::ZU es X.env:=by rfl) (uV:(abe cK (ZU es X.env)).any (·.1)=false:=by rfl):
   DE X (.Call (.Attribute o name apos) (e::es) [] cK) (eA ik m fo fr):=.of (by
 intro pins s σ H Q I h
 obtain⟨ι,σd,g,d,g',G0,S0,h,p⟩:=h
 obtain⟨⟨z,g1⟩,h1,h⟩:=bind_some h
 dsimp only at h
 split at h
 . rename_i y
   obtain⟨⟨ds,g2⟩,h2,h⟩:=bind_some h
   refine ael lE uU lF rfl (bf (ho.un pins s σ H (λx H1=>∃a,Ext H ι H1 a/\az X.kw H1 a g1/\bR X.kw H1 a σd σ/\Rel X.kw H1 a z x) I (tD.bind G0 S0 h1 λH1 a v l i S1 j=>⟨a,l,i,S1,j⟩)) λv s1 ⟨x,H1,I1,r,a,l,i,S1,j⟩=>?_)
   obtain⟨t1,t2⟩:=R.is I1 i j r y
   refine⟨T,id,R.pa,R.slot,R.ty,t1,t2,?_⟩
   have u:=ha.un cK pins s1 σ H1 _ I1 (i9.bind i S1 h2 λb c f k q S2 n=>(⟨c,k,q,n⟩:(λ(f:List V) (b:Hp)=>∃c,Ext H1 a b c/\az X.kw b c g2/\aj X.kw b c ds f) f b))
   rw[hs]at u ⊢
   refine acH (by show(false||(abe cK (ZU es X.env)).any (·.1))=false;rw[uV]<;>rfl) (aeH ?_)
   refine bf u λus s2 ⟨f,b,I2,n,c,k,q,rs⟩=>?_
   exact R.run pins s2 σ b x f v us Q I2 r n ⟨c,g2,z,ds,d,g',q,Rel.ext k _ j,rs,y,h,p.mono (l.trans k)⟩
 . cases h)
theorem Jc (R:MR X T name id ik m)(ho:DE X o fo)(lE:aca o name X.env (eval o X.env)=eval o X.env:=by rfl)(lF:(apos.endLine == cK.line)=true:=by rfl):
   DE X (.Call (.Attribute o name apos) [] [] cK) (eA ik m fo af):=.of (by
 intro pins s σ H Q I h
 obtain⟨ι,l,g,d,u,G0,r,h,p⟩:=h
 obtain⟨⟨j,g1⟩,y,h⟩:=bind_some h
 dsimp only at h
 split at h
 . rename_i i
   obtain⟨⟨ds,g2⟩,n,h⟩:=bind_some h
   cases n
   refine wpAny_Call_method0_late lE lF (bf (ho.un pins s σ H (λx H1=>∃a,Ext H ι H1 a/\az X.kw H1 a g1/\bR X.kw H1 a l σ/\Rel X.kw H1 a j x) I (tD.bind G0 r y λH1 a v e b S1 c=>⟨a,e,b,S1,c⟩)) λv s1 ⟨x,H1,k,f,a,e,b,S1,c⟩=>?_)
   obtain⟨t1,q⟩:=R.is k b c f i
   refine⟨T,id,R.pa,R.slot,R.ty,t1,q,acH rfl (PySem.evalArgs_none ?_)⟩
   exact R.run pins s1 σ H1 x [] v [] Q k f .nil ⟨a,g1,j,[],d,u,b,c,by simp[aj],i,h,p.mono e⟩
 . cases h)
end
noncomputable def jm:D->Bool
 |.ax _=>true
 |_=>false
theorem vO {X:Cx}{pins:List (Addr×Obj)}{σ:L2.St}{H:Hp}{s:Zq}{ι:Ix}{g:G}{d:D}{x:V}{v:Value}(I:Inv X pins σ H s)(G0:az X.kw H ι g)(r:Rel X.kw H ι d x)(rv:RelV x v)(h:jm d=true):
  s.TypeIs v "dict" /\ ∀a,v = .ref a->∃ob,s.heap.get? a=some ob/\ob.dict=none:=by
 cases d with
 |ax n =>
  simp only[Rel]at r
  obtain⟨a,rfl,i⟩:=r
  cases rv
  have k:n<g.length:=by rw[<- G0.len];exact(Zr.mp i.1).1
  obtain⟨m,o,c,j,_⟩:=G0.oQ (Zs k) i
  obtain⟨l,f⟩:=um I j
  refine⟨⟨_,f,rfl⟩,λb e=>?_⟩
  cases e
  exact⟨_,f,rfl⟩
 |_=>cases h
noncomputable def jP (d:D)(ds:List D)(g:G):Option (D×G):=match d,ds with
 |.ax n,[k]=>(g[n]?).bind λxs=>if aY 6 k=true then some ((bg xs k).getD .aq,g)else none
 |.ax n,[k,x]=>(g[n]?).bind λxs=>if aY 6 k=true then some ((bg xs k).getD x,g)else none
 |_,_=>none
theorem vals1 {x:V}{us:List Value}(r:Vals [x] us):∃u,us = [u]/\RelV x u:=by
 cases r with
 |cons a b=>cases b;exact⟨_,rfl,a⟩
theorem My {X:Cx}(hu:X.A.units+64<cLine):MR X "dict" "get" "dict.get" jm jP where
 pa:=PySem.F.plainAttrs_dict
 slot:=acU
 ty:=PySem.F.type_dict_get
 is:=vO
 run:=by
  intro pins s σ H x xs v us Q I rx rs q
  obtain⟨ι,g,d,ds,d',g',G0,r,rl,hT,q,p⟩:=q
  have Ga:=(vO I G0 r rx hT).1
  cases d with
  |ax n =>
   simp only[Rel]at r
   obtain⟨a,rfl,ha⟩:=r
   cases rx
   have core:∀{k dflt:D} {j:List D} {l dv:V} {o du:Value} {Q':Fin->Zq->Prop},g[n]? = some j->aY 6 k=true->Rel X.kw H ι k l->RelV l o->Rel X.kw H ι dflt dv->RelV dv du->fY X.kw H ι ((bg j k).getD dflt) g Q ->
      (∀v m,EP X pins σ Q v m->Q' (.done (.ret v)) m)->wpAny (model X.prog X.w) X.A.in1 (do
       if let some v <- adW a o then return <- ret v
       match <- Builtin.Dict.missed a o with
       |some v=>ret v
       |none=>ret du) Q' X.xe s:=by
    intro k dflt j l dv o du Q' f i e BO rd Xv p hQ
    obtain⟨es,vs,c,hH,k5,iP,rv,hh,nd,sy,sz,rl⟩:=G0.oQ f ha
    have en:=Ent.of rv hh rl
    refine Zn (sV I (by rw[in1_units];omega) hH en nd i e BO (λhn tk=>?_) (λw hs tk vv z b rz=>?_))
    . rw[hn]at p
      exact Zn (wpAny_missed_other sy (Zu (hQ _ _ ⟨_,H,I.tok tk,Xv,p H ι _ Ext.refl G0 rd⟩)))
    . rw[hs]at p
      exact Zu (hQ _ _ ⟨_,H,I.tok tk,rz,p H ι _ Ext.refl G0 b⟩)
   match ds,q,rl with
   | [k],q,rl =>
    simp only[jP]at q
    obtain⟨j,f,q⟩:=bind_some q
    split at q
    . rename_i i
      cases q
      simp only[aj]at rl
      obtain⟨l,_,rfl,e,rfl⟩:=rl
      obtain⟨u,rfl,ru⟩:=vals1 rs
      exact aai acU Ga aeq (core (dflt:=.aq) (dv:=.aq) (du:=.none) f i e ru (by simp[Rel]) rfl p λv m h=>⟨v,rfl,h⟩) (PySem.F.args_dict_get_2 _ _)
    . cases q
   | [k,y],q,rl =>
    simp only[jP]at q
    obtain⟨j,f,q⟩:=bind_some q
    split at q
    . rename_i i
      cases q
      simp only[aj]at rl
      obtain⟨l,_,rfl,e,yv,_,rfl,ry,rfl⟩:=rl
      obtain⟨u,w',rfl,ru,b⟩:=vals2 rs
      exact aai acU Ga aeq (core (dflt:=y) f i e ru ry b p λv m h=>⟨v,rfl,h⟩) (PySem.F.args_dict_get_3 _ _ _)
    . cases q
   | [],q,rl=>cases q
   |_::_::_::_,q,rl=>cases q
  |_=>cases hT
noncomputable def qC:FE:=λ_ g=>some (.ax g.length,g ++ [[]])
section
variable {X:Cx}
theorem Jd {pos:Pos}:DE X (.Dict [] [] pos) qC:=.of (by
 intro pins s σ H Q I h
 obtain⟨ι,c,g,d,j,G0,i,h,p⟩:=h
 cases h
 have hf:H s.heap.objs.size=none:=I.bo.fresh (ZA _)
 have a:∀h:Heap,(h.push { cls:=.type "dict",data:=.dict #[] }).get? h.objs.size=some { cls:=.type "dict",data:=.dict #[] }:=λh=>ZF _ rfl
 refine wpAny_Dict_empty ⟨.ref s.heap.objs.size,upd H s.heap.objs.size (dO s.heap.objs.size [] 0),I.laid (t':=s.toks) (λb u e=>Zy _ e) (ZA _) ?_,rfl,p _ _ _ (Ext.eP (b:=1) hf) (G0.eP hf (.d 0 [] [] (aab _) .nil .nil (by simp[bL]) (beq_eq_false_iff_ne.mpr (abg (ZX (big I)))) (aab _)) (by simp[aj])) ?_⟩
 . exact⟨a _,⟨_,a _⟩,λl f q k=>k _ q⟩
 . simp only[Rel]
   exact⟨_,rfl,cR.new G0.len⟩)
end
end L3
namespace L3
open PySem PySem.Spec PyProof.Rows L2
end L3
namespace L3
open PySem PySem.Spec PyProof.Rows L2 SeqAt DK
noncomputable def m9:List (FE×FE)->Sg->G->Option (List (D×D)×G)
 | [],_,g=>some ([],g)
 |p::r,σ,g=>(p.1 σ g).bind λa=>(p.2 σ a.2).bind λb=>(m9 r σ b.2).bind λq=>some ((a.1,b.1)::q.1,q.2)
noncomputable def putAll (n:Nat):List (D×D)->G->Option G
 | [],g=>some g
 |p::r,g=>(eN (.ax n) p.1 p.2 g).bind λa=>putAll n r a
noncomputable def dZ (ps:List (FE×FE)):FE:=λσ g=>(m9 ps σ (g ++ [[]])).bind λq=>(putAll g.length q.1 q.2).map λa=>(.ax g.length,a)
inductive km (K:KW)(H:Hp)(ι:Ix):List (D×D)->List (Value×Value)->Prop
 |nil:km K H ι [] []
 |cons {d1 d2:D} {x y:V} {u v:Value} {ds us} (h1:Rel K H ι d1 x) (h2:RelV x u) (h3:Rel K H ι d2 y) (h4:RelV y v) (r:km K H ι ds us):km K H ι ((d1,d2)::ds) ((u,v)::us)
theorem km.ext {K H ι H' ι' ds us}(r:km K H ι ds us)(e:Ext H ι H' ι'):km K H' ι' ds us:=by
 induction r with
 |nil=>exact .nil
 |cons h1 h2 h3 h4 _ ih=>exact .cons (Rel.ext e _ h1) h2 (Rel.ext e _ h3) h4 ih
section
variable {X:Cx}
noncomputable def fK (X:Cx):List (Option Expr)->List Expr->List (FE×FE)->Prop
 | [],[],[]=>True
 |some k::ks,v::vs,p::r=>DE X k p.1/\DE X v p.2/\fK X ks vs r
 |_,_,_=>False
theorem vP {pos:Pos}:∀(ps:List (FE×FE)) (keys:List (Option Expr)) (vals:List Expr),fK X keys vals ps->∀{pins:List (Addr×Obj)} {s:Zq} {σ:L2.St} {H:Hp} {ι:Ix} {σd:Sg} {g g':G} {ds:List (D×D)},Inv X pins σ H s->az X.kw H ι g->bR X.kw H ι σd σ->m9 ps σd g=some (ds,g') ->
  wpAny (model X.prog X.w) X.A (evalPairs (pairTrees keys vals X.env pos)) (λus s'=>∃H' ι',Inv X pins σ H' s'/\Ext H ι H' ι'/\az X.kw H' ι' g'/\km X.kw H' ι' ds us) X.xe s
 | [],keys,vals,hd,pins,s,σ,H,ι,σd,g,g',ds,I,G0,S0,h=>by
  have e:keys = []/\vals = []:=by
    cases keys with
    |nil=>cases vals with|nil=>exact⟨rfl,rfl⟩|cons _ _=>simp[fK]at hd
    |cons k _=>cases k<;>cases vals<;>simp[fK]at hd
  obtain⟨rfl,rfl⟩:=e
  cases h
  exact pairTrees_nil_walk ⟨H,ι,I,Ext.refl,G0,.nil⟩
 |p::ps,keys,vals,hd,pins,s,σ,H,ι,σd,g,g',ds,I,G0,S0,h=>by
  obtain⟨k,b,v,c,rfl,rfl,h1,y,h3⟩:∃k b v c,keys=some k::b/\vals=v::c/\DE X k p.1/\DE X v p.2/\fK X b c ps:=by
    cases keys with
    |nil=>cases vals<;>simp[fK]at hd
    |cons k b =>
     cases k with
     |none=>cases vals<;>simp[fK]at hd
     |some k =>
      cases vals with
      |nil=>simp[fK]at hd
      |cons v c=>simp only[fK]at hd;exact⟨k,b,v,c,rfl,rfl,hd⟩
  . simp only[m9]at h
    obtain⟨⟨q,g1⟩,u,h⟩:=bind_some h
    obtain⟨⟨o,g2⟩,e2,h⟩:=bind_some h
    obtain⟨⟨dr,g3⟩,e3,h⟩:=bind_some h
    cases h
    refine pairTrees_cons_walk (bf (h1.un pins s σ H (λw H'=>∃a,Ext H ι H' a/\az X.kw H' a g1/\Rel X.kw H' a q w) I ⟨ι,σd,g,q,g1,G0,S0,u,λH1 a w e i r=>⟨a,e,i,r⟩⟩) λu1 s1 q1=>?_)
    obtain⟨w1,H1,I1,Xw,a,l,i,r1⟩:=q1
    refine bf (y.un pins s1 σ H1 (λw H'=>∃f,Ext H1 a H' f/\az X.kw H' f g2/\Rel X.kw H' f o w) I1 ⟨a,σd,g1,o,g2,i,S0.ext l,e2,λH2 f w e m r=>⟨f,e,m,r⟩⟩) λu2 s2 q2=>?_
    obtain⟨w2,H2,I2,z,f,j,m,r2⟩:=q2
    refine bf (vP ps b c h3 I2 m ((S0.ext l).ext j) e3) λus s3 q3=>?_
    obtain⟨H3,ι3,I3,n,G3,x⟩:=q3
    exact⟨H3,ι3,I3,(l.trans j).trans n,G3,.cons (Rel.ext (j.trans n) _ r1) Xw (Rel.ext n _ r2) z x⟩
theorem vQ (hu:X.A.units+64<cLine){a:Addr}{n:Nat}{E:Value->Zq->Prop}:∀(ds:List (D×D)) (us:List (Value×Value)) {pins:List (Addr×Obj)} {s:Zq} {σ:L2.St} {H:Hp} {ι:Ix} {g g':G} {Q:PUnit->Zq->Prop},Inv X pins σ H s->az X.kw H ι g->cR ι n a true->km X.kw H ι ds us->putAll n ds g=some g' ->
  (∀s' H',Inv X pins σ H' s'->Ext H ι H' ι->az X.kw H' ι g'->Q aeM s') ->
  wpAny (model X.prog X.w) X.A (forIn us aeM λ(x:Value×Value) (_:PUnit)=>(do dictSet a x.1 x.2;pure (aa8 aeM):Sem (ForInStep PUnit))) Q E s
 | [],us,pins,s,σ,H,ι,g,g',Q,I,G0,ha,r,h,p=>by
  cases r
  cases h
  rw[aew]
  exact Zu (p s H I Ext.refl G0)
 | (k,v)::ds,us,pins,s,σ,H,ι,g,g',Q,I,G0,ha,r,h,p=>by
  cases r with
  |cons h1 h2 h3 h4 r =>
   simp only[putAll,eN]at h
   obtain⟨g1,b,h⟩:=bind_some h
   obtain⟨xs,l,b⟩:=bind_some b
   split at b
   . rename_i f
     simp only[Zv]at f
     cases b
     obtain⟨es,vs,c,e,k5,y,z,m,nd,sy,sz,rl⟩:=G0.oQ l ha
     have i:=Ent.of z m rl
     have u:=aD.le f.2
     rw[nZ i]at u
     rw[ac6]
     refine Zn (Zn (kj I (by omega) e y sz i nd f.1 h1 h2 h3 h4 λtk h' c8 j e2 e3 e0 q o=>Zu ?_))
     refine vQ hu ds _ (lO I e q o) (lP G0 ha k5 e j e2 sy e0 (by omega)) ha (r.ext (Ext.put ha e)) h λs' H' I' x' G'=>?_
     exact p s' H' I' ((Ext.put ha e).trans x') G'
   . cases b
theorem Ek (hu:X.A.units+64<cLine){keys:List (Option Expr)}{vals:List Expr}{pos:Pos}{ps:List (FE×FE)}(hd:fK X keys vals ps)(lH:keys.all (·.isSome)=true)(hl:keys.length=vals.length)(h0:keys ≠ [])(Xy:keys.length<=15):
  DE X (.Dict keys vals pos) (dZ ps):=.of (by
 intro pins s σ H Q I h
 obtain⟨ι,σd,g,d,g',G0,S0,h,p⟩:=h
 obtain⟨⟨ds,g1⟩,m,h⟩:=bind_some h
 obtain⟨g2,i,h⟩:=ZM.mp h
 cases h
 have a:=pairTrees_length keys vals X.env pos lH hl
 have cS:pairTrees keys vals X.env pos ≠ []:=λhe=>by
  rw[he]at a
  exact h0 (acB.mp a.symm)
 rw[arm_eval_Dict,zip_pairTrees keys vals X.env pos lH hl,dictDisplay_pairs _ cS (by rw[a];omega)]
 have hf:H s.heap.objs.size=none:=I.bo.fresh (ZA _)
 have f:∀h:Heap,(h.push { cls:=.type "dict",data:=.dict #[] }).get? h.objs.size=some { cls:=.type "dict",data:=.dict #[] }:=λh=>ZF _ rfl
 have I1:Inv X pins σ (upd H s.heap.objs.size (dO s.heap.objs.size [] 0)) { s with heap:=s.heap.push { cls:=.type "dict",data:=.dict #[] } }:=I.laid (t':=s.toks) (λb u e=>Zy _ e) (ZA _) ⟨f _,⟨_,f _⟩,λm i q k=>k _ q⟩
 have l:Ext H ι (upd H s.heap.objs.size (dO s.heap.objs.size [] 0)) (ι.more s.heap.objs.size 1):=Ext.eP (b:=1) hf
 have o:az X.kw (upd H s.heap.objs.size (dO s.heap.objs.size [] 0)) (ι.more s.heap.objs.size 1) (g ++ [[]]):=G0.eP hf (.d 0 [] [] (aab _) .nil .nil (by simp[bL]) (beq_eq_false_iff_ne.mpr (abg (ZX (big I)))) (aab _)) (by simp[aj])
 have k9:cR (ι.more s.heap.objs.size 1) g.length s.heap.objs.size true:=cR.new G0.len
 refine Zn (adD (Zn ?_))
 unfold subDict
 refine Zn (afF ?_)
 refine Zn (Z5 ?_)
 rw[if_pos (by rw[a];exact Xy)]
 refine Zn (bf (vP ps keys vals hd I1 o (S0.ext l) m) λus s1 q=>?_)
 obtain⟨H1,z,v,c,G2,n⟩:=q
 refine Z5 (Zn (vQ hu ds us v G2 (c.at k9) n i λs' j x y r=>Zu (Zu (Zu ?_))))
 refine⟨.ref s.heap.objs.size,j,x,rfl,p j z _ ((l.trans c).trans y) r ?_⟩
 simp only[Rel]
 exact⟨_,rfl,c.at k9⟩)
end
end L3
namespace DK
open PySem PySem.Spec PyProof.Rows L2 L3
section
variable {prog:ZW}{w:World}{A:Z0}{E:Value->Zq->Prop}{s:Zq}{it d:Addr}{i n ep:Nat}{es:Array Z4}{Q:Option Value->Zq->Prop}
theorem next_end (hh:A.handled=none)(hit:s.heap.IsKeyIter it d i n ep)(ho:s.heap.get? d=some { cls:=.type "dict",data:=.dict es ep })(hn:es.size=n)(he:es.size<=i)
  (hQ:∀h',afH it s.heap h'->Q none { s with heap:=h' }):wpAny (model prog w) A (ac2 (.ref it)) Q E s:=by
 subst hn
 obtain⟨o,a,h,c⟩:=id hit
 have T:=hit.typeIs
 have own:adu "dict_keyiterator" = false:=by decide
 have e:A.in1.handled=none:=hh
 have ge:es[i]? = none:=Array.getElem?_eq_none he
 unfold ac2
 refine Zn (wpAny_attempt (aaB (name:=Zt "__next__") T F.slot_dict_keyiterator_next (aai F.slot_dict_keyiterator_next T F.entry_dict_keyiterator_next ?_ (F.args_dict_keyiterator_next_1 _))))
 unfold aaY.«dict_keyiterator.__next__»
 wp_walk using (abc T),(wpAny_fieldsOf a c),(abt ho rfl),(aaX ho rfl)
 have f:¬((i:Int)<0):=by omega
 simp only[f,if_false,abr,ge]
 wp_walk using (abc T),(adt a c (by simp[own]))
 unfold raiseNew
 refine Zn (wpAny_handled ?_)
 rw[e]
 refine Zn (Zu (wpAny_throw (Zn (wpAny_isInstance (T:="StopIteration") (b:=true) (v:=.ref _) (by exact⟨_,ZF _ rfl,rfl⟩) isSubtype_stop ?_))))
 exact Zu (hQ _ (((abf ..).extBut.push _).push _))
theorem next_item {e:Z4}(hit:s.heap.IsKeyIter it d i n ep)(ho:s.heap.get? d=some { cls:=.type "dict",data:=.dict es ep })(hn:es.size=n)(he:es[i]? = some e)
  (hQ:∀h',h'.IsKeyIter it d (i+1) n ep->acn it s.heap h'->Q (some e.key) { s with heap:=h' }):wpAny (model prog w) A (ac2 (.ref it)) Q E s:=by
 subst hn
 obtain⟨o,b,h,a⟩:=id hit
 have T:=hit.typeIs
 have j:¬((i:Int)<0):=by omega
 have c:(s.heap.update it (Obj.mapFields (·.setIfInBounds 1 (adY ((i:Int)+1))))).IsKeyIter it d (i+1) es.size ep :=
  ⟨_,abo _ b (aeA (acu a _)),(afu ..).trans h,by rw[acu a];simp[adY]⟩
 unfold ac2
 refine Zn (wpAny_attempt (aaB (name:=Zt "__next__") T F.slot_dict_keyiterator_next (aai F.slot_dict_keyiterator_next T F.entry_dict_keyiterator_next ?_ (F.args_dict_keyiterator_next_1 _))))
 unfold aaY.«dict_keyiterator.__next__»
 wp_walk using (abc T),(wpAny_fieldsOf b a),(abt ho rfl),(aaX ho rfl)
 simp only[j,if_false,abr,he]
 have own:adu "dict_keyiterator" = false:=by decide
 refine Zn (Zn (abc T (Zu (Zn (aeC T ?_)))))
 rw[own]
 refine Zn (adt b a (by simp) ?_)
 have f:aeS { s with heap:=s.heap.update it (Obj.mapFields (·.setIfInBounds 1 (adY ((i:Int)+1)))) } (.ref it) "dict_keyiterator":=c.typeIs
 refine Zn (Z5 (Zn (aeC f (Zu (Zu ⟨_,rfl,Zu (hQ _ c (abf ..))⟩)))))
theorem El {Q:Value->Zq->Prop}(hd:(d == abi)=false)(ho:s.heap.get? d=some { cls:=.type "dict",data:=.dict es ep })
  (hQ:Q (.ref s.heap.objs.size) { s with heap:=s.heap.push { cls:=.type "dict_keyiterator",data:=.fields #[.ref d,.int 0 0,.int es.size 0,.int ep 0] } }):wpAny (model prog w) A (pyIter (.ref d)) Q E s:=by
 have T:s.TypeIs (.ref d) "dict":=⟨_,ho,rfl⟩
 refine wpAny_pyIter_slot T F.slot_dict_iter (aai F.slot_dict_iter T F.entry_dict_iter ?_ (F.args_dict_iter_1 _))
 unfold aaY.«dict.__iter__» Builtin.Dict.dictSlotNone Builtin.Dict.showsAll
 wp_walk using (abW T),(abt ho rfl),(aaX ho rfl)
 exact⟨_,rfl,"dict_keyiterator",_,⟨_,ZF _ rfl,rfl⟩,F.slot_dict_keyiterator_next.lookup,by simpa[adY]using hQ⟩
end
end DK
namespace L3
open PySem PySem.Spec PyProof.Rows L2 SeqAt DK
end L3
namespace L3
open PySem PySem.Spec PyProof.Rows L2
abbrev VW:=G->Option (List D)
noncomputable def gV (d1 d2:D)(g:G):Option (D×G):=match d1,d2 with
 |.lst xs,.int k=>if(!xs.isEmpty&&decide (0<=k)&&cE k&&aD (xs.length*k.toNat))=true then some (.ref g.length,g ++ [(Zo k.toNat xs).flatten])else none
 |d1,d2=>dq d1 d2 g
section
variable {X:Cx}
theorem yg:bO X (aaz .Mult) (dz X.kw gV):=by
 intro pins s σ H x y v u Q I i h q
 obtain⟨ι,g,d1,o,d,g',G0,b,f,q,p⟩:=q
 unfold gV at q
 split at q
 . rename_i xs k
   split at q
   . rename_i z
     simp only[Zv,decide_eq_true_eq,aau]at z
     cases q
     simp only[Rel]at b f
     subst f
     obtain⟨a,r,rfl,m,c⟩:=b
     have n:=cE.and z.1.2
     have l:=aD.le z.2
     rw[aaP]at l
     refine I_ pins s σ H _ _ v u Q I i h ⟨a,k,r,rfl,rfl,m.sq,?_,z.1.1.2,n.2,by rw[<- c.length];exact l,λpp j=>?_⟩
     . intro e
       subst e
       have:=c.length
       simp at this
       subst this
       simp at z
     . refine p _ _ _ (Ext.push j) (G0.push j (c.rep _)) ?_
       simp only[Rel]
       exact⟨pp,rfl,cR.new G0.len⟩
   . cases q
 . exact Bq pins s σ H x y v u Q I i h ⟨ι,g,d1,o,d,g',G0,b,f,q,p⟩
end
@[simp] theorem RG {xs:List D}{k:Int}{g:G}:gV (.lst xs) (.int k) g=if(!xs.isEmpty&&decide (0<=k)&&cE k&&aD (xs.length*k.toNat))=true then some (.ref g.length,g ++ [(Zo k.toNat xs).flatten])else none:=rfl
end L3
namespace RI
open PySem PySem.Spec PyProof.Rows L2 L3
structure G0 where
 T:Nat->Fn
 k:Nat
 fns:List (Str×Nat×Nat)
 mz:List Str
 vR:List (Str×D)
 vS:List (Str×List (Str×D))
structure Cs where
 N:List Str
 sc:Scope
 all:Bool
 mt:List Str
 own:List Str
inductive BP (m:G0)(X:Cx)(x:Str)(i n:Nat):Prop
 |mk (f:Addr) (fd:aaG) (ps:List Str) (ok:dF X.prog X.w X.K X.mg X.base i8 m.k f fd ps (mn X.kw n (m.T i))) (hm:X.mg x=some (.ref f)) (kp:aa3 X.K (.ref f)=true) (b:Binds X.K fd ps []) (ln:∀ds g r,m.T i ds g=some r->ds.length=n):BP m X x i n
structure Gd (m:G0)(c:Cs)(X:Cx):Prop where
 hN:X.N=c.N
 hs:X.env.scope=c.sc
 nd:c.N.Nodup
 xe:X.xe=λ_ _=>False
 cm:X.calm=true
 rm:cV m.k X.A
 al:c.all=true->∀x,X.fn x=true
 ow:∀x∈c.own,X.fn x=true
 fn:∀x i n,(x,i,n)∈m.fns->BP m X x i n
 bl:∀x∈m.mz,X.mg x=none
 cn:∀x d,(x,d)∈m.vR->∃v u,X.mg x=some u/\RelV v u /\ ∀K H ι,Rel K H ι d v
 dc:∀x t,(x,t)∈m.vS->∃a,X.mg x=some (.ref a)/\iI X.w X.kw a t
noncomputable def m_:FT:=λ_ _=>none
noncomputable def qD:FA:=λ_ _=>none
noncomputable def df:FS:=λ_ _=>none
noncomputable def qE:FI:=λ_ _=>none
noncomputable def qF:FG:=λ_ _ _=>none
section
variable {X:Cx}
theorem rT {e:Expr}:DT X e m_:=.of (λpins s σ H Q I h=>by obtain⟨_,_,_,_,_,_,_,h,_⟩:=h;cases h)
theorem rV {es:List Expr}:DA X es qD:=.of (λ_ pins s σ H Q I h=>by obtain⟨_,_,_,_,_,_,_,h,_⟩:=h;cases h)
theorem c6 {e:Stmt}:DS X e df:=.of (λpins s σ H Q I h=>by obtain⟨_,_,_,_,_,_,_,_,h,_⟩:=h;cases h)
theorem rW {tg e:Expr}:DI X tg e qE:=.of (λpins s σ H Q I h=>by obtain⟨_,_,_,_,_,_,_,h,_⟩:=h;cases h)
theorem iz {e:Expr}:DG X e qF:=.of (λpins s σ H v u Q I r h=>by obtain⟨_,_,_,_,_,_,_,_,_,h,_⟩:=h;cases h)
end
noncomputable def isStar:Expr->Bool
 |.Starred ..=>true
 |_=>false
noncomputable def isSet:Expr->Bool
 |.Set ..=>true
 |_=>false
noncomputable def uo:Expr->Bool
 |.Slice ..=>true
 |_=>false
noncomputable def qG:Expr->Bool
 |.ListComp ..=>true
 |.SetComp ..=>true
 |.DictComp ..=>true
 |_=>false
noncomputable def PF:Expr->Bool
 |.List ..=>true
 |_=>false
noncomputable def qH:Expr->Bool
 |.Tuple ..=>true
 |_=>false
noncomputable def yh:Expr->Bool
 |.Call (.Name _ _) [] [] _=>true
 |_=>false
noncomputable def vT:Expr->Bool
 |.UnaryOp .Not _ _=>false
 |.BoolOp ..=>false
 |.IfExp ..=>false
 |.Compare ..=>false
 |_=>true
noncomputable def PH:Expr->Bool
 |.Name ..=>true
 |.Subscript ..=>true
 |.Constant ..=>true
 |_=>false
theorem bV {e:Expr}{es:List Expr}{env:Env}(h:isStar e=false):ZU (e::es) env=(false,eval e env)::ZU es env:=by
 cases e<;>first|rfl|cases h
theorem marks {op:CmpOp}{e:Expr}(h:isSet e=false):acM op e=false:=by
 cases e<;>first|rfl|cases h
theorem plainT {e:Expr}{env:Env}(h:vT e=true):∀whole,isTrue e env whole=(do let v <- whole;aet e.pos;abA [v] (truthy v)):=by
 intro whole
 cases e with
 |UnaryOp op a p=>cases op<;>first|rfl|cases h
 |_=>first|rfl|cases h
theorem yi {e:Expr}(h:uo e=false):nQ e:=by
 intro o i
 cases e<;>first|rfl|cases h
theorem baseOk {e:Expr}{x:Str}{env:Env}(h:yh e=false):aca e x env (eval e env)=eval e env:=by
 unfold aca
 split
 . cases h
 . rfl
theorem vU {e:Expr}{t:Option Expr}{l:Nat}{env:Env}(h:qG e=false):ab0 e t l env=pure false:=by
 cases e<;>first|rfl|cases h
theorem lQ {e:Expr}{env:Env}(h:isSet e=false):∀x,aaf e env x=pure x:=by
 intro x
 cases e<;>first|rfl|cases h
theorem k_ {es:List Expr}{env:Env}{pos:Pos}(h:es.any isStar=false):(abe pos (ZU es env)).any (·.1)=false:=by
 induction es with
 |nil=>rfl
 |cons e es ih =>
  rw[aay,aaw]at h
  rw[bV h.1]
  show(false||(abe pos (ZU es env)).any (·.1))=false
  rw[ih h.2];rfl
theorem vV {es:List Expr}{env:Env}{pos:Pos}(h:es.any isStar=false):(abe pos (ZU es env)).all (λx=>!x.1)=true:=by
 induction es with
 |nil=>rfl
 |cons e es ih =>
  rw[aay,aaw]at h
  rw[bV h.1]
  show(true&&(abe pos (ZU es env)).all (λx=>!x.1))=true
  rw[ih h.2];rfl
noncomputable def nc:List Str->Str->Option Nat
 | [],_=>none
 |y::N,x=>if y == x then some 0 else(nc N x).map (· + 1)
theorem jQ:∀{N:List Str} {x:Str} {i:Nat},nc N x=some i->N[i]? = some x
 | [],_,_,h=>by cases h
 |y::N,x,i,h=>by
  unfold nc at h
  split at h
  . rename_i e
    cases h
    simp[eq_of_beq e]
  . obtain⟨j,a,rfl⟩:=ZM.mp h
    simpa using jQ a
theorem lookup_mem {α:Type}:∀{l:List (Str×α)} {x:Str} {a:α},l.lookup x=some a->(x,a)∈l
 | [],_,_,h=>by cases h
 | (y,b)::l,x,a,h=>by
  rw[aad]at h
  split at h
  . rename_i e
    cases h
    rw[eq_of_beq e];exact ZR
  . exact ZV _ (lookup_mem h)
noncomputable def jx (x:Str):Bool:=x == ("__debug__":Str)||x == ("__classdict__":Str)||x == ("__name__":Str)
theorem qI {x:Str}(h:jx x=false):(x == ("__debug__":Str))=false/\(x == ("__classdict__":Str))=false/\x ≠ "__name__":=by
 simp only[jx,aaw]at h
 exact⟨h.1.1,h.1.2,λe=>by have:=h.2;rw[e]at this;simp at this⟩
structure jn where
 nm:Str
 fn:Fn
 ok:∀{X:Cx} {k:Nat},cV k X.A->X.calm=true->(∃id,b_ X (.builtin id) (gC X.kw fn)/\aa0 nm=some (.builtin id))\/(∃T,b_ X (.type T) (gC X.kw fn)/\aa0 nm=some (.type T))
structure qJ where
 nm:Str
 ik:D->Bool
 m:D->List D->G->Option (D×G)
 ok:∀{X:Cx} {k:Nat},cV k X.A->∃T id,MR X T nm id ik m
noncomputable def aE (E:Expr->FE):List Expr->FA
 | []=>af
 |e::es=>if isStar e then qD else aa (E e) (aE E es)
structure zU where
 nm:Str
 tup:Bool
 f:(Expr->FE)->List Expr->FI
 ok:∀{X:Cx} {k:Nat} {E:Expr->FE} {tg:Expr} {as:List Expr} {p pos:Pos},cV k X.A->X.calm=true->X.mg nm=none->Gl X nm->(∀e,DE X e (E e))->as.any isStar=false->(tup=true->qH tg=true)->DI X tg (.Call (.Name nm p) as [] pos) (f E as)
structure n6 where
 e:G0->Cs->(Expr->FE)->Bool->Expr->Option FE
 yj:∀{m:G0} {c:Cs} {X:Cx} {E:Expr->FE},Gd m c X->(∀e,DE X e (E e))->∀{rf x f},e m c E rf x=some f->DE X x f
 t:G0->Cs->(Expr->FE)->Expr->Option FT
 tok:∀{m:G0} {c:Cs} {X:Cx} {E:Expr->FE},Gd m c X->(∀e,DE X e (E e))->∀{x f},t m c E x=some f->DT X x f
structure Pk where
 bl:List jn
 br:List jn
 mt:List qJ
 it:List zU
 xr:List n6
noncomputable def BQ:Const->FE
 |.int i=>fC (.int i)
 |.str x=>fC (.str x)
 |.bool b=>fC (.bl b)
 |.none=>fC .aq
 |_=>bF
noncomputable def uq:Option abh->Bool
 |some .local=>true
 |some .cell=>true
 |some .free=>true
 |_=>false
noncomputable def eName (m:G0)(c:Cs)(x:Str):FE :=
 if jx x then bF else
 match uq (c.sc.names.lookup x),nc c.N x with
 |true,some i=>ab i
 |true,none=>bF
 |false,_=>if c.sc.names.lookup x=some .globalImplicit then(match m.vR.lookup x with|some d=>fC d|none=>match m.fns.lookup x with|some _=>fC (.fn x)|none=>bF)else bF
noncomputable def Mz (op:aco)(rf ls:Bool)(fa fb:FE):FE:=match op with
 |.Add=>ag bC fa fb
 |.Sub=>ag (cI kh (· - ·)) fa fb
 |.Mult=>ag (if ls then gV else dq) fa fb
 |.FloorDiv=>ag (cI gm (· / ·)) fa fb
 |.Mod=>ag (cI cj (· % ·)) fa fb
 |.Pow=>ag (cI jg (λi j=>i ^ j.toNat)) fa fb
 |_=>bF
noncomputable def RH (op:UnaryOp)(fa:FE):FE:=match op with
 |.USub=>Gf zI fa
 |_=>bF
noncomputable def bE (E:Expr->FE)(g:Bool)(op:BoolOp):List Expr->FE
 | []=>bF
 | [a]=>E a
 |a::b::r=>match op with
  |.And=>zA (E a) (bE E g .And (b::r))
  |.Or=>DV (E a) (bE E g .Or (b::r))
noncomputable def RJ:CmpOp->D->D->G->Option (D×G)
 |.Lt=>oLt
 |.LtE=>oLe
 |.Gt=>sR
 |.GtE=>Bs
 |.Eq=>oEq
 |.NotEq=>dY
 |.Is=>mY
 |.IsNot=>jk
 |.In=>zS
 |.NotIn=>k8
noncomputable def rX (E:Expr->FE)(l:Expr):List CmpOp->List Expr->FE
 | [op],[b]=>if isSet b then bF else ag (RJ op) (E l) (E b)
 |_,_=>bF
noncomputable def pE (E:Expr->FE):Option Expr->FO
 |none=>mX
 |some e=>dD (E e)
noncomputable def Em (E:Expr->FE)(v:Expr):Expr->FE
 |.Slice lo hi none _=>iy (E v) (pE E lo) (pE E hi)
 |.Slice lo hi (some st) _=>bF
 |s=>ag ak (E v) (E s)
noncomputable def zV (m:G0)(P:Pk)(c:Cs)(rf:Bool)(E:Expr->FE)(f:Expr)(as:List Expr)(pos:Pos):FE:=match f with
 |.Name x _=>if jx x||as.any isStar then bF else if c.sc.names.lookup x=some .globalImplicit then
   (match m.fns.lookup x with
   |some (i,_)=>au (m.T i) (aE E as)
   |none=>if as.isEmpty || !(m.mz.elem x)then bF else match(if rf then P.br else P.bl).find? (λr=>r.nm == x)with
    |some r=>au r.fn (aE E as)
    |none=>bF)
  else bF
 |.Attribute o x ap=>if yh o||as.any isStar || !(ap.endLine == pos.line) || !(decide (as.length<29))then bF else match P.mt.find? (λr=>r.nm == x)with
  |some r=>eA r.ik r.m (E o) (aE E as)
  |none=>bF
 |_=>bF
section
variable {m:G0}{c:Cs}{X:Cx}{E:Expr->FE}
theorem Gd.hu (g:Gd m c X):X.A.units+64<cLine:=g.rm.units
theorem Gd.gl (g:Gd m c X){x:Str}(h:c.sc.names.lookup x=some .globalImplicit):Gl X x:=by
 show X.env.scope.names.lookup x=_
 rw[g.hs];exact h
theorem eS (hE:∀e,DE X e (E e)):∀es:List Expr,DA X es (aE E es)
 | []=>Be
 |e::es=>by
  unfold aE
  split
  . exact rV
  . rename_i h
    exact rL (hE e) (eS hE es) (bV (by simpa using h))
theorem BR {v:Const}{j:Nat}{p:Pos}:DE X (.Constant v j p) (BQ v):=by
 cases v with
 |int i=>exact Ld
 |str x=>exact Le
 |bool b=>exact O9
 |none=>exact Lf
 |_=>exact bW
theorem En (g:Gd m c X){x:Str}{p:Pos}:DE X (.Name x p) (eName m c x):=by
 unfold eName
 split
 . exact bW
 rename_i k
 obtain⟨a,r,_⟩:=qI (by simpa using k)
 split
 . rename_i i b l
   refine Lg i (by rw[g.hN];exact jQ l) ?_ a r
   rw[g.hs]
   unfold uq at b
   split at b
   . rename_i e;exact .inl e
   . rename_i e;exact .inr (.inl e)
   . rename_i e;exact .inr (.inr e)
   . cases b
 . exact bW
 . split
   . rename_i j
     split
     . rename_i d hd
       obtain⟨v,u,z,o,s⟩:=g.cn x d (lookup_mem hd)
       exact Ic (g.gl j) z o s a
     . split
       . rename_i y q
         obtain⟨i,n⟩:=y
         obtain⟨f,fd,ps,_,hm,_⟩:=g.fn x i n (lookup_mem q)
         exact .of (PE.imp (rG (v:=.ref f) (g.gl j) hm rfl a) λσ H Q h=>by
          obtain⟨ι,σd,g1,d,g',G0,S0,h,p⟩:=h
          cases h
          exact p H ι _ Ext.refl G0 (by simp only[Rel];exact⟨f,rfl,hm⟩))
       . exact bW
   . exact bW
theorem Je {op:aco}{rf ls:Bool}{a b:Expr}{p:Pos}{fa fb:FE}(ha:DE X a fa)(hb:DE X b fb):DE X (.BinOp a op b p) (Mz op rf ls fa fb):=by
 cases op<;>first|exact bW|skip
 . exact ke L_ ha hb
 . exact ke LK ha hb
 . cases ls
   . exact ke Bq ha hb
   . exact ke yg ha hb
 . exact ke LM ha hb
 . exact ke LN ha hb
 . exact ke IA ha hb
theorem MA {op:UnaryOp}{a:Expr}{p:Pos}{fa:FE}(ha:DE X a fa):DE X (.UnaryOp op a p) (RH op fa):=by
 cases op with
 |USub=>exact O_ LO ha
 |_=>exact bW
theorem GF (hE:∀e,DE X e (E e)){gf:Bool}{op:BoolOp}{p:Pos}:∀es:List Expr,DE X (.BoolOp op es p) (bE E gf op es)
 | []=>bW
 | [a]=>Lp (hE a)
 |a::b::r=>by
  have ih:=GF hE (gf:=gf) (op:=op) (p:=p) (b::r)
  cases op<;>cases gf
  . exact Bc (hE a) ih
  . exact Bc (hE a) ih
  . exact Gg (hE a) ih
  . exact Gg (hE a) ih
theorem BS (hu:X.A.units+64<cLine):∀op:CmpOp,bO X (aam op) (dz X.kw (RJ op))
 |.Lt=>Ph
 |.LtE=>Pj
 |.Gt=>Pl
 |.GtE=>Pm
 |.Eq=>Pn hu
 |.NotEq=>Mq hu
 |.Is=>Pt
 |.IsNot=>IP
 |.In=>Mw hu
 |.NotIn=>BN hu
theorem Jf (hu:X.A.units+64<cLine)(hE:∀e,DE X e (E e)){l:Expr}{ops:List CmpOp}{rs:List Expr}{p:Pos}:DE X (.Compare l ops rs p) (rX E l ops rs):=by
 unfold rX
 split
 . split
   . exact bW
   . rename_i h
     exact Li (BS hu _) (hE _) (hE _) (marks (by simpa using h))
 . exact bW
theorem Jg (hu:X.A.units+64<cLine)(hE:∀e,DE X e (E e)){l:Expr}{ops:List CmpOp}{rs:List Expr}{p:Pos}:DT X (.Compare l ops rs p) (ay (rX E l ops rs)):=by
 have none_:DT X (.Compare l ops rs p) (ay bF):=.of (λpins s σ H Q I h=>by obtain⟨_,_,_,_,_,_,_,h,_⟩:=h;cases h)
 unfold rX
 split
 . split
   . exact none_
   . rename_i h
     exact Lk (BS hu _) (hE _) (hE _) (marks (by simpa using h))
 . exact none_
theorem GG (hE:∀e,DE X e (E e)):∀o:Option Expr,DO X o (pE E o)
 |none=>IG
 |some e=>IH (hE e)
theorem Jh (hu:X.A.units+64<cLine)(hE:∀e,DE X e (E e)){v s:Expr}{p:Pos}:DE X (.Subscript v s p) (Em E v s):=by
 unfold Em
 split
 . exact BG (hE _) (GG hE _) (GG hE _)
 . exact bW
 . rename_i a b
   refine Mv hu (hE _) (hE _) (yi ?_)
   cases s with
   |Slice lo hi st q =>
    cases st with
    |none=>exact absurd rfl (a _ _ _)
    |some e=>exact absurd rfl (b _ _ _ _)
   |_=>rfl
theorem Eo (P:Pk){rf:Bool}(g:Gd m c X)(hE:∀e,DE X e (E e)){f:Expr}{as:List Expr}{pos:Pos}:DE X (.Call f as [] pos) (zV m P c rf E f as pos):=by
 unfold zV
 split
 . rename_i x p
   split
   . exact bW
   rename_i h
   simp only[aaa,not_or,abF]at h
   obtain⟨q,o2,z⟩:=qI h.1
   have j:=h.2
   split
   . rename_i l
     split
     . rename_i i n hf
       obtain⟨fa,fd,ps,ok,hm,kp,b,ln⟩:=g.fn x i n (lookup_mem hf)
       cases as with
       |nil=>exact D3 ok g.rm hm kp b ln (g.gl l) q
       |cons e es =>
         rw[aay,aaw]at j
         exact Iu ok g.rm hm kp b ln (eS hE _) (g.gl l) q (bV j.1) (k_ j.2)
     . split
       . exact bW
       rename_i v
       simp only[aaa,not_or,abF,afe,aau]at v
       split
       . rename_i r u
         have s:r.nm=x:=by have:=aeg u;exact eq_of_beq this
         have y:x∈m.mz:=ace.mp (by simpa using v.2)
         cases as with
         |nil=>simp at v
         |cons e es =>
          rw[aay,aaw]at j
          rcases r.ok g.rm g.cm with⟨id,k,a⟩|⟨T,k,a⟩
          . rw[s]at a
            exact D4 k (g.bl x y) a (eS hE _) (g.gl l) z q (bV j.1) (k_ j.2)
          . rw[s]at a
            exact Bk k (g.bl x y) a (eS hE _) (g.gl l) z q (bV j.1) (k_ j.2)
       . exact bW
   . exact bW
 . rename_i o x ap
   split
   . exact bW
   rename_i h
   simp only[aaa,not_or,abF,aau,afe,decide_eq_false_iff_not,Classical.not_not]at h
   obtain⟨⟨⟨k,a⟩,h3⟩,h4⟩:=h
   split
   . rename_i r u
     have s:r.nm=x:=by have:=aeg u;exact eq_of_beq this
     obtain⟨T,id,R⟩:=r.ok g.rm
     rw[s]at R
     cases as with
     |nil=>exact Jc R (hE o) (baseOk k) (by simpa using h3)
     |cons e es =>
       rw[aay,aaw]at a
       refine Mx R (hE o) (eS hE _) (baseOk k) ?_ (by simpa using h3) (bV a.1) (k_ a.2)
       rw[vV (by rw[aay,a.1,a.2];rfl)]
       have h5:decide ((e::es).length+([]:List adp).length+(if([]:List adp).isEmpty then 0 else 1)<30)=true:=by simp at h4 ⊢;omega
       rw[h5];rfl
   . exact bW
 . exact bW
end
noncomputable def pQ (c:Cs)(x:Str):Option Nat:=match c.sc.names.lookup x with
 |some .local=>nc c.N x
 |some .cell=>if c.all||c.own.elem x then nc c.N x else none
 |_=>none
noncomputable def Ep (f:Expr->FG):List Expr->oS
 | []=>gk
 |e::es=>b9 (f e) (Ep f es)
noncomputable def la (c:Cs)(E:Expr->FE):Nat->Expr->FG
 |_,.Name x _=>match pQ c x with|some i=>gN i|none=>qF
 |_,.Subscript o i _=>if uo i then qF else cX (E o) (E i)
 |n+1,.Tuple es _ _=>if es.any isStar then qF else gT es.length (Ep (la c E n) es)
 |_,_=>qF
section
variable {m:G0}{c:Cs}{X:Cx}{E:Expr->FE}
theorem jy (g:Gd m c X){x:Str}{i:Nat}(h:pQ c x=some i):X.N[i]? = some x/\Loc X.env.scope x/\(X.fn x=true\/X.env.scope.names.lookup x=some .local):=by
 unfold pQ at h
 rw[g.hN,g.hs]
 split at h
 . rename_i e;exact⟨jQ h,.inl e,.inr e⟩
 . rename_i e
   split at h
   . rename_i a
     rw[aaa]at a
     exact⟨jQ h,.inr e,.inl (a.elim (λa=>g.al a x) λa=>g.ow x (ace.mp a))⟩
   . cases h
 . cases h
theorem Gd.sW (g:Gd m c X):X.N.Nodup:=by rw[g.hN];exact g.nd
theorem pR {e:Expr}{es:List Expr}{env:Env}(h:isStar e=false):aaO (e::es) env=(false,ab9 e env)::aaO es env:=by
 cases e<;>first|rfl|cases h
theorem yk {es:List Expr}{env:Env}(h:es.any isStar=false):(aaO es env).length=es.length/\(aaO es env).findIdx? (·.1)=none:=by
 induction es with
 |nil=>exact⟨rfl,rfl⟩
 |cons e es ih =>
  rw[aay,aaw]at h
  obtain⟨a,b⟩:=ih h.2
  rw[pR h.1]
  exact⟨by simp[a],by rw[List.findIdx?_cons,b];rfl⟩
theorem ym {o i:Expr}{pos:Pos}{env:Env}(h:uo i=false):∀v,ab9 (.Subscript o i pos) env v=(do
  let ov <- abA [v] (eval o env)
  let iv <- abA [v,ov] (eval i env)
  aet pos
  abA [v,ov,iv] (afk ov iv v)
  release [v,ov,iv] []):=by
 intro v
 cases i<;>first|rfl|cases h
theorem ng (g:Gd m c X)(hE:∀e,DE X e (E e)):∀(n:Nat) (e:Expr),DG X e (la c E n e):=by
 intro n
 induction n with
 |zero =>
  intro e
  unfold la
  split
  . split
    . rename_i i h;obtain⟨a,b,d⟩:=jy g h;exact xS g.sW a b d
    . exact iz
  . split
    . exact iz
    . rename_i h;exact yf g.hu (hE _) (hE _) (ym (by simpa using h))
  . rename_i h;cases h
  . exact iz
 |succ n ih =>
  intro e
  unfold la
  split
  . split
    . rename_i i h;obtain⟨a,b,d⟩:=jy g h;exact xS g.sW a b d
    . exact iz
  . split
    . exact iz
    . rename_i h;exact yf g.hu (hE _) (hE _) (ym (by simpa using h))
  . rename_i o f kt p l
    cases l
    split
    . exact iz
    . rename_i j
      have j:f.any isStar=false:=by simpa using j
      have k:∀f:List Expr,f.any isStar=false->Bh X f (Ep (la c E n) f):=λf=>by
       induction f with
       |nil=>exact λ_=>Ip
       |cons e f LH =>
        intro h
        rw[aay,aaw]at h
        exact D1 (ih e) (LH h.2) (by rw[pR h.1];rfl)
      have k:=k f j
      exact Lw g.cm k (yk j).1 (yk j).2
  . exact iz
end
noncomputable def BU (m:G0)(P:Pk)(c:Cs)(E:Expr->FE)(tg:Expr)(it:Expr):FI:=match it with
 |.Call (.Name x _) as [] _=>if c.sc.names.lookup x=some .globalImplicit then(match P.it.find? (λr=>r.nm == x)with
  |some r=>if m.mz.elem x && !(as.any isStar)&&(!r.tup||qH tg)then r.f E as else qE
  |none=>cW (E it))else cW (E it)
 |it=>cW (E it)
theorem nh {m:G0}{c:Cs}{X:Cx}{E:Expr->FE}(P:Pk)(g:Gd m c X)(hE:∀e,DE X e (E e)){tg it:Expr}:DI X tg it (BU m P c E tg it):=by
 unfold BU
 split
 . rename_i x p as pos
   split
   . rename_i b
     split
     . rename_i r j
       have l:r.nm=x:=by have:=aeg j;exact eq_of_beq this
       split
       . rename_i h
         simp only[Zv,aaa,aau,beq_iff_eq]at h
         obtain⟨⟨i,k⟩,a⟩:=h
         have f:x∈m.mz:=ace.mp i
         subst l
         exact r.ok g.rm g.cm (g.bl _ f) (g.gl b) hE k (λz=>by rcases a with a|a;(rw[z]at a;cases a);exact a)
       . exact rW
     . exact vC (hE _)
   . exact vC (hE _)
 . exact vC (hE _)
noncomputable def MB (sc:Scope)(S:Scope):Scope:={ sc with names:=sc.names.map λ(n,k)=>if(k == .free&&S.kind == .function&&S.names.lookup n == some .cell)then(n,.cell)else(n,k) }
noncomputable def yo:List Str->Bool
 | []=>true
 |x::r=>!(r.elem x)&&yo r
theorem vW:∀{l:List Str},yo l=true->l.Nodup
 | [],_=>aey
 |x::r,h=>by
  simp only[yo,Zv,aau]at h
  exact aaS.mpr (And.intro (λz=>(by rw[ace.mpr z]at h;exact absurd h.1 (by simp))) (vW h.2))
noncomputable def kE (sc:Scope):List Str:=(sc.names.filter λy=>y.2 == .local||y.2 == .cell).map (·.1)
noncomputable def PJ (sc:Scope):List Str:=(sc.names.filter λy=>y.2 == .cell).map (·.1)
noncomputable def iL (sc:Scope):List Str:=(sc.names.filter λy=>y.2 == .free).map (·.1)
noncomputable def fu (c:Cs)(sc:Scope):Cs:=⟨kE sc++iL sc,MB sc c.sc,false,c.mt,PJ sc⟩
noncomputable def vX (c:Cs)(sc:Scope):List (Option Nat):=(kE sc).map (λ_=>none)++(iL sc).map (λx=>nc c.N x)
noncomputable def zW (c:Cs)(sc:Scope):Bool:=rO c.sc c.N (kE sc++iL sc) (vX c sc) sc&&yo (kE sc++iL sc)
noncomputable def BV (T:Expr->FT):List Expr->FT
 | []=>bp
 | [t]=>T t
 |_=>m_
noncomputable def MC (c:Cs):Expr->Bool
 |.Name x _=>c.mt.elem x
 |_=>false
noncomputable def ur (m:G0)(P:Pk)(c:Cs)(rf:Bool)(E:Cs->Expr->FE)(T:Cs->Expr->FT)(elt:Expr)(gs:List adI)(sc:Scope):FE:=match gs with
 | [⟨tg,it,ifs,0⟩]=>if zW c sc && !(isSet it)then
  (if MC c it then iS (if rf then kB else b4) (rQ (E c it)) (vX c sc) (la (fu c sc) (E (fu c sc)) 3 tg) (BV (T (fu c sc)) ifs) (E (fu c sc) elt)
  else bP (if rf then kB else b4) (BU m P c (E c) tg it) (vX c sc) (la (fu c sc) (E (fu c sc)) 3 tg) (BV (T (fu c sc)) ifs) (E (fu c sc) elt))else bF
 |_=>bF
section
variable {m:G0}{c:Cs}{X:Cx}
theorem Gd.comp (g:Gd m c X){sc:Scope}(h:yo (kE sc++iL sc)=true){C:Addr}{s3:Zq}{H:Hp}{fp:List Addr}{pins:List (Addr×Obj)}:Gd m (fu c sc) (ba X (kE sc++iL sc) sc C s3 H fp pins) where
 hN:=rfl
 hs:=by
  show adV sc X.env=MB sc c.sc
  rw[<- g.hs];rfl
 nd:=vW h
 xe:=rfl
 cm:=g.cm
 rm:=g.rm
 al:=λz=>by cases z
 ow:=λx k=>by
  show(sc.names.any λy=>y.1 == x&&y.2 == .cell)=true
  obtain⟨y,j,e⟩:=Z8.mp (show x∈(sc.names.filter λy=>y.2 == .cell).map (·.1) from k)
  rw[aaE]at j
  rw[ad2]
  exact⟨y,j.1,by rw[e,j.2];simp⟩
 fn:=λx i n hm=>by
  obtain⟨f,fd,o,a,b,d,e,l⟩:=g.fn x i n hm
  exact⟨f,fd,o,a,b,d,e,l⟩
 bl:=g.bl
 cn:=g.cn
 dc:=g.dc
theorem MD {T:Expr->FT}(hT:∀e,DT X e (T e)):∀ifs:List Expr,gu X ifs (BV T ifs)
 | []=>D6
 | [t]=>D7 (hT t)
 |_::_::_=>.of (λpins s σ H Q I h=>by obtain⟨_,_,_,_,_,_,_,h,_⟩:=h;cases h)
theorem yp (g:Gd m c X){E:Cs->Expr->FE}{T:Cs->Expr->FT}(hE:∀c X,Gd m c X->∀e,DE X e (E c e))(hT:∀c X,Gd m c X->∀e,DT X e (T c e)){sc:Scope}(h:zW c sc=true){tg elt:Expr}{ifs:List Expr}:
  dU X (kE sc++iL sc) (vX c sc) sc /\ ∀C s3 H fp pins,DG (ba X (kE sc++iL sc) sc C s3 H fp pins) tg (la (fu c sc) (E (fu c sc)) 3 tg) /\
   gu (ba X (kE sc++iL sc) sc C s3 H fp pins) ifs (BV (T (fu c sc)) ifs)/\DE (ba X (kE sc++iL sc) sc C s3 H fp pins) elt (E (fu c sc) elt):=by
 simp only[zW,Zv]at h
 refine⟨Bt g.hs g.hN h.1,λC s3 H fp pins=>?_⟩
 have a:=g.comp h.2 (C:=C) (s3:=s3) (H:=H) (fp:=fp) (pins:=pins)
 exact⟨ng a (hE _ _ a) 3 tg,MD (hT _ _ a) ifs,hE _ _ a elt⟩
theorem BW {X:Cx}{tg iter elt:Expr}{ifs:List Expr}{scope:Scope}{pos:Pos}{N:List Str}{fr:List (Option Nat)}{fi:oY}{t:FG}{c:FT}{e:FE}(gE:X.xe=λ_ _=>False)(hc:X.calm=true)(ok:dU X N fr scope)(hit:GA X tg iter fi)(cF:∀C s3 H fp pins,DG (ba X N scope C s3 H fp pins) tg t/\gu (ba X N scope C s3 H fp pins) ifs c/\DE (ba X N scope C s3 H fp pins) elt e)
  (hs:∀x,aaf iter X.env x=pure x:=by intro _;rfl):DE X (.ListComp elt [⟨tg,iter,ifs,0⟩] scope pos) (iS kB fi fr t c e):=by
 rw[vJ];exact sQ gE hc ok (ya hit) cF hs
theorem vY (P:Pk)(g:Gd m c X){rf:Bool}{E:Cs->Expr->FE}{T:Cs->Expr->FT}(hE:∀c X,Gd m c X->∀e,DE X e (E c e))(hT:∀c X,Gd m c X->∀e,DT X e (T c e)){elt:Expr}{gs:List adI}{sc:Scope}{p:Pos}:
   DE X (.ListComp elt gs sc p) (ur m P c rf E T elt gs sc):=by
 unfold ur
 split
 . rename_i tg it ifs
   split
   . rename_i h
     simp only[Zv,aau]at h
     obtain⟨ok,a⟩:=yp g hE hT h.1 (tg:=tg) (elt:=elt) (ifs:=ifs)
     split
     . cases rf
       . exact Ei g.xe g.cm ok (x_ (hE c X g it)) a (lQ h.2)
       . exact BW g.xe g.cm ok (x_ (hE c X g it)) a (lQ h.2)
     . cases rf
       . exact Iv g.xe g.cm ok (nh P g (hE c X g)) a (lQ h.2)
       . exact Ej g.xe g.cm ok (nh P g (hE c X g)) a (lQ h.2)
   . exact bW
 . exact bW
end
noncomputable def tB (T:Expr->FT)(op:BoolOp):List Expr->FT
 | []=>m_
 | [a]=>T a
 |a::b::r=>match op with
  |.And=>il (T a) (tB T .And (b::r))
  |.Or=>uZ (T a) (tB T .Or (b::r))
noncomputable def xE (P:Pk)(m:G0)(c:Cs)(E:Expr->FE)(rf:Bool)(e:Expr):Option FE:=P.xr.findSome? λr=>r.e m c E rf e
noncomputable def xT (P:Pk)(m:G0)(c:Cs)(E:Expr->FE)(e:Expr):Option FT:=P.xr.findSome? λr=>r.t m c E e
noncomputable def GH (m:G0)(P:Pk)(E:Cs->Bool->Expr->FE)(T:Cs->Expr->FT)(c:Cs)(rf:Bool):Expr->FE
 |.Constant v _ _=>BQ v
 |.Name x _=>eName m c x
 |.BinOp a op b _=>Mz op rf (PF a) (E c false a) (E c false b)
 |.UnaryOp op a _=>RH op (E c false a)
 |.BoolOp op vs _=>bE (E c false) (vs.dropLast.any PH) op vs
 |.IfExp t a b _=>iY (T c t) (E c rf a) (E c rf b)
 |.Compare l ops rs _=>rX (E c false) l ops rs
 |.Tuple es _ _=>aI aA (aE (E c false) es)
 |.List es _=>aI (if rf then mkRef else cx) (aE (E c false) es)
 |.Dict [] [] _=>if rf then qC else fC .de
 |.Subscript v s _=>Em (E c false) v s
 |.Call f as [] pos=>zV m P c rf (E c false) f as pos
 |.ListComp elt gs sc _=>ur m P c rf (λc e=>E c false e) T elt gs sc
 |_=>bF
noncomputable def GI (m:G0)(P:Pk)(E:Cs->Bool->Expr->FE)(T:Cs->Expr->FT)(c:Cs):Expr->FT
 |.Compare l ops rs _=>ay (rX (E c false) l ops rs)
 |.UnaryOp .Not a _=>u5 (T c a)
 |.BoolOp op vs _=>tB (T c) op vs
 |e=>if vT e then uY (E c false e)else m_
noncomputable def zX (m:G0)(P:Pk)(E:Cs->Bool->Expr->FE)(T:Cs->Expr->FT)(c:Cs)(rf:Bool)(e:Expr):FE:=match xE P m c (E c false) rf e with
 |some f=>f
 |none=>GH m P E T c rf e
noncomputable def stepT (m:G0)(P:Pk)(E:Cs->Bool->Expr->FE)(T:Cs->Expr->FT)(c:Cs)(e:Expr):FT:=match xT P m c (E c false) e with
 |some f=>f
 |none=>GI m P E T c e
noncomputable def iv (m:G0)(P:Pk):Nat->(Cs->Bool->Expr->FE)×(Cs->Expr->FT)
 | 0=>(λ_ _ _=>bF,λ_ _=>m_)
 |n+1=>(zX m P (iv m P n).1 (iv m P n).2,stepT m P (iv m P n).1 (iv m P n).2)
section
variable {m:G0}{X:Cx}
theorem jR {α β:Type}{f:α->Option β}:∀{l:List α} {b:β},l.findSome? f=some b->∃a∈l,f a=some b
 | [],_,h=>by cases h
 |a::l,b,h=>by
  rw[List.findSome?_cons]at h
  cases ha:f a with
  |none=>rw[ha]at h;obtain⟨x,i,e⟩:=jR h;exact⟨x,ZV _ i,e⟩
  |some c=>rw[ha]at h;cases h;exact⟨a,ZR,ha⟩
theorem PK {T:Expr->FT}(hT:∀e,DT X e (T e)){op:BoolOp}{p:Pos}:∀es:List Expr,DT X (.BoolOp op es p) (tB T op es):=by
 have w:∀es:List Expr,es ≠ []->DW X (.BoolOp op es p) (tB T op es):=λes=>by
  induction es with
  |nil=>intro h;exact absurd rfl h
  |cons a r ih =>
   intro _
   cases r with
   |nil=>cases op;exact Ig (hT a);exact Lm (hT a)
   |cons b r =>
    have:=ih (by simp)
    cases op
    . exact Ln (hT a) this
    . exact Pa (hT a) this
 intro es
 cases es with
 |nil=>exact rT
 |cons a r=>exact(w (a::r) (by simp)).dt
theorem GJ (m:G0)(P:Pk):∀n:Nat,(∀c X,Gd m c X->∀rf e,DE X e ((iv m P n).1 c rf e))/\(∀c X,Gd m c X->∀e,DT X e ((iv m P n).2 c e))
 | 0=>⟨λ_ _ _ _ _=>bW,λ_ _ _ _=>rT⟩
 |n+1=>by
  obtain⟨b,i⟩:=GJ m P n
  refine⟨λc X g rf e=>?_,λc X g e=>?_⟩
  . show DE X e (zX m P (iv m P n).1 (iv m P n).2 c rf e)
    unfold zX
    split
    . rename_i f hf
      obtain⟨r,_,h⟩:=jR hf
      exact r.yj g (b c X g false) h
    have a:=b c X g false
    unfold GH
    split
    . exact BR
    . exact En g
    . exact Je (a _) (a _)
    . exact MA (a _)
    . exact GF a _
    . exact Lq (i c X g _) (b c X g rf _) (b c X g rf _)
    . exact Jf g.hu a
    . exact Bf (eS a _)
    . cases rf
      . exact Bg (eS a _)
      . exact u6 (eS a _)
    . cases rf
      . exact Eb
      . exact Jd
    . exact Jh g.hu a
    . exact Eo P g a
    . exact vY P g (λc X g e=>b c X g false e) i
    . exact bW
  . show DT X e (stepT m P (iv m P n).1 (iv m P n).2 c e)
    unfold stepT
    split
    . rename_i f hf
      obtain⟨r,_,h⟩:=jR hf
      exact r.tok g (b c X g false) h
    unfold GI
    split
    . exact Jg g.hu (b c X g false)
    . exact Lo (i c X g _)
    . exact PK (i c X g) _
    . split
      . rename_i h;exact Ll (b c X g false _) (plainT h)
      . exact rT
end
noncomputable def GK (f:Stmt->FS):List Stmt->FS
 | []=>aO
 | [s]=>f s
 |s::t::r=>aw (f s) (GK f (t::r))
noncomputable def zY (S:Scope):Bool:=(if S.kind.isAnnotationScope then adA else S.kind)== .function
noncomputable def zZ (S:Scope)(x:Str)(px p:Pos)(sc:Scope):Bool:=zY S&&S.names.lookup x == some .local&&px.line == p.line && !(sc.names.any λ(n,k)=>n == x&&(k == .local||k == .cell))
noncomputable def BX (mt:List Str):Expr->Bool
 |.Name x _=>mt.elem x
 |.Subscript _ (.Constant (.str k) _ _) _=>mt.elem (Zt "=" ++ k)
 |_=>false
noncomputable def aZ (E:Bool->Expr->FE)(mt:List Str):List Expr->List Expr->FA
 |_,[]=>af
 | [],v::vs=>if isStar v then qD else aa (E false v) (aZ E mt [] vs)
 |t::ts,v::vs=>if isStar v then qD else aa (E (BX mt t) v) (aZ E mt ts vs)
noncomputable def GL (m:G0)(P:Pk)(c:Cs)(rf:Bool)(E:Cs->Expr->FE)(T:Cs->Expr->FT)(elt:Expr)(gs:List adI)(sc:Scope):FE:=match gs with
 | [⟨tg,it,ifs,0⟩]=>if zW c sc && !(isSet it)then
  (bP (if rf then kB else b4) (BU m P c (E c) tg it) (vX c sc) (la (fu c sc) (E (fu c sc)) 3 tg) (BV (T (fu c sc)) ifs) (E (fu c sc) elt))else bF
 |_=>bF
noncomputable def sY (S:Scope)(ts:List Expr):List Str:=ts.filterMap fun
 |.Name id pos=>if S.names.lookup id == some .local&&pos.line == (ts.head?.map (·.pos.line)).getD 0 then some id else none
 |_=>none
noncomputable def ME (S:Scope)(ts vs:List Expr):Option Bool :=
 if !(ts.length == 2||ts.length == 3)||vs.length != ts.length || !(zY S)then some false
 else if(sY S ts).length != ts.length||(sY S ts).eraseDups.length != (sY S ts).length then some false
 else if vs.all (foldedForSure 8)then some false
 else if vs.all (constantsAlone 8)then none
 else some true
noncomputable def MF (c:Cs)(x:Str):Bool:=c.sc.names.lookup x == some .local
noncomputable def Er (m:G0)(P:Pk)(E:Cs->Bool->Expr->FE)(T:Cs->Expr->FT)(c:Cs)(tg v:Expr):FS:=match tg,v with
 |.Name x px,.ListComp elt gs sc p=>(match pQ c x with
  |some i=>aC (if zZ c.sc x px p sc then GL m P c (c.mt.elem x) (λc e=>E c false e) T elt gs sc else ur m P c (c.mt.elem x) (λc e=>E c false e) T elt gs sc) (gN i)
  |none=>df)
 |.Name x px,v=>(match pQ c x with
  |some i=>if qG v then df else aC (E c (c.mt.elem x) v) (gN i)
  |none=>df)
 |.Tuple ts kt pt,.Tuple vs _ _=>if vs.any isStar then df else(match ME c.sc ts vs with
  |some false=>aC (aI aA (aZ (E c) c.mt ts vs)) (la c (E c false) 3 (.Tuple ts kt pt))
  |some true=>(match ts,vs with
   |_,_=>df)
  |none=>df)
 |.Subscript o i q,v=>aC (E c (BX c.mt (.Subscript o i q)) v) (la c (E c false) 3 (.Subscript o i q))
 |tg,v=>if qG v||qH v||isStar tg then df else aC (E c false v) (la c (E c false) 3 tg)
noncomputable def Et (c:Cs)(E:Expr->FE)(tg:Expr)(op:aco)(v:Expr):FS:=match tg,op with
 |.Name x _,.Add=>(match pQ c x with|some i=>pO i (λi j=>i+j) (E v)|none=>df)
 |.Name x _,.Sub=>(match pQ c x with|some i=>pO i (λi j=>i-j) (E v)|none=>df)
 |_,_=>df
noncomputable def Eu (m:G0)(P:Pk)(W:Nat)(kp:Bool)(E:Cs->Bool->Expr->FE)(T:Cs->Expr->FT)(B:List Stmt->FS)(c:Cs):Stmt->FS
 |.Return none _=>uc
 |.Return (some e) _=>aF (E c kp e)
 |.If t a b _=>bu (T c t) (B a) (B b)
 |.Assign [tg] v _=>Er m P E T c tg v
 |.AugAssign tg op v _=>Et c (E c false) tg op v
 |.For tg it body [] _=>if isSet it then df else gr (BU m P c (E c false) tg it) (la c (E c false) 3 tg) (B body)
 |.While t body [] _=>Gi W (T c t) (B body)
 |.Pass _=>aO
 |.Expr (.Constant (.str _) _ _) _=>aO
 |.Expr e _=>if qG e then df else fG (E c false e)
 |_=>df
noncomputable def sS (m:G0)(P:Pk)(W:Nat)(kp:Bool)(E:Cs->Bool->Expr->FE)(T:Cs->Expr->FT)(c:Cs):Nat->Stmt->FS
 | 0,_=>df
 |n+1,s=>Eu m P W kp E T (GK (sS m P W kp E T c n)) c s
noncomputable def body (m:G0)(P:Pk)(W:Nat)(kp:Bool)(c:Cs)(gD:List Stmt):FS:=GK (sS m P W kp (iv m P 30).1 (iv m P 30).2 c 12) gD
section
variable {m:G0}{c:Cs}{X:Cx}
theorem vZ {f:Stmt->FS}(h:∀s,DS X s (f s)):∀gD:List Stmt,kN X gD (GK f gD)
 | []=>Ii
 | [s]=>Ik (h s)
 |s::t::r=>D0 (h s) (vZ h (t::r))
theorem z8 {E:Bool->Expr->FE}{mt:List Str}(hE:∀rf e,DE X e (E rf e)):∀(ts vs:List Expr),DA X vs (aZ E mt ts vs)
 |_,[]=>by cases ‹List Expr›<;>exact Be
 | [],v::vs=>by
  unfold aZ
  split
  . exact rV
  . rename_i h;exact rL (hE _ v) (z8 hE [] vs) (bV (by simpa using h))
 |t::ts,v::vs=>by
  unfold aZ
  split
  . exact rV
  . rename_i h;exact rL (hE _ v) (z8 hE ts vs) (bV (by simpa using h))
theorem yq (g:Gd m c X){elt:Expr}{gs:List adI}{sc:Scope}{p px:Pos}{x:Str}{l:Nat}:ab0 (.ListComp elt gs sc p) (some (.Name x px)) l X.env=pure (zZ c.sc x px p sc):=by
 rw[<- g.hs];rfl
theorem XA {ts vs:List Expr}{kt k2:Nat}{pt MG:Pos}{r:Bool}(g:Gd m c X)(hv:vs.any isStar=false)(h:ME c.sc ts vs=some r):acL [.Tuple ts kt pt] (.Tuple vs k2 MG) X.env=pure (if r then some (sY c.sc ts)else none):=by
 have j:(vs.any fun|.Starred ..=>true|_=>false)=false:=by
   have:(λ(e:Expr)=>match e with|.Starred ..=>true|_=>false)=isStar:=by funext e;cases e<;>rfl
   rw[this];exact hv
 have k:(X.env.blockKind != adA)= !(zY c.sc):=by rw[<- g.hs];rfl
 unfold ME at h
 show(if(!(ts.length == 2||ts.length == 3)||vs.length != ts.length||X.env.blockKind != adA)=true then pure none else if(vs.any fun|.Starred ..=>true|_=>false)=true then pure none else
   if((sY X.env.scope ts).length != ts.length||(sY X.env.scope ts).eraseDups.length != (sY X.env.scope ts).length)=true then pure none else if vs.all (foldedForSure 8)=true then pure none else if vs.all (constantsAlone 8)=true then _ else pure (some (sY X.env.scope ts)))=_
 rw[k,j,g.hs]
 split at h
 . rename_i a;cases h;rw[if_pos a];rfl
 rename_i a
 rw[if_neg a,if_neg (by simp)]
 split at h
 . rename_i f;cases h;rw[if_pos f];rfl
 rename_i f
 rw[if_neg f]
 split at h
 . rename_i b;cases h;rw[if_pos b];rfl
 rename_i b
 rw[if_neg b]
 split at h
 . cases h
 rename_i i
 cases h
 rw[if_neg i];rfl
theorem UA {tg v:Expr}{env:Env}(h:qH v=false):acL [tg] v env=pure none:=by
 cases tg with
 |Tuple es kt p=>cases v<;>first|rfl|cases h
 |List es p=>cases v<;>first|rfl|cases h
 |_=>rfl
theorem yr {tg:Expr}{env:Env}(h:isStar tg=false):(aaO [tg] env).map (·.2)= [ab9 tg env]:=by
 rw[pR h];rfl
theorem Ew {o i v:Expr}{q:Pos}{l:Nat}{env:Env}:adE [.Subscript o i q] v l env=pure false:=by cases v<;>rfl
theorem MH {o i v:Expr}{q:Pos}{env:Env}:acL [.Subscript o i q] v env=pure none:=by cases v<;>rfl
theorem Ji (P:Pk)(g:Gd m c X){E:Cs->Bool->Expr->FE}{T:Cs->Expr->FT}(hE:∀c X,Gd m c X->∀rf e,DE X e (E c rf e))(hT:∀c X,Gd m c X->∀e,DT X e (T c e)){tg v:Expr}{p:Pos}:DS X (.Assign [tg] v p) (Er m P E T c tg v):=by
 have Y7:∀{x:Str},MF c x=true->X.env.scope.names.lookup x=some .local:=fun {x} h=>by
   rw[g.hs];exact eq_of_beq h
 unfold Er
 split
 . rename_i x px elt gs sc q
   split
   . rename_i i f
     obtain⟨a,b,d⟩:=jy g f
     split
     . rename_i j
       unfold GL
       split
       . rename_i tg it ifs
         split
         . rename_i h
           simp only[Zv,aau]at h
           obtain⟨ok,y⟩:=yp g (λc X g e=>hE c X g false e) hT h.1 (tg:=tg) (elt:=elt) (ifs:=ifs)
           have r:=(yq g (elt:=elt) (gs:=[⟨tg,it,ifs,0⟩]) (sc:=sc) (p:=q) (px:=px) (x:=x) (l:=p.line)).trans (by rw[j])
           cases c.mt.elem x
           . exact zG g.xe g.cm ok (nh P g (hE c X g false)) y g.sW a b r (lQ h.2) d
           . exact xA g.xe g.cm ok (nh P g (hE c X g false)) y g.sW a b r (lQ h.2) d
         . exact .of (λpins s σ H Q I h=>by obtain⟨_,_,_,_,_,_,_,_,h,_⟩:=h;cases h)
       . exact .of (λpins s σ H Q I h=>by obtain⟨_,_,_,_,_,_,_,_,h,_⟩:=h;cases h)
     . rename_i j
       exact Bi g.sW a b (vY P g (λc X g e=>hE c X g false e) hT) ((yq g).trans (by rw[show zZ c.sc x px q sc=false by simpa using j])) d
   . exact c6
 . rename_i x px _
   split
   . rename_i i f
     obtain⟨a,b,d⟩:=jy g f
     split
     . exact c6
     . rename_i h
       exact Bi g.sW a b (hE c X g _ _) (vU (by simpa using h)) d
   . exact c6
 . rename_i u kt pt k k2 MG
   split
   . exact c6
   rename_i n
   have n:k.any isStar=false:=by simpa using n
   have z:∀l,adE [.Tuple u kt pt] (.Tuple k k2 MG) l X.env=pure false:=λ_=>rfl
   split
   . rename_i o
     exact u7 (Bf (z8 (hE c X g) u k)) (ng g (hE c X g false) 3 _) (z _) (XA g n o) rfl
   . rename_i o
     split
     . exact c6
   . exact c6
 . exact u7 (hE c X g _ _) (ng g (hE c X g false) 3 _) Ew MH (yr rfl)
 . split
   . exact c6
   rename_i h
   simp only[aaa,not_or,abF]at h
   exact u7 (hE c X g false _) (ng g (hE c X g false) 3 _) (vU h.1.1) (UA h.1.2) (yr h.2)
theorem Jj (g:Gd m c X){E:Expr->FE}(hE:∀e,DE X e (E e)){tg v:Expr}{op:aco}{p:Pos}:DS X (.AugAssign tg op v p) (Et c E tg op v):=by
 unfold Et
 split
 . split
   . rename_i f;obtain⟨a,b,d⟩:=jy g f;exact BE g.sW a b Ko (hE _) d
   . exact c6
 . split
   . rename_i f;obtain⟨a,b,d⟩:=jy g f;exact BE g.sW a b Kp (hE _) d
   . exact c6
 . exact c6
theorem Jk (P:Pk){W:Nat}{kp:Bool}(g:Gd m c X){E:Cs->Bool->Expr->FE}{T:Cs->Expr->FT}(hE:∀c X,Gd m c X->∀rf e,DE X e (E c rf e))(hT:∀c X,Gd m c X->∀e,DT X e (T c e)){B:List Stmt->FS}(hB:∀b,kN X b (B b))(s:Stmt):
   DS X s (Eu m P W kp E T B c s):=by
 have a:adw (model X.prog X.w) X.A X.env X.xe:=by rw[g.xe];exact PassesOwn.never
 unfold Eu
 split
 . exact Im
 . exact Lr (hE c X g _ _)
 . exact Pb (hT c X g _) (hB _) (hB _)
 . exact Ji P g hE hT
 . exact Jj g (hE c X g false)
 . split
   . exact c6
   . rename_i h
     exact LJ a g.cm (nh P g (hE c X g false)) (ng g (hE c X g false) 3 _) (hB _) (lQ (by simpa using h))
 . exact D2 W a (hT c X g _) (hB _)
 . exact Il
 . exact Ls
 . split
   . exact c6
   . rename_i h;exact Io (hE c X g false _) (vU (by simpa using h))
 . exact c6
theorem Jl (P:Pk){W:Nat}{kp:Bool}(g:Gd m c X)(gD:List Stmt):kN X gD (body m P W kp c gD):=by
 obtain⟨b,a⟩:=GJ m P 30
 have:∀n s,DS X s (sS m P W kp (iv m P 30).1 (iv m P 30).2 c n s):=λn=>by
  induction n with
  |zero=>exact λ_=>c6
  |succ n ih=>exact λs=>Jk P g b a (vZ ih) s
 exact vZ (this 12) gD
end
structure dy where
 nm:Str
 ps:List Str
 N:List Str
 st:Stmt
 kp:Bool
 mt:List Str
 pu:Bool
 gn:Str
structure Mo where
 ds:List dy
 mz:List Str
 vR:List (Str×D)
 vS:List (Str×List (Str×D))
 P:Pk
 W:Nat
noncomputable def qK:Nat->List dy->List (Str×Nat×Nat)
 |_,[]=>[]
 |j,d::ds=>(d.gn,j,d.ps.length)::qK (j+1) ds
noncomputable def Mo.g (M:Mo)(T:Nat->Fn)(k:Nat):G0:=⟨T,k,qK 0 M.ds,M.mz,M.vR,M.vS⟩
noncomputable def z9 (pu:Bool)(f:Fn):Fn:=if pu then mZ f else f
noncomputable def dy.run (M:Mo)(d:dy)(T:Nat->Fn)(k:Nat):Fn:=z9 d.pu (ao d.kp d.N.length d.ps.length (body (M.g T k) M.P M.W d.kp ⟨d.N,bz d.st,true,d.mt,[]⟩ (eJ d.st)))
theorem sZ:∀{ds:List dy} {j:Nat} {x:Str} {i n:Nat},(x,i,n)∈qK j ds->∃d q,i=j+q/\ds[q]? = some d/\d.gn=x/\d.ps.length=n
 | [],_,_,_,_,h=>by simp[qK]at h
 |d::ds,j,x,i,n,h=>by
  rcases ZI.mp h with h|h
  . cases h;exact⟨d,0,rfl,rfl,rfl,rfl⟩
  . obtain⟨e,q,f,b,c,a⟩:=sZ h
    exact⟨e,q+1,by omega,by simpa using b,c,a⟩
structure Good (M:Mo)(T:Nat->Nat->Fn):Prop where
 z:∀j ds g,T 0 j ds g=none
 s:∀k j d,M.ds[j]? = some d->T (k+1) j=d.run M (T k) k
 sc:∀d∈M.ds,jv d.N d.ps (bz d.st)
inductive yt (M:Mo)(T T':Nat->Fn)(k:Nat):Nat->List dy->Prop
 |nil {j:Nat}:yt M T T' k j []
 |cons {j:Nat} {d:dy} {ds:List dy} (h:T' j=d.run M T k) (r:yt M T T' k (j+1) ds):yt M T T' k j (d::ds)
theorem yt.get {M:Mo}{T U:Nat->Fn}{k:Nat}:∀{j:Nat} {ds:List dy},yt M T U k j ds->∀{i:Nat} {d:dy},ds[i]? = some d->U (j+i)=d.run M T k
 |_,_,.nil,_,_,h=>by simp at h
 |_,_,.cons h r,0,d,e=>by simp at e;subst e;exact h
 |j,_,.cons h r,i+1,d,e=>by
  have:=r.get (i:=i) (by simpa using e)
  rw[show j+(i+1)=j+1+i by omega];exact this
structure A9 (M:Mo)(K:KW)(f:Nat->Addr)(fd:Nat->aaG):Prop where
 fn:∀j d,M.ds[j]? = some d->xR K.fr d.nm d.nm d.st (f j) (fd j)/\K.mg d.gn=some (.ref (f j))/\Binds K.fr (fd j) d.ps []
 bl:∀x∈M.mz,K.mg x=none
 cn:∀x d,(x,d)∈M.vR->∃v u,K.mg x=some u/\RelV v u /\ ∀K H ι,Rel K H ι d v
 dc:∀x t,(x,t)∈M.vS->∃a,K.mg x=some (.ref a)/\iI K.w K a t
section
variable {M:Mo}{T:Nat->Nat->Fn}{K:KW}{f:Nat->Addr}{fd:Nat->aaG}{P:ZW}{base:Heap}
theorem Good.len (G:Good M T){k j:Nat}{d:dy}(h:M.ds[j]? = some d):∀ds g r,T k j ds g=some r->ds.length=d.ps.length:=λds g r q=>by
 cases k with
 |zero=>rw[G.z]at q;cases q
 |succ k =>
  rw[G.s k j d h]at q
  unfold dy.run z9 at q
  split at q
  . exact zM (λ_ _ _=>sP _ _ _) ds g r q
  . exact sP ds g r q
theorem BY (G:Good M T)(A:A9 M K f fd):∀k j d,M.ds[j]? = some d->dF P K.w K.fr K.mg base i8 k (f j) (fd j) d.ps (mn K d.ps.length (T k j))
 | 0,j,d,h=>Ir λds g=>G.z j ds g
 |k+1,j,d,h=>by
  have ih:=BY G A k
  obtain⟨F,hm,hb⟩:=A.fn j d h
  have S:=G.sc d (ZZ h)
  have j9:d.ps.length<=d.N.length:=by have:=congrArg afC S.pre;rw[aa2]at this;omega
  have main:dF P K.w K.fr K.mg base i8 (k+1) (f j) (fd j) d.ps (mn K d.ps.length (ao d.kp d.N.length d.ps.length (body (M.g (T k) k) M.P M.W d.kp ⟨d.N,bz d.st,true,d.mt,[]⟩ (eJ d.st)))):=by
    refine Pf F S j9 λdS o outer s H E p=>?_
    have y:Gd (M.g (T k) k) ⟨d.N,bz d.st,true,d.mt,[]⟩ (mM i8 P K.w K.fr K.mg base d.N d.nm (bz d.st) (f j) dS o outer s H E).xK:=⟨rfl,rfl,S.nd,rfl,rfl,p,λ_ _=>rfl,(λ_ h=>nomatch h),λx i n l=>?_,A.bl,A.cn,A.dc⟩
    . exact Jl M.P y _
    obtain⟨e,q,b,a,r,c⟩:=sZ l
    have b:i=q:=by omega
    subst b r c
    obtain⟨m,u,v⟩:=A.fn i e a
    exact⟨f i,fd i,e.ps,ih i e a,u,m.kp,v,G.len a⟩
  rw[G.s k j d h]
  unfold dy.run z9
  split
  . exact IQ main
  . exact main
end
noncomputable def z_ (K:ZD):Sp:=λb H Q _=>∃(a:Addr) (ns:List Int),b = [.ref a]/\c_ K H a (ns.map V.int)/\ns.length<=63 /\ ∀H',Q (.bl true) H'
theorem s_ {K:KW}{H:Hp}{ι:Ix}:∀ns:List Int,aj K H ι (ns.map D.int) (ns.map V.int)
 | []=>by simp[aj]
 |n::ns=>by
  simp only[Z9,aj]
  exact⟨_,_,rfl,by simp[Rel],s_ ns⟩
theorem MI {K:KW}{fn:Fn}(h:∀ns:List Int,ns.length<=63->∃g',fn [.lst (ns.map .int)] []=some (.bl true,g'))(vs:List V)(H:Hp)(Q:VK)(E:XK)(q:z_ K.fr vs H Q E):mn K 1 fn vs H Q E:=by
 obtain⟨a,ns,rfl,c,m,k⟩:=q
 obtain⟨g',f⟩:=h ns m
 refine⟨rfl,⟨[],[],λ_=>0⟩,[],[.lst (ns.map .int)],.bl true,g',⟨aey,rfl,(λb l=>by cases l),(λi xs z=>by simp at z)⟩,?_,f,λj n v e G r=>?_⟩
 . simp only[aj]
   refine⟨_,_,rfl,?_,rfl⟩
   simp only[Rel]
   refine⟨a,_,rfl,?_,s_ ns⟩
   rcases c with c|c
   . exact .inl ⟨c,by simp,by simp⟩
   . exact .inr c
 . simp only[Rel]at r
   rw[r]
   exact k j
inductive aW (K:ZD):List dy->List Addr->List aaG->Prop
 |nil:aW K [] [] []
 |cons {nm gn:Str} {ps N:List Str} {st:Stmt} {kp pu:Bool} {mt:List Str} {ds:List dy} {fs:List Addr} {gW:List aaG} {f:Addr} {oc:Value} {od an:Option Addr} {sl:Array (Option Value)} {kV dc pm cd ct:Value}
  (a:abm K aal gn=some (some (.ref f)))
  (l:K.lookup f=some ⟨oc,od,.func (abB nm nm (jw st) (eJ st) (bz st) .none kV dc pm an cd ct),sl⟩)
  (e:adl K cd nm=true) (k:aa3 K (.ref f)=true)
  (b:∀us:List Value,us.length=ps.length->bindArgs (abB nm nm (jw st) (eJ st) (bz st) .none kV dc pm an cd ct) ⟨us,[]⟩=pure (ps.zip us))
  (r:aW K ds fs gW):aW K (⟨nm,ps,N,st,kp,mt,pu,gn⟩::ds) (f::fs) (abB nm nm (jw st) (eJ st) (bz st) .none kV dc pm an cd ct::gW)
theorem aW.get {K:ZD}{h:Heap}{mg:Str->Option Value}(X:K.In h)(G:h.Ns aal mg){f0:Addr}{d0:aaG}:∀{ds:List dy} {fs:List Addr} {gW:List aaG},aW K ds fs gW ->
  ∀j d,ds[j]? = some d->xR K d.nm d.nm d.st (fs.getD j f0) (gW.getD j d0)/\mg d.gn=some (.ref (fs.getD j f0))/\Binds K (gW.getD j d0) d.ps []
 |_,_,_,.nil,j,d,h=>by simp at h
 |_,_,_,.cons a l e k b r,0,d,h=>by
  simp at h;subst h
  exact⟨Lb l e k,aeT X G a,.all b⟩
 |_,_,_,.cons a l e k b r,j+1,d,h=>by
  simpa using r.get X G j d (by simpa using h)
theorem aW.RK {K:ZD}{d0:aaG}:∀{ds:List dy} {fs:List Addr} {gW:List aaG},aW K ds fs gW->∀j d,ds[j]? = some d->∀us:List Value,us.length=d.ps.length->bindArgs (gW.getD j d0) ⟨us,[]⟩=pure (d.ps.zip us)
 |_,_,_,.nil,j,d,h=>by simp at h
 |_,_,_,.cons a l e k b r,0,d,h=>by
  simp at h;subst h
  exact b
 |_,_,_,.cons a l e k b r,j+1,d,h=>by
  simpa using r.RK j d (by simpa using h)
theorem ko {p:List Value->Prop}(h:∀a,p [a]):∀us:List Value,us.length=1->p us
 | [a],_=>h a
theorem i_ {p:List Value->Prop}(h:∀a b,p [a,b]):∀us:List Value,us.length=2->p us
 | [a,b],_=>h a b
theorem v3 {p:List Value->Prop}(h:∀a b c,p [a,b,c]):∀us:List Value,us.length=3->p us
 | [a,b,c],_=>h a b c
theorem qL {p:List Value->Prop}(h:∀a b c d,p [a,b,c,d]):∀us:List Value,us.length=4->p us
 | [a,b,c,d],_=>h a b c d
theorem yu {p:List Value->Prop}(h:∀a b c d e,p [a,b,c,d,e]):∀us:List Value,us.length=5->p us
 | [a,b,c,d,e],_=>h a b c d e
theorem XC {p:List Value->Prop}(h:∀a b c d e f,p [a,b,c,d,e,f]):∀us:List Value,us.length=6->p us
 | [a,b,c,d,e,f],_=>h a b c d e f
theorem whole {l:ab1}{w:World}{K:ZD}{h:Heap}{mg:Str->Option Value}{fa:Addr}{M:Mo}{T:Nat->Nat->Fn}{i R:Nat}{d:dy}{x:Str}{fs:List Addr}{gW:List aaG}(X:K.In h)(G:h.Ns aal mg)(hd:M.ds[i]? = some d)(hx:d.ps = [x])(MJ:d.gn = "law")(GN:mg "law" = some (.ref fa))
   (gd:Good M T) (L:aW K M.ds fs gW) (bl:∀y∈M.mz,abm K aal y=some none)
   (cn:∀y e,(y,e)∈M.vR->∃v u,abm K aal y=some (some u)/\RelV v u /\ ∀K H ι,Rel K H ι e v)
   (dc:∀y t,(y,t)∈M.vS->∃a,abm K aal y=some (some (.ref a))/\iI w ⟨K,w,mg⟩ a t)
   (spec:∀ns:List Int,ns.length<=63->∃g',T R i [.lst (ns.map .int)] []=some (.bl true,g')):
   ∃fd:aaG,(∀(s:Zq) (v:Value),afl s fd ⟨[v],[]⟩ [(x,v)]) /\ ∀base:Heap,K.In base->base.Ns aal mg->dF l.prog w K mg base i8 R fa fd [x] (z_ K):=by
 have A:A9 M ⟨K,w,mg⟩ (λj=>fs.getD j fa) (λj=>gW.getD j (gW.getD 0 default)):=⟨λj d h=>L.get X G j d h,λy f=>PySem.W.mg_none_of X G (bl y f),λy e hm=>by
   obtain⟨v,u,c,b,k⟩:=cn y e hm
   exact⟨v,u,aeT X G c,b,k⟩,λy t hm=>by
   obtain⟨a,c,b⟩:=dc y t hm
   exact⟨a,aeT X G c,b⟩⟩
 obtain⟨F,hm,m⟩:=A.fn i d hd
 rw[MJ]at hm
 have e:fs.getD i fa=fa:=by
   have:=hm.symm.trans GN;injection this with this;injection this
 refine⟨gW.getD i (gW.getD 0 default),λs v=>.of_eq ?_,λbase _ _=>?_⟩
 . have:=L.RK (d0:=gW.getD 0 default) i d hd [v] (by rw[hx];rfl)
   rw[this,hx];rfl
 have ok:=BY (P:=l.prog) (base:=base) gd A R i d hd
 dsimp only at ok
 rw[e,hx]at ok
 exact dF.imp ok (MI (K:=⟨K,w,mg⟩) spec)
end RI
namespace TL
open PySem PySem.Spec PySem.SeqAt PyProof.Rows PySem.W
section
variable {prog:ZW}{w:World}{A:Z0}{E:Value->Zq->Prop}{s:Zq}
theorem nj {a:Addr}{p0:Array Nat}{vs out:List Value}{n:Nat}{κ:ad5}{P:PySem.Fin->Zq->Prop}(ho:s.heap.get? a=some (aaL "list" vs.toArray n))(BZ:vs.length<64)
   (hk:2<=vs.length->∀Q:ad5->Zq->Prop,Q κ { s with heap:=cZ s.heap a vs }->wpAny (model prog w) A (keyKind' vs.toArray) Q E { s with heap:=cZ s.heap a vs })
   (v5:vs.length<2->out=vs) (f_:2<=vs.length->out=p0.toList.map λi=>vs.getD i .none) (hz:out.length<64)
   (hw:2<=vs.length->(abG vs.length).kasWp (ab2 prog w A κ vs) (λp s'=>s'={ s with heap:=cZ s.heap a vs }/\p=p0) { s with heap:=cZ s.heap a vs })
   (h:P (.done (.ret .none)) { s with heap:=adQ s.heap a vs out.toArray }):
   wpAny (model prog w) A (aaY.«list.sort» ⟨[.ref a],[]⟩) P E s:=by
 rw[list_sort_plain]
 have l:a<s.heap.objs.size:=ZH ho
 refine Zn (listItems_at ho rfl ?_)
 refine Zn (listUpdate_at ho rfl ?_ (by rw[Zz,aaP];omega) (aab _))
 obtain⟨c,o⟩:∃c,(s.heap.update a (aa7 λ_=>(#[]:Array Value))).get? a=some (aaL "list" #[] c):=⟨_,aeh ho (λ_=>#[])⟩
 refine Zn (seqEpoch_at o rfl ?_)
 refine Zn (wpAny_newTuple ?_ (by show vs.length<=_;rw[aaP];omega))
 refine Zn (aeU ?_ (aab _))
 refine Z5 ?_
 have k:(cZ s.heap a vs).get? a=some (aaL "list" #[] c):=by
   unfold cZ
   rw[abb _ _ _ (by rw[size_push',ab7];exact ZX (aaI l)),abb _ _ _ (by rw[ab7];exact ZX l)]
   exact o
 show wpAny (model prog w) A _ P E { s with heap:=cZ s.heap a vs }
 dsimp only
 have q:vs.toArray.size=vs.length:=by simp
 have v:(vs.toArray.zip vs.toArray).map (·.2)=vs.toArray:=by
   apply Array.toList_inj.mp
   simp[List.map_snd_zip]
 have fin:∀b:SortSt,(arrOf b).map (·.2)=out.toArray->failedOf b=none->wpAny (model prog w) A (do
     let touched:=(<- seqEpoch a) != c
     Builtin.List.listUpdate (.ref a) λ_=>(arrOf b).map (·.2)
     if let some e:=failedOf b then rule "list.sort.comparison-raised";throw e
     if touched then rule "list.sort.modified";raiseError "ValueError" "list modified during sort"
     ret .none) P E { s with heap:=cZ s.heap a vs }:=by
   intro b e f
   refine Zn (seqEpoch_at k rfl ?_)
   rw[e,f]
   refine Zn (listUpdate_at k rfl ?_ (aab _) (by rw[Zz,aaP];omega))
   simp only[bne_self_eq_false,Z1,if_false]
   exact Zu h
 by_cases h2:vs.toArray.size<2
 . rw[if_pos h2,if_pos h2]
   refine Zn (Zu ?_)
   rw[StateT.run_pure]
   refine Zn (Zu ?_)
   exact fin (SortSt.mk' general' (vs.toArray.zip vs.toArray) #[] 7 none) (by rw[v5 (by rw[q]at h2;exact h2)];exact v) rfl
 . rw[if_neg h2,if_neg h2]
   have j:2<=vs.length:=by rw[q]at h2;omega
   refine Zn (hk j _ ?_)
   refine Zn (acY (kat_run (Q:=λb s'=>s'={ s with heap:=cZ s.heap a vs }/\(arrOf b).map (·.2)=out.toArray/\failedOf b=none)
     (G:=λp s'=>s'={ s with heap:=cZ s.heap a vs }/\p=p0)
     rfl j BZ (λp b s' a1 a2 u m=>⟨m.1,?_,u⟩) (hw j)) ?_ λ_ _ x=>x)
   . rw[kat_snds rfl a2,m.2,f_ j]
   . rintro⟨⟨⟩,b⟩ s' ⟨rfl,r,hf⟩
     exact fin b r hf
theorem B0 {l:Addr}{p0:Array Nat}{vs out:List Value}{κ:ad5}{Q:Value->Zq->Prop}(hl:s.heap.IsList l vs.toArray)(BZ:vs.length<64)
  (hk:2<=vs.length->∀(h':Heap),(∀b o,s.heap.get? b=some o->h'.get? b=some o)->∀(E:Value->Zq->Prop) (R:ad5->Zq->Prop),R κ { s with heap:=h' }->wpAny (model prog w) A.in1.in1 (keyKind' vs.toArray) R E { s with heap:=h' })
  (v5:vs.length<2->out=vs) (f_:2<=vs.length->out=p0.toList.map λi=>vs.getD i .none) (hz:out.length<64)
  (hw:∀(h':Heap),(∀b o,s.heap.get? b=some o->h'.get? b=some o)->2<=vs.length->(abG vs.length).kasWp (ab2 prog w A.in1.in1 κ vs) (λp s'=>s'={ s with heap:=h' }/\p=p0) { s with heap:=h' })
  (h:Q (.ref (s.heap.objs.size+1)) { s with heap:=sortedAll s.heap vs out.toArray }):
  wpAny (model prog w) A (call (.builtin "sorted") [.ref l]) Q E s:=by
 refine adR kind_sorted plain_sorted entry_sorted (args_sorted1 _) ?_
 unfold aaY.«sorted»
 refine Zn (m:=checkCount "sorted" 1 1 _) (Zu ?_)
 refine Zn (collect_list hl ?_ (by rw[aaP];omega))
 refine Zn (aeU ?_ (by rw[aaP];omega))
 have a:((s.heap.push (aaL "list" #[] 0)).update s.heap.objs.size (aa7 (· ++ vs.toArray))).objs.size=s.heap.objs.size+1:=by
  rw[ab7,size_push']
 have f:(((s.heap.push (aaL "list" #[] 0)).update s.heap.objs.size (aa7 (· ++ vs.toArray))).push (aaL "list" vs.toArray 0)).get? (s.heap.objs.size+1)=some (aaL "list" vs.toArray 0):=by
  rw[<- a];exact ZF _ rfl
 have keep:∀b o,s.heap.get? b=some o->(((s.heap.push (aaL "list" #[] 0)).update s.heap.objs.size (aa7 (· ++ vs.toArray))).push (aaL "list" vs.toArray 0)).get? b=some o:=λb o q=>by
  have c:b<s.heap.objs.size:=ZH q
  rw[abb _ _ _ (by rw[a];exact ZX (aaI c)),ae1 _ _ _ _ (ZX c),abb _ _ _ (ZX c)]
  exact q
 have e:∀b o,s.heap.get? b=some o->(cZ (((s.heap.push (aaL "list" #[] 0)).update s.heap.objs.size (aa7 (· ++ vs.toArray))).push (aaL "list" vs.toArray 0)) (s.heap.objs.size+1) vs).get? b=some o:=λb o q =>
  oW (ZX (aaI (ZH q))) (keep b o q)
 show wpAny _ _ _ _ _ { s with heap:=((s.heap.push (aaL "list" #[] 0)).update s.heap.objs.size (aa7 (· ++ vs.toArray))).push (aaL "list" vs.toArray 0) }
 rw[a]
 refine Zn (Z5 (aai slot_list_sort ⟨_,f,rfl⟩ entry_list_sort (nj f BZ (λz R r=>hk z _ e _ R r) v5 f_ hz (λz=>hw _ e z) ⟨_,rfl,?_⟩) (args_list_sort _)))
 exact Zu ⟨_,rfl,h⟩
end
noncomputable def v_ {α:Type}(lt:Nat->Nat->Bool):KasT α->α
 |.ret a=>a
 |.ask i j k=>v_ lt (k (lt i j))
noncomputable def gi {α:Type}(N:Nat)(p:α->Prop):KasT α->Prop
 |.ret a=>p a
 |.ask i j k=>i<N/\j<N /\ ∀b,gi N p (k b)
theorem wa {α:Type}{lt:Nat->Nat->Bool}{N:Nat}{p:α->Prop}{cmp:Nat->Nat->(Bool->Zq->Prop)->Zq->Prop}{s:Zq}(h:∀i j,i<N->j<N->∀C:Bool->Zq->Prop,C (lt i j) s->cmp i j C s){G:α->Zq->Prop}:
  ∀t:KasT α,gi N p t->G (v_ lt t) s->t.kasWp cmp G s
 |.ret a,_,g=>g
 |.ask i j k,a,g=>h i j a.1 a.2.1 _ (wa h (k (lt i j)) (a.2.2 _) g)
theorem gi.run {α:Type}{N:Nat}{p:α->Prop}{lt:Nat->Nat->Bool}:∀{t:KasT α},gi N p t->p (v_ lt t)
 |.ret _,h=>h
 |.ask i j k,h=>(h.2.2 (lt i j)).run
theorem gi.bind {α β:Type}{N:Nat}{f:α->KasT β}{p:α->Prop}{q:β->Prop}:∀{t:KasT α},gi N p t->(∀a,p a->gi N q (f a))->gi N q (t.bind f)
 |.ret a,h,k=>k a h
 |.ask i j t,a,k=>⟨a.1,a.2.1,λb=>(a.2.2 b).bind k⟩
def fR (N:Nat)(p:Array Nat):Prop:=p.toList.Perm (Zp N)
theorem fR.lt {N:Nat}{p:Array Nat}(h:fR N p)(hN:0<N)(i:Nat):p.getD i 0<N:=by
 rw[Array.getD_eq_getD_getElem?]
 cases e:p[i]? with
 |none=>exact hN
 |some x =>
  have:x∈p.toList:=aeL.mpr (acT e)
  exact Z_.mp (h.mem_iff.mp this)
theorem fR.rev {N:Nat}{p:Array Nat}(h:fR N p)(i j:Nat):fR N (kas_rev p i j):=((mirror_perm p i j _).toList).trans h
theorem fR.XD {N:Nat}{p:Array Nat}(h:fR N p)(i j:Nat):fR N (bubble p i j):=((bubble_perm p i j).toList).trans h
section
variable {N:Nat}(hN:0<N)
include hN
theorem wc {p:Array Nat}(hp:fR N p):∀f n,gi N (λ_=>True) (kas_asc p f n)
 | 0,_=>abN
 |f+1,n=>⟨hp.lt hN _,hp.lt hN _,λb=>by
  cases b
  . exact wc hp f (n+1)
  . exact abN⟩
theorem n9:∀f {p:Array Nat} n q,fR N p->gi N (λr=>fR N r.1) (kas_desc f p n q)
 | 0,p,n,q,hp=>hp
 |f+1,p,n,q,hp=>by
  refine⟨hp.lt hN _,hp.lt hN _,λb=>?_⟩
  cases b
  . refine⟨hp.lt hN _,hp.lt hN _,λb=>?_⟩
    cases b
    . exact n9 f _ _ hp
    . exact hp
  . simp only[if_true]
    split
    . exact n9 f _ _ (hp.rev _ _)
    . exact n9 f _ _ hp
theorem we {p:Array Nat}{n m:Nat}(hp:fR N p):gi N (λr=>fR N r.2) (kas_tail3 n m p):=gi.bind (wc hN (hp.rev _ _) _ _) λ_ _=>hp.rev _ _
theorem o_ {p:Array Nat}{n m:Nat}(hp:fR N p):gi N (λr=>fR N r.2) (kas_descPart n m p):=gi.bind (n9 hN _ _ _ hp) λr a=>by
 split
 . exact we hN (fR.rev a _ _)
 . exact we hN a
theorem Ex {p:Array Nat}{n:Nat}(hp:fR N p):gi N (λr=>fR N r.2) (kas_count n p):=gi.bind (wc hN hp _ _) λm _=>by
 split
 . exact hp
 split
 . refine⟨hp.lt hN _,hp.lt hN _,λb=>?_⟩
   cases b
   . exact o_ hN (hp.rev _ _)
   . exact hp
 . exact o_ hN hp
theorem pS {p:Array Nat}{k:Nat}(hp:fR N p):∀f l r,gi N (λ_=>True) (kas_place p k f l r)
 | 0,_,_=>abN
 |f+1,l,r=>by
  unfold kas_place
  split
  . exact abN
  . refine⟨hp.lt hN _,hp.lt hN _,λb=>?_⟩
    cases b
    . exact pS hp f _ _
    . exact pS hp f _ _
theorem B2:∀f {p:Array Nat} k,fR N p->gi N (fR N) (kas_bin f p k)
 | 0,p,_,hp=>hp
 |f+1,p,k,hp=>gi.bind (pS hN hp _ _ _) λl _=>B2 f _ (hp.XD _ _)
theorem lg:gi N (fR N) (abG N):=gi.bind (Ex hN (show(List.toArray (Zp N)).toList.Perm _ by simp)) λr a=>by
 split
 . exact B2 hN _ _ a
 . exact a
end
end TL
namespace L3
open PySem PySem.Spec PyProof.Rows L2 SeqAt
mutual
noncomputable def ltN:D->D->Option Bool
 |.int a,.int b=>some (decide (a<b))
 |.str a,.str b=>some (decide (a.cps.toList<b.cps.toList))
 |.tup xs,.tup ys=>d5 (decide (xs.length<ys.length)) xs ys
 |_,_=>none
noncomputable def d5 (fin:Bool):List D->List D->Option Bool
 |x::xs,y::ys=>if aB x y=true then d5 fin xs ys else ltN x y
 |_,_=>some fin
end
section
variable {X:Cx}{pins:List (Addr×Obj)}{σ:L2.St}{H:Hp}{s:Zq}{ι:Ix}
mutual
theorem GP (I:Inv X pins σ H s):∀(d e:D) {A:Z0} {v w:V} {u z:Value} {k:Bool},flat d=true->flat e=true->Rel X.kw H ι d v->Rel X.kw H ι e w->RelV v u->RelV w z->A.units+dep d<cLine->ltN d e=some k->TL.lM A s u z k
 |.int a,e,A,v,w,u,z,k,_,_,r1,r2,ru,rz,_,h=>by
  cases e with
  |int b =>
   simp only[ltN,aaA]at h;subst h
   simp only[Rel]at r1 r2;subst r1 r2
   obtain⟨t,rfl⟩:=ru;obtain⟨c,rfl⟩:=rz
   exact .ints a b t c
  |_=>simp[ltN]at h
 |.str a,e,A,v,w,u,z,k,_,_,r1,r2,ru,rz,_,h=>by
  cases e with
  |str b =>
   simp only[ltN,aaA]at h;subst h
   simp only[Rel]at r1 r2;subst r1 r2
   obtain⟨t,rfl⟩:=ru;obtain⟨c,rfl⟩:=rz
   exact .strs a b t c
  |_=>simp[ltN]at h
 |.tup xs,e,A,v,w,u,z,k,f1,f2,r1,r2,ru,rz,hu,h=>by
  cases e with
  |tup ys =>
   simp only[ltN]at h
   simp only[Rel]at r1 r2
   obtain⟨p,vs,rfl,o,i⟩:=r1
   obtain⟨p',ws,rfl,r,j⟩:=r2
   cases ru;cases rz
   obtain⟨y,f,n,_⟩:=I.tuple o.sq
   obtain⟨x,l,q,_⟩:=I.tuple r.sq
   simp only[dep]at hu
   have m:y.toArray.size=xs.length:=by rw[Zz,<- f.length,i.length]
   have l2:x.toArray.size=ys.length:=by rw[Zz,<- l.length,j.length]
   refine TL.lM.tuples n q (by omega) ?_
   rw[m,l2]
   exact B3 I xs ys f1 f2 i j f l (by rw[in1_units];omega) h
  |_=>simp[ltN]at h
 |.aq,e,A,v,w,u,z,k,_,_,_,_,_,_,_,h=>by simp[ltN]at h
 |.bl _,e,A,v,w,u,z,k,_,_,_,_,_,_,_,h=>by simp[ltN]at h
 |.lst _,e,A,v,w,u,z,k,_,_,_,_,_,_,_,h=>by simp[ltN]at h
 |.de,e,A,v,w,u,z,k,_,_,_,_,_,_,_,h=>by simp[ltN]at h
 |.ref _,e,A,v,w,u,z,k,_,_,_,_,_,_,_,h=>by simp[ltN]at h
 |.ax _,e,A,v,w,u,z,k,_,_,_,_,_,_,_,h=>by simp[ltN]at h
 |.fn _,e,A,v,w,u,z,k,_,_,_,_,_,_,_,h=>by simp[ltN]at h
theorem B3 (I:Inv X pins σ H s):∀(xs ys:List D) {A:Z0} {fin k:Bool} {vs ws:List V} {us zs:List Value},aN xs=true->aN ys=true->aj X.kw H ι xs vs->aj X.kw H ι ys ws->Vals vs us->Vals ws zs->A.units+bS xs<cLine ->
  d5 fin xs ys=some k->TL.Lex A s fin (us.zip zs) k
 | [],ys,A,fin,k,vs,ws,us,zs,_,_,r1,_,ru,_,_,h=>by
  simp only[aj]at r1;subst r1;cases ru
  simp only[d5,aaA]at h;subst h
  simp only[afz];exact .nil
 |d::ds,[],A,fin,k,vs,ws,us,zs,_,_,_,r2,_,rz,_,h=>by
  simp only[aj]at r2;subst r2;cases rz
  simp only[d5,aaA]at h;subst h
  simp only[aff];exact .nil
 |d::ds,e::es,A,fin,k,vs,ws,us,zs,f1,f2,r1,r2,ru,rz,hu,h=>by
  simp only[aj]at r1 r2
  obtain⟨v,f,rfl,a,c⟩:=r1
  obtain⟨w,wr,rfl,hw,b⟩:=r2
  simp only[aN,Zv]at f1 f2
  simp only[bS]at hu
  cases ru with
  |cons eQ vq =>
   cases rz with
   |cons oU Bp =>
    have heq:=DK.qA I (A:=A) f1.1 f2.1 a hw eQ oU (by omega)
    simp only[d5]at h
    simp only[afg]
    split at h
    . rename_i z
      rw[z]at heq
      exact .eq heq (B3 I ds es f1.2 f2.2 c b vq Bp (by omega) h)
    . rename_i z
      rw[afA.mpr z]at heq
      exact .ne heq (GP I d e f1.1 f2.1 a hw eQ oU (by omega) h)
end
noncomputable def ML:List D->List D->Bool
 |.int _::_,.int _::_=>true
 |.str _::_,.str _::_=>true
 | [],_=>true
 |_,[]=>true
 |_,_=>false
theorem pT (I:Inv X pins σ H s){prog:ZW}{w:World}{b fin:Bool}{Q:Bool->Zq->Prop}:∀(xs ys:List D) {A:Z0} {k:Bool} {i:Nat} {vs ws:List V} {us zs:List Value},aN xs=true->aN ys=true->aj X.kw H ι xs vs->aj X.kw H ι ys ws->Vals vs us->Vals ws zs->A.units+bS xs<cLine ->
  (b=true->i=0->ML xs ys=true)->d5 fin xs ys=some k->Q k s->PySem.W.KatLex prog w A b fin Q (us.zip zs) i s
 | [],ys,A,k,i,vs,ws,us,zs,_,_,r1,_,ru,_,_,_,h,q=>by
  simp only[aj]at r1;subst r1;cases ru
  simp only[d5,aaA]at h;subst h
  simp only[afz];exact agf q
 |d::ds,[],A,k,i,vs,ws,us,zs,_,_,_,r2,_,rz,_,_,h,q=>by
  simp only[aj]at r2;subst r2;cases rz
  simp only[d5,aaA]at h;subst h
  simp only[aff];exact agf q
 |d::ds,e::es,A,k,i,vs,ws,us,zs,f1,f2,r1,r2,ru,rz,hu,hb,h,q=>by
  simp only[aj]at r1 r2
  obtain⟨v,o,rfl,f,m⟩:=r1
  obtain⟨n,wr,rfl,hw,j⟩:=r2
  simp only[aN,Zv]at f1 f2
  simp only[bS]at hu
  cases ru with
  |cons eQ vq =>
   cases rz with
   |cons oU Bp =>
    have heq:=DK.qA I (A:=A) f1.1 f2.1 f hw eQ oU (by omega)
    simp only[d5]at h
    simp only[afg]
    split at h
    . rename_i z
      rw[z]at heq
      exact afX (heq _ _ _ _ (PySem.W.kat_yes (pT I ds es f1.2 f2.2 m j vq Bp (by omega) (λ_ z=>by omega) h q)))
    . rename_i z
      rw[afA.mpr z]at heq
      refine afX (heq _ _ _ _ (PySem.W.kat_no ?_))
      have lt:=GP I d e (A:=A) f1.1 f2.1 f hw eQ oU (by omega) h
      cases MM:(b&&i == 0)with
      |false =>
       refine PySem.W.kat_one _ _ ?_
       refine lt _ _ _ _ ?_
       exact q
      |true =>
       simp only[Zv,beq_iff_eq]at MM
       have:=hb MM.1 MM.2
       cases d with
       |int a=>cases e with
        |int c =>
         simp only[Rel]at f hw;subst f hw
         obtain⟨t,rfl⟩:=eQ;obtain⟨l,rfl⟩:=oU
         simp only[ltN,aaA]at h;subst h
         exact PySem.W.kat_lt_int q
        |_=>cases this
       |str a=>cases e with
        |str c =>
         simp only[Rel]at f hw;subst f hw
         obtain⟨t,rfl⟩:=eQ;obtain⟨l,rfl⟩:=oU
         simp only[ltN,aaA]at h;subst h
         exact PyProof.Rows.oneLt_str q
        |_=>cases this
       |_=>cases this
end
noncomputable def i4:D->Option Nat
 |.tup (.int _::_)=>some 1
 |.tup (.tup _::_)=>some 0
 |.tup (.str _::_)=>some 2
 |_=>none
noncomputable def GQ:Nat->String
 | 0=>"tuple"
 | 1=>"int"
 |_=>"str"
noncomputable def tyB (k:Nat):Bool:=k != 0
noncomputable def ltB (x y:D):Bool:=(ltN x y).getD false
noncomputable def qN (xs:List D):Bool:=decide (xs.length<64)&&aN xs&&decide (bS xs<=50)&&(decide (xs.length<2)||((xs.all λx=>i4 x == some 1)||((xs.all λx=>i4 x == some 0)||xs.all λx=>i4 x == some 2)))&&xs.all λx=>xs.all λy=>(ltN x y).isSome
noncomputable def fM (xs:List D):List Nat:=(TL.v_ (λi j=>ltB (xs.getD i .aq) (xs.getD j .aq)) (abG xs.length)).toList
noncomputable def fN (xs:List D):List D:=if xs.length<2 then xs else(fM xs).map λi=>xs.getD i .aq
noncomputable def qO (ds:List D)(g:G):Option (D×G):=match ds with| [d]=>(jh d g).bind λxs=>if qN xs=true then some (.lst (fN xs),g)else none|_=>none
theorem fO {xs:List D}(h:2<=xs.length):(fM xs).Perm (Zp xs.length):=(TL.lg (N:=xs.length) (by omega)).run
theorem Aa {α:Type}(xs:List α)(d:α):(Zp xs.length).map (λi=>xs.getD i d)=xs:=by
 apply List.ext_getElem
 . simp
 . intro i b a
   simp[a]
theorem aj.Ab {K H ι}{xs:List D}{vs:List V}(r:aj K H ι xs vs):∀{is:List Nat},(∀i∈is,i<xs.length)->aj K H ι (is.map λi=>xs.getD i .aq) (is.map λi=>vs.getD i .aq)
 | [],_=>by simp[aj]
 |i::is,h=>by
  simp only[Z9,aj]
  obtain⟨v,c,e⟩:=r.get (Zs (h i ZR))
  refine⟨_,_,rfl,?_,aj.Ab r λj b=>h j (ZV _ b)⟩
  have a:xs.getD i .aq=xs[i]'(h i ZR):=by simp[h i ZR]
  have f:vs.getD i .aq=v:=by simp[c]
  rw[a,f];exact e
theorem Vals.pick {vs:List V}{us:List Value}(r:Vals vs us):∀{is:List Nat},(∀i∈is,i<vs.length)->Vals (is.map λi=>vs.getD i .aq) (is.map λi=>us.getD i .none)
 | [],_=>.nil
 |i::is,h=>by
  obtain⟨u,c,e⟩:=r.get (Zs (h i ZR))
  refine .cons ?_ (Vals.pick r λj b=>h j (ZV _ b))
  have a:vs.getD i .aq=vs[i]'(h i ZR):=by simp[h i ZR]
  have f:us.getD i .none=u:=by simp[c]
  show RelV (vs.getD i .aq) (us.getD i .none)
  rw[a,f];exact e
theorem B4 (b:Nat):(aaD (GQ b) != aaD "tuple")=tyB b:=by
 match b with
 | 0=>rfl
 | 1=>rfl
 |_+2=>rfl
theorem B5 {d e:D}{b:Nat}(h1:i4 d=some b)(h2:i4 e=some b):∃xs ys,d = .tup xs/\e = .tup ys/\(tyB b=true->ML xs ys=true):=by
 unfold i4 at h1 h2
 split at h1<;>cases h1<;>split at h2<;>cases h2
 . exact⟨_,_,rfl,rfl,λ_=>rfl⟩
 . exact⟨_,_,rfl,rfl,λz=>by cases z⟩
 . exact⟨_,_,rfl,rfl,λ_=>rfl⟩
section
variable {X:Cx}
theorem pU {pins:List (Addr×Obj)}{σ:L2.St}{H:Hp}{s:Zq}{ι:Ix}(I:Inv X pins σ H s){b:Nat}:∀(xs:List D) {vs:List V} {us:List Value},aj X.kw H ι xs vs->Vals vs us->(∀d∈xs,i4 d=some b) ->
  ∃fs,PySem.W.KatTups s.heap us fs/\fs.length=us.length /\ ∀f∈fs,ag1 (model X.prog X.w) s.heap (typeOf f) (.type (GQ b))
 | [],vs,us,r,ru,_=>by
  simp only[aj]at r;subst r;cases ru
  exact⟨[],ajm,rfl,λ_ h=>by simp at h⟩
 |d::ds,vs,us,r,ru,ht=>by
  simp only[aj]at r
  obtain⟨v,vr,rfl,c,hr⟩:=r
  cases ru with
  |cons eQ vq =>
   obtain⟨fs,z,x,y⟩:=pU I ds hr vq λe he=>ht e (ZV _ he)
   have hd:=ht d (ZR ..)
   unfold i4 at hd
   split at hd
   . rename_i n r'
     cases hd
     simp only[Rel]at c
     obtain⟨p,vs,rfl,k,a⟩:=c
     cases eQ
     obtain⟨av,j,⟨o,i,u,m,l⟩,_⟩:=I.tuple k.sq
     simp only[aj,Rel]at a
     obtain⟨v1,LP,rfl,rfl,_⟩:=a
     cases j with
     |cons ri rr =>
      obtain⟨t,rfl⟩:=ri
      refine⟨.int n t::fs,ada i u l rfl z,by simp[x],λf hf=>?_⟩
      rcases ZI.mp hf with rfl|hf
      . exact aeD rfl
      . exact y f hf
   . rename_i ys r'
     cases hd
     simp only[Rel]at c
     obtain⟨p,vs,rfl,k,a⟩:=c
     cases eQ
     obtain⟨av,j,⟨o,i,u,m,l⟩,_⟩:=I.tuple k.sq
     simp only[aj,Rel]at a
     obtain⟨v1,LP,rfl,⟨q,ws,rfl,vA,_⟩,_⟩:=a
     obtain⟨_,_,⟨o2,f_,kK,_⟩,_⟩:=I.tuple vA.sq
     cases j with
     |cons ri rr =>
      cases ri
      refine⟨.ref q::fs,ada i u l rfl z,by simp[x],λf hf=>?_⟩
      rcases ZI.mp hf with rfl|hf
      . show ag1 _ _ (typeOf (.ref q)) (aaD "tuple")
        rw[<- kK]
        exact(PySem.W.Looks.ld f_).andThen .now
      . exact y f hf
   . rename_i n r'
     cases hd
     simp only[Rel]at c
     obtain⟨p,vs,rfl,k,a⟩:=c
     cases eQ
     obtain⟨av,j,⟨o,i,u,m,l⟩,_⟩:=I.tuple k.sq
     simp only[aj,Rel]at a
     obtain⟨v1,LP,rfl,rfl,_⟩:=a
     cases j with
     |cons ri rr =>
      obtain⟨t,rfl⟩:=ri
      refine⟨.str n t::fs,ada i u l rfl z,by simp[x],λf hf=>?_⟩
      rcases ZI.mp hf with rfl|hf
      . exact aeD rfl
      . exact y f hf
   . cases hd
theorem Ey (hu:X.A.units+64<cLine):b_ X (.builtin "sorted") (gC X.kw qO):=by
 intro pins s σ H xs us Q I r q
 obtain⟨ι,g,ds,d,g',G0,r1,q,p⟩:=q
 cases ds with
 |nil=>cases q
 |cons e qu =>
 cases qu with
 |cons _ _=>cases q
 |nil =>
  simp only[qO]at q
  obtain⟨f,hx,q⟩:=bind_some q
  split at q
  . rename_i z
    simp only[qN,Zv,aaa,decide_eq_true_eq]at z
    obtain⟨⟨⟨⟨z1,z2⟩,z3⟩,z4⟩,z5⟩:=z
    cases q
    simp only[aj]at r1
    obtain⟨v,_,rfl,rv,rfl⟩:=r1
    obtain⟨a,vs,rfl,hq,m⟩:=jM G0 rv hx
    cases r with
    |cons ru rr =>
     cases rr
     cases ru
     obtain⟨l,u,ht,f7⟩:=I.list hq
     have hlen:l.length=f.length:=by rw[<- u.length,m.length]
     have MN:vs.length=f.length:=m.length.symm
     obtain⟨b,hb⟩:∃b:Nat,2<=f.length->∀d∈f,i4 d=some b:=by
       rcases z4 with z4|z4|z4|z4
       . exact⟨1,λh=>by omega⟩
       . exact⟨1,λ_ d hd=>eq_of_beq (ZY.mp z4 d hd)⟩
       . exact⟨0,λ_ d hd=>eq_of_beq (ZY.mp z4 d hd)⟩
       . exact⟨2,λ_ d hd=>eq_of_beq (ZY.mp z4 d hd)⟩
     have pm:2<=f.length->∀i∈fM f,i<f.length:=λh i hi=>Z_.mp ((fO h).mem_iff.mp hi)
     have fin:∀(out:List Value) (ov:List V),Vals ov out->aj X.kw H ι (fN f) ov->out.length<64->EP X pins σ Q (.ref (s.heap.objs.size+1)) { s with heap:=sortedAll s.heap l out.toArray }:=λout ov h1 x hz=>by
       obtain⟨c,hc⟩:=sortedAll_at s.heap l out.toArray
       have jI:=I.bo.fresh (aeo s.heap.objs.size)
       refine⟨.ref (s.heap.objs.size+1),_,I.laid (t':=s.toks) (λb o e=>sortedAll_old e) (aeo _) (show cY X.prog X.w _ _ _ (.lst ov) from⟨by rw[h1.length,aaP];omega,out,c,h1,by simpa[aaL]using hc⟩),rfl,?_⟩
       refine p _ _ _ (Ext.lay jI) (G0.lay jI) ?_
       simp only[Rel]
       exact⟨_,_,rfl,.inl ⟨.inl bG,G0.fresh jI,G0.kL jI⟩,aj.ext (Ext.lay jI) _ x⟩
     have run:∀(n:Heap),(∀b o,s.heap.get? b=some o->n.get? b=some o)->2<=l.length->(abG l.length).kasWp (ab2 X.prog X.w X.A.in1.in1 (tuples' (tyB b)) l) (λp s'=>s'={ s with heap:=n }/\p=(fM f).toArray) { s with heap:=n }:=λn hk x=>by
       have y:Inv X pins σ H { s with heap:=n }:=I.kept (t':=s.toks) hk
       refine TL.wa (lt:=λi j=>ltB (f.getD i .aq) (f.getD j .aq)) (N:=l.length) (λi j hi hj C hC=>?_) _ (TL.lg (by omega)) ⟨rfl,?_⟩
       . have qP:i<f.length:=by omega
         have qQ:j<f.length:=by omega
         obtain⟨vi,MO,ri⟩:=m.get (Zs qP)
         obtain⟨vj,MP,rj⟩:=m.get (Zs qQ)
         obtain⟨ui,MQ,MS⟩:=u.get MO
         obtain⟨uj,MT,MU⟩:=u.get MP
         unfold ab2
         have e1:l.getD i .none=ui:=by simp[MQ]
         have e2:l.getD j .none=uj:=by simp[MT]
         have e3:f.getD i .aq=f[i]:=by simp[qP]
         have e4:f.getD j .aq=f[j]:=by simp[qQ]
         rw[e1,e2]
         rw[e3,e4]at hC
         have mi:=Z2 qP
         have mj:=Z2 qQ
         have ti:=hb (by omega) _ mi
         have tj:=hb (by omega) _ mj
         obtain⟨fi,di⟩:=gF z2 (Zs qP)
         obtain⟨fj,dj⟩:=gF z2 (Zs qQ)
         obtain⟨k,wg⟩:=acq.mp (ZY.mp (ZY.mp z5 _ mi) _ mj)
         unfold ltB at hC
         rw[wg]at hC
         generalize f[i]=XF at *
         generalize f[j]=XG at *
         obtain⟨xi,xj,rfl,rfl,bi⟩:=B5 ti tj
         simp only[Rel]at ri rj
         obtain⟨pi,wi,rfl,qi,B7⟩:=ri
         obtain⟨pj,wj,rfl,qj,B8⟩:=rj
         cases MS;cases MU
         obtain⟨ji,B9,⟨oi,MV,_,XH,MW⟩,_⟩:=y.tuple qi.sq
         obtain⟨jj,B_,⟨oj,MX,_,XI,MY⟩,_⟩:=y.tuple qj.sq
         refine agA MV MW MX MY ?_
         have l1:ji.toArray.size=xi.length:=by rw[Zz,<- B9.length,B7.length]
         have l2:jj.toArray.size=xj.length:=by rw[Zz,<- B_.length,B8.length]
         simp only[ltN]at wg
         rw[l1,l2]
         simp only[dep]at di
         exact pT y xi xj fi fj B7 B8 B9 B_ (by rw[in1_units,in1_units];omega) (λiR _=>bi iR) wg hC
       . unfold fM
         rw[hlen]
     refine TL.B0 (κ:=tuples' (tyB b)) (p0:=(fM f).toArray) (out:=if l.length<2 then l else(fM f).map λi=>l.getD i .none) ht.isList (by omega) (λx n hk E R hR=>?_) (λh=>if_pos h) (λh=>by rw[if_neg (by omega)]) ?_ run ?_
     . have y:Inv X pins σ H { s with heap:=n }:=I.kept (t':=s.toks) hk
       obtain⟨fs,k1,k2,k3⟩:=pU y f m u (hb (by omega))
       refine afY (T:=.type (GQ b)) k1 (by omega) k3 (by simp) ?_
       rw[B4];exact hR
     . split
       . omega
       . rw[Z3,(fO (xs:=f) (by omega)).length_eq,abT];omega
     . by_cases x:l.length<2
       . rw[if_pos x]
         exact fin l vs u (by unfold fN;rw[if_pos (by omega)];exact m) (by omega)
       . rw[if_neg x]
         refine fin _ _ (Vals.pick u λi hi=>by rw[MN];exact pm (by omega) i hi) ?_ (by rw[Z3,(fO (xs:=f) (by omega)).length_eq,abT];omega)
         unfold fN
         rw[if_neg (by omega)]
         exact aj.Ab m (pm (by omega))
  . cases q
end
end L3
namespace RI
open PySem PySem.Spec PyProof.Rows L2 L3
noncomputable def UC:jn:=⟨"len",bN,λ_ _=>.inl ⟨_,LV,PySem.boot_len⟩⟩
noncomputable def UD:jn:=⟨"int",pJ,λ_ _=>.inr ⟨_,LY,agh⟩⟩
noncomputable def MZ:jn:=⟨"tuple",dG,λ_ _=>.inr ⟨_,LZ,afG⟩⟩
noncomputable def fP (f2 f1:Fn):Fn:=λds g=>match ds with| [_,_]=>f2 ds g|_=>f1 ds g
theorem tm {X:Cx}{v:Value}{f2 f1:Fn}(h2:b_ X v (gC X.kw f2))(h1:b_ X v (gC X.kw f1)):b_ X v (gC X.kw (fP f2 f1)):=by
 intro pins s σ H xs us Q I r q
 obtain⟨ι,g,ds,d,b,G0,a,q,p⟩:=q
 unfold fP at q
 split at q
 . exact h2 pins s σ H xs us Q I r ⟨ι,g,_,d,b,G0,a,q,p⟩
 . exact h1 pins s σ H xs us Q I r ⟨ι,g,_,d,b,G0,a,q,p⟩
noncomputable def PL:jn:=⟨"min",fP kC iK,λb a=>.inl ⟨_,tm (LX a) (IX b.hd),boot_min⟩⟩
noncomputable def PM:jn:=⟨"max",fP pI nY,λb a=>.inl ⟨_,tm (LW a) (I0 b.hd),boot_max⟩⟩
noncomputable def PN:qJ:=⟨"get",jm,jP,λa=>⟨_,_,My a.units⟩⟩
noncomputable def isRef:D->Bool
 |.ref _=>true
 |_=>false
theorem Ez {X:Cx}{pins:List (Addr×Obj)}{σ:L2.St}{H:Hp}{s:Zq}{ι:Ix}{g:G}{d:D}{x:V}{v:Value}(I:Inv X pins σ H s)(G0:az X.kw H ι g)(r:Rel X.kw H ι d x)(rv:RelV x v)(h:isRef d=true):
  s.TypeIs v "list" /\ ∀a,v = .ref a->∃ob,s.heap.get? a=some ob/\ob.dict=none:=by
 cases d with
 |ref n =>
  simp only[Rel]at r
  obtain⟨a,rfl,b⟩:=r
  have c:n<g.length:=by rw[<- G0.len];exact(Zr.mp b.1).1
  obtain⟨e,f,_⟩:=G0.at (Zs c) b
  exact uT I rv (.inl ⟨rfl,e,.of f⟩)
 |_=>cases h
noncomputable def dJ (d:D)(ds:List D)(g:G):Option (D×G):=match d,ds with
 |.ref n,[x]=>(g[n]?).bind λxs=>if aD (xs.length+1)=true then some (.aq,g.set n (xs ++ [x]))else none
 |_,_=>none
theorem Ca {X:Cx}:MR X "list" "append" "list.append" isRef dJ where
 pa:=acC
 slot:=PySem.F.slot_list_append
 ty:=PySem.F.type_list_append
 is:=Ez
 run:=by
  intro pins s σ H x xs v us Q I j rs q
  obtain⟨ι,g,d,ds,o,m,G0,e,rl,k,q,p⟩:=q
  cases d with
  |ref n =>
   match ds,q,rl with
   | [y],q,rl =>
    simp only[dJ]at q
    obtain⟨l,h,q⟩:=bind_some q
    split at q
    . rename_i i
      cases q
      simp only[Rel]at e
      obtain⟨a,rfl,b⟩:=e
      simp only[aj]at rl
      obtain⟨w,_,rfl,c,rfl⟩:=rl
      obtain⟨ws,hw,f⟩:=G0.at h b
      refine sM pins s σ H _ _ v us Q I j rs ⟨a,ws,w,rfl,rfl,hw,?_,?_⟩
      . have:=aD.le i;rw[<- f.length];omega
      . exact p _ ι _ (Ext.put b hw) (G0.put b hw (aj.append f (by simp only[aj];exact⟨_,_,rfl,c,rfl⟩))) (by simp[Rel])
    . cases q
   | [],q,_=>cases q
   |_::_::_,q,_=>cases q
  |_=>cases k
noncomputable def EA:qJ:=⟨"append",isRef,dJ,λ_=>⟨_,_,Ca⟩⟩
noncomputable def gY:D->Bool
 |.lst _=>true
 |_=>false
noncomputable def wk (d:D)(ds:List D)(g:G):Option (D×G):=match d,ds with
 |.lst xs,[x]=>if(eO x&&xs.all eO)=true then(pN xs x).map λ(j:Nat)=>(.int (j:Int),g)else none
 |_,_=>none
noncomputable def Cb (E:Expr->FE)(as:List Expr):FI:=match as with
 | [a]=>dB (aE E [a])
 | [a,b]=>Ra (aE E [a,b])
 |_=>qE
noncomputable def Jm:zU where
 nm:="range"
 tup:=false
 f:=Cb
 ok:=λj l hm e h c _=>by
  rename_i X k E i as p pos
  unfold Cb
  split
  . rename_i a
    simp only[aay,afh,adG]at c
    exact Pc e hm (eS h _) (bV c)
  . rename_i a b
    simp only[aay,afh,adG,aaw]at c
    exact Pe e hm (eS h _) (by rw[bV c.1,bV c.2];rfl) (bV c.2)
  . exact rW
noncomputable def Cc (E:Expr->FE)(as:List Expr):FI:=match as with
 | [a]=>uh (E a)
 |_=>qE
noncomputable def M0:zU where
 nm:="enumerate"
 tup:=true
 f:=Cc
 ok:=λj l hm c e b h=>by
  rename_i X k E i as p pos
  unfold Cc
  split
  . rename_i a
    simp only[aay,afh,adG]at b
    have:=h rfl
    cases i with
    |Tuple elts kt tp=>exact IW c hm (e a) (bV b)
    |_=>cases this
  . exact rW
noncomputable def EB (x:Str):Option Ty:=if x == "int" then some .int else if x == "bool" then some .bool else if x == "str" then some .str else if x == "tuple" then some .tuple else if x == "list" then some .list else if x == "dict" then some .dict else none
theorem Jn {x:Str}{T:Ty}(h:EB x=some T):x=Zt T.name:=by
 unfold EB at h
 split at h;· rename_i e;cases h;exact eq_of_beq e
 split at h;· rename_i e;cases h;exact eq_of_beq e
 split at h;· rename_i e;cases h;exact eq_of_beq e
 split at h;· rename_i e;cases h;exact eq_of_beq e
 split at h;· rename_i e;cases h;exact eq_of_beq e
 split at h;· rename_i e;cases h;exact eq_of_beq e
 cases h
noncomputable def Cd:G0->Cs->(Expr->FE)->Expr->Option FT:=λ_ _ _ _=>none
noncomputable def UE:n6 where
 e:=λm c E _ x=>match x with
  |.Call (.Name f _) [a,.Name t _] [] _=>if f == "isinstance" && c.sc.names.lookup f == some .globalImplicit&&c.sc.names.lookup t == some .globalImplicit&&m.mz.elem f&&m.mz.elem t && !(isStar a)then(EB t).map λT=>D_ T (E a)else none
  |_=>none
 yj:=by
  intro m c X E g i v x f h
  split at h
  . rename_i u p a t s pos
    split at h
    . rename_i b
      simp only[Zv,beq_iff_eq,aau]at b
      obtain⟨⟨⟨⟨⟨r,k⟩,o⟩,j⟩,l⟩,n⟩:=b
      obtain⟨T,q,h⟩:=ZM.mp h
      subst h
      have e:=Jn q
      subst r
      subst e
      exact L6 T (g.bl _ (ace.mp j)) (g.bl _ (ace.mp l)) (i a) (g.gl k) (g.gl o) (bV n)
    . cases h
  . cases h
 t:=Cd
 tok:=by intro m c X E g i x f h;cases h
theorem wm {X:Cx}{pins:List (Addr×Obj)}{σ:L2.St}{H:Hp}{s:Zq}{ι:Ix}{g:G}{d:D}{x:V}{v:Value}(I:Inv X pins σ H s)(G0:az X.kw H ι g)(r:Rel X.kw H ι d x)(rv:RelV x v)(h:gY d=true):
  s.TypeIs v "list" /\ ∀a,v = .ref a->∃ob,s.heap.get? a=some ob/\ob.dict=none:=by
 cases d with
 |lst xs =>
  simp only[Rel]at r
  obtain⟨a,b,rfl,c,e⟩:=r
  exact uT I rv (.inl ⟨rfl,b,c.sq⟩)
 |_=>cases h
theorem EC {X:Cx}:MR X "list" "index" "list.index" gY wk where
 pa:=acC
 slot:=PySem.F.slot_list_index
 ty:=PySem.F.type_list_index
 is:=wm
 run:=by
  intro pins s σ H x xs v us Q I h rs q
  obtain⟨ι,g,d,ds,u,r,G0,e,rl,l,q,p⟩:=q
  cases d with
  |lst ys =>
   match ds,q,rl with
   | [y],q,rl =>
    simp only[wk]at q
    split at q
    . rename_i b
      simp only[Zv]at b
      obtain⟨j,m,q⟩:=ZM.mp q
      cases q
      simp only[Rel]at e
      obtain⟨a,o,rfl,i,k⟩:=e
      simp only[aj]at rl
      obtain⟨w,_,rfl,c,rfl⟩:=rl
      obtain⟨f,_⟩:=iw b.1 c
      obtain⟨n,_⟩:=lK b.2 k
      subst f n
      exact BH pins s σ H _ _ v us Q I h rs ⟨a,ys,y,j,rfl,i.sq,rfl,b.1,b.2,m,p H ι _ Ext.refl G0 (by simp[Rel])⟩
    . cases q
   | [],q,_=>cases q
   |_::_::_,q,_=>cases q
  |_=>cases l
noncomputable def Jp:qJ:=⟨"index",gY,wk,λ_=>⟨_,_,EC⟩⟩
noncomputable def Ce (d:dy):Bool :=
 decide ((bz d.st).kind = .function) && !(bz d.st).isCoroutine && !(bz d.st).isGenerator&&yo d.N&&decide (d.N.take d.ps.length=d.ps) &&
 d.ps.all (λx=>(bz d.st).names.lookup x == some .local||(bz d.st).names.lookup x == some .cell)&&(bz d.st).names.all (λy=>!(y.2 == .free))
noncomputable def yw (ds:List dy):Bool:=ds.all Ce
theorem Cf {ds:List dy}(h:yw ds=true):∀d∈ds,jv d.N d.ps (bz d.st):=λd hd=>by
 have:=ZY.mp h d hd
 simp only[Ce,Zv,decide_eq_true_eq,aau,ZY,aaa,beq_iff_eq]at this
 obtain⟨⟨⟨⟨⟨⟨b,c⟩,l⟩,a⟩,f⟩,i⟩,k⟩:=this
 exact⟨b,c,l,vW a,f,i,λy j e=>by have:=k y j;rw[e]at this;simp at this⟩
def At (K:ZD)(w:World)(mg:Str->Option Value)(M:Mo):Prop:=∃fs gW,aW K M.ds fs gW/\(∀y∈M.mz,abm K aal y=some none) /\
 (∀y e,(y,e)∈M.vR->∃v u,abm K aal y=some (some u)/\RelV v u /\ ∀K H ι,Rel K H ι e v) /\
 (∀y t,(y,t)∈M.vS->∃a,abm K aal y=some (some (.ref a))/\iI w ⟨K,w,mg⟩ a t)
theorem Jq {l:ab1}{q:ZW}{loose:List Str}{XP:(Str->Option Value)->Heap->Prop}{YP:World->Heap->Prop}{d:DefRec}{K:Params->ZD}{M:Mo}{T:Nat->Nat->Fn}{i R:Nat}{dt:dy}{x:Str}(hn:l.most=some 63)(hr:cV R adq)(uW:d.params.defaults = [])(Cg:d.name = "law")
  (hY:∀(w:World) (h:Heap),YP w h->(K w.params).In h)
  (F:∀(w:World) (mg:Str->Option Value) (h:Heap),(K w.params).In h->h.Ns aal mg->At (K w.params) w mg M)
  (hd:M.ds[i]? = some dt) (hx:dt.ps = [x]) (MJ:dt.gn = "law") (gd:Good M T)
  (spec:∀ns:List Int,ns.length<=63->∃g',T R i [.lst (ns.map .int)] []=some (.bl true,g')):
  aeR q loose XP YP l.row.toRowW d [] (λf vs=>aeI f vs):=
 L2.Ib (n:=63) (k:=R) (x:=x) (CX:=λ_=>i8) (sp:=λw=>z_ (K w.params)) hn (by decide) uW hr hY
  (λw mg o h b G c=>by
   obtain⟨fs,p,L,B,C,m⟩:=F w mg h b G
   rw[Cg]at c
   exact whole b G hd hx MJ c gd L B C m spec)
  (λ_ _ a ns e _ j=>⟨a,ns,rfl,j,e,λ_=>rfl⟩) λ_ _ _ _ _ z=>z
section
variable {α β:Type}{P:α->Prop}{Q:α->β->Prop}
theorem bn:∀y∈([]:List α),P y:=λy h=>by simp at h
theorem bc {x:α}{l:List α}(h:P x)(r:∀y∈l,P y):∀y∈x::l,P y:=λy z=>by
 rcases ZI.mp z with rfl|z
 . exact h
 . exact r y z
theorem RM:∀y e,(y,e)∈([]:List (α×β))->Q y e:=λy e h=>by simp at h
theorem cc {x:α}{d:β}{l:List (α×β)}(h:Q x d)(r:∀y e,(y,e)∈l->Q y e):∀y e,(y,e)∈(x,d)::l->Q y e:=λy e z=>by
 rcases ZI.mp z with z|z
 . cases z;exact h
 . exact r y e z
end
noncomputable def ED (m:G0)(c:Cs)(x:Str):Option (List (Str×D)):=if jx x then none else if c.sc.names.lookup x=some .globalImplicit then m.vS.lookup x else none
theorem Jr {m:G0}{c:Cs}{X:Cx}(g:Gd m c X){x:Str}{t:List (Str×D)}(h:ED m c x=some t):(x == ("__debug__":Str))=false/\Gl X x /\ ∃a,X.mg x=some (.ref a)/\iI X.w X.kw a t:=by
 unfold ED at h
 split at h
 . cases h
 . rename_i e
   split at h
   . rename_i b
     exact⟨(qI (by simpa using e)).1,g.gl b,g.dc x t (lookup_mem h)⟩
   . cases h
noncomputable def PQ:n6 where
 e:=λm c E _ x=>match x with
  |.Call (.Attribute (.Subscript (.Name C _) k _) nm ap) [y] [] pos=>if !(nm == "index")||uo k||isStar y || !(ap.endLine == pos.line)then none else(ED m c C).map λt=>ug t (E k) (E y)
  |_=>none
 yj:=by
  intro m c X E g b s x f h
  split at h
  . rename_i C p k q nm ap y pos
    split at h
    . cases h
    . rename_i i
      simp only[aaa,not_or,aau,afB,abF]at i
      obtain⟨⟨⟨s1,s2⟩,s3⟩,s4⟩:=i
      have s1:=eq_of_beq s1
      subst s1
      obtain⟨t,n,rfl⟩:=ZM.mp h
      obtain⟨r,l,a,o,j⟩:=Jr g n
      refine IU j o (b _) (b _) l (yi s2) r (baseOk rfl) ?_ s4 (bV s3)
      rw[vV (by rw[aay,s3];rfl)]
      rfl
  . cases h
 t:=Cd
 tok:=by intro m c X E g b x f h;cases h
end RI
namespace PySem
namespace F
theorem cU:entryFor table "dict.update.loop" = some aaY.«dict.update.loop»:=entryFor_of_tree (by kernel_rfl)
theorem bA:plainId "dict.update.loop" = true:=by decide +kernel
end F
theorem wo:typeLookup (.type "list") "keys" = pure none:=by rw[typeLookup_type,aeE];kernel_rfl
theorem wq {prog:ZW}{w:World}{A:Z0}{E:Value->Zq->Prop}{s:Zq}{a:Addr}{o:Obj}{xs:Array Value}{k:Nat}{Q:Option Value->Zq->Prop}
  (hx:s.heap.get? a=some o) (hc:o.cls = .type "list") (wu:o.data = .seq xs k) (hd:o.dict=none) (hA:A.handled=none)
  (h:∀h' tk,(∀b ob,s.heap.get? b=some ob->h'.get? b=some ob)->Q none { s with heap:=h',toks:=tk }):
  wpAny (model prog w) A (getAttr? (.ref a) "keys") Q E s:=by
 obtain⟨c,r,dat,m⟩:=o
 simp only at hc wu hd
 subst hc wu hd
 obtain⟨l,g,d,tk,os⟩:=s
 have i:∀f,(⟨l,g,d,f,os⟩:Zq).TypeIs (.ref a) "list":=λ_=>⟨_,hx,rfl⟩
 have f1:=sub_AttributeError
 have n:=F.slot_list_getattribute.lookup
 have f4:=F.slot_list_getattribute.bind (.ref a)
 have u:=am_list_getattr_none
 unfold getAttr? getAttrBy? getAttrBy
 repeat (any_goals (first|assumption|exact i _| ((with_reducible show wpAny _ _ (call (ag2 "list.__getattribute__") _ _) _ _ _);refine abj F.slot_list_getattribute (i _) am_entry_list_getattribute (F.args_list_getattribute_2 _ _) (meets_getattribute_miss_list a xs k m "keys" _ wo (by decide) (by size_fits)) ⟨hx,hA,λh' f e j=>?_⟩)|wp_step))
 obtain⟨p,q,he⟩:=j.there
 show wpAny _ _ (acv _ _ _ _ _ _ _) _ _ _
 unfold acv
 repeat (any_goals (first|assumption|wp_step))
 exact h _ _ j.keeps
end PySem
namespace L3
open PySem PySem.Spec PyProof.Rows L2 SeqAt DK
noncomputable def rY:D->Option (D×D)
 |.tup [k,v]=>some (k,v)
 |_=>none
noncomputable def eB:List D->Option (List (D×D))
 | []=>some []
 |d::ds=>(rY d).bind λp=>(eB ds).map λr=>p::r
noncomputable def qR:Fn:=λds g=>match ds with
 | [.lst ps]=>(eB ps).bind λb=>(putAll g.length b (g ++ [[]])).map λa=>(.ax g.length,a)
 |_=>none
section
variable {X:Cx}{pins:List (Addr×Obj)}{σ:L2.St}
theorem wy {A:Z0}{E:Value->Zq->Prop}{P:Zq->Prop}(hu:A.units+32<cLine)(hh:A.handled=none){a l it:Addr}{n:Nat}{ps:List D}{vs:List V}:∀(qs:List (D×D)) (i:Nat) {s:Zq} {H:Hp} {ι:Ix} {g g':G},Inv X pins σ H s->az X.kw H ι g->cR ι n a true->mQ X.kw H ι l vs->aj X.kw H ι ps vs->eB (ps.drop i)=some qs->putAll n qs g=some g' ->
  s.heap.IsListIter it l i->gq X pins H it ->
  (∀s' H',Inv X pins σ H' s'->Ext H ι H' ι->az X.kw H' ι g'->P s') ->
  acS (model X.prog X.w) A (.builtin "dict.update.loop" ⟨[.ref a,.ref it,.int i 0,.none],[]⟩) (wants (λr s₂=>r = .none/\P s₂) E) s
 | [],i,s,H,ι,g,g',I,G0,ha,hq,hr,h,f,hit,hf,p=>by
  cases f
  have hd:ps.drop i = []:=by
    cases e:ps.drop i with
    |nil=>rfl
    |cons x r=>rw[e]at h;simp only[eB]at h;obtain⟨_,_,h⟩:=bind_some h;obtain⟨_,_,h⟩:=ZM.mp h;cases h
  obtain⟨av,aV,pl,hz⟩:=I.list hq.sq
  have hlen:av.length<=i:=by rw[<- aV.length,<- hr.length];exact aeN.mp hd
  refine abO F.cU ?_
  rw[aa_ F.bA _]
  show wpAny _ A.in1 (ac2 (.ref it) >>= _) _ _ s
  refine Zn (aeu hh hit pl.isList (by simp;omega) λh' hx=>?_)
  show wpAny _ A.in1 (ad6 a [] >>= _) _ _ _
  exact Zn (Zu (Zu ⟨rfl,p _ H (I.turned (t':=s.toks) (λb o hb q=>hx b o hb q) hf.1 hf.2.1 hf.2.2.2.1 hf.2.2.2.2.1 hf.2.2.2.2.2) Ext.refl G0⟩))
 | (k,v)::qs,i,s,H,ι,g,g',I,G0,ha,hq,hr,h,f,hit,hf,p=>by
  obtain⟨x,r,hd,qS,M1⟩:∃x r,ps.drop i=x::r/\rY x=some (k,v)/\eB r=some qs:=by
    cases e:ps.drop i with
    |nil=>rw[e]at h;simp[eB]at h
    |cons x r =>
      rw[e]at h;simp only[eB]at h
      obtain⟨p0,h1,h⟩:=bind_some h
      obtain⟨r0,h2,h⟩:=ZM.mp h
      cases h
      exact⟨x,r,rfl,h1,h2⟩
  have hi:ps[i]? = some x:=by
    have:=congrArg (λl=>l[0]?) hd
    simpa using this
  have M3:ps.drop (i+1)=r:=by
    have:=congrArg List.tail hd
    simpa using this
  have hx:x = .tup [k,v]:=by
    unfold rY at qS
    split at qS
    . cases qS;rfl
    . cases qS
  subst hx
  obtain⟨av,aV,pl,hz⟩:=I.list hq.sq
  obtain⟨w,hw,ae⟩:=hr.get hi
  obtain⟨u,M4,ru⟩:=aV.get hw
  simp only[Rel]at ae
  obtain⟨b,us,rfl,M5,Ci⟩:=ae
  cases ru
  simp only[aj]at Ci
  obtain⟨kv,_,rfl,rk,vv,_,rfl,rv,rfl⟩:=Ci
  refine abO F.cU ?_
  rw[aa_ F.bA _]
  show wpAny _ A.in1 (ac2 (.ref it) >>= _) _ _ s
  refine Zn (aei hit pl.isList (by simpa using M4) λh' kD sb=>?_)
  have I1:Inv X pins σ H { s with heap:=h' }:=I.turned (t':=s.toks) (λb o hb e=>sb.extBut b o hb e) hf.1 hf.2.1 hf.2.2.2.1 hf.2.2.2.2.1 hf.2.2.2.2.2
  obtain⟨jF,Ac,⟨o,h1,h2,m,h3⟩,_⟩:=I1.tuple M5.sq
  obtain⟨ku,vu,rfl,BO,M6⟩:∃ku vu,jF = [ku,vu]/\RelV kv ku/\RelV vv vu:=by
    cases Ac with
    |cons a1 r1=>cases r1 with
      |cons a2 r2=>cases r2;exact⟨_,_,rfl,a1,a2⟩
  show wpAny _ A.in1 (abA [.ref b] _ >>= _) _ _ _
  refine Zn (Z5 ?_)
  refine Zn (wpAny_tryCatch ?_)
  unfold aer
  refine Zn (abU ⟨o,h1,h2⟩ ?_)
  rw[if_pos (by decide)]
  refine Zn (acz h1 h3 (Zu ?_))
  simp only[putAll]at f
  obtain⟨g1,y,f⟩:=bind_some f
  simp only[eN]at y
  obtain⟨xs,mR,y⟩:=bind_some y
  split at y
  . rename_i hk
    simp only[Zv]at hk
    cases y
    obtain⟨es,Rj,c,j,k5,iP,qB,Cj,nd,sy,sz,rl⟩:=G0.oQ mR ha
    have en:=Ent.of qB Cj rl
    have M7:=aD.le hk.2
    rw[nZ en]at M7
    refine Z5 ?_
    refine kj I1 (by rw[in1_units];omega) j iP sz en nd hk.1 rk BO rv M6 λtk xX c8 e1 e2 e3 e0 e4 e5=>?_
    refine Zu ⟨acO F.bA _,?_⟩
    have x1:Ext H ι (upd H a (dO a c8 c)) ι:=Ext.put ha j
    have cS:it≠a:=λz=>by rw[z]at hf;rw[hf.1]at j;cases j
    have:=wy (P:=P) hu hh qs (i+1) (lO (tk:=tk) I1 j e4 e5) (lP G0 ha k5 j e1 e2 sy e0 (by omega)) ha (hq.ext x1) (aj.ext x1 _ hr) (by rw[M3];exact M1) f (kD.at λo q=>by rw[e5.2 it cS];exact q) ⟨by rw[aT cS];exact hf.1,hf.2⟩ (E:=E) λs' H' I' x' G'=>p s' H' I' (x1.trans x') G'
    exact this
  . cases y
theorem Js {k:Nat}(hr:cV k X.A):b_ X (.type "dict") (gC X.kw qR):=by
 intro pins s σ H xs us Q I r q
 obtain⟨ι,g,ds,d,g',G0,r1,q,p⟩:=q
 unfold qR at q
 split at q
 . rename_i ps
   obtain⟨qs,BK,q⟩:=bind_some q
   obtain⟨g2,Ck,q⟩:=ZM.mp q
   cases q
   simp only[aj]at r1
   obtain⟨v,_,rfl,x,rfl⟩:=r1
   simp only[Rel]at x
   obtain⟨l,vs,rfl,hq,M8⟩:=x
   obtain⟨u,rfl,ru⟩:=vals1 r
   cases ru
   have hf:H s.heap.objs.size=none:=I.bo.fresh (ZA _)
   have c:∀h:Heap,(h.push { cls:=.type "dict",data:=.dict #[] }).get? h.objs.size=some { cls:=.type "dict",data:=.dict #[] }:=λh=>ZF _ rfl
   have I1:Inv X pins σ (upd H s.heap.objs.size (dO s.heap.objs.size [] 0)) { s with heap:=s.heap.push { cls:=.type "dict",data:=.dict #[] } }:=I.laid (t':=s.toks) (λb u e=>Zy _ e) (ZA _) ⟨c _,⟨_,c _⟩,λn f q k=>k _ q⟩
   have j:Ext H ι (upd H s.heap.objs.size (dO s.heap.objs.size [] 0)) (ι.more s.heap.objs.size 1):=Ext.eP (b:=1) hf
   have G1:az X.kw (upd H s.heap.objs.size (dO s.heap.objs.size [] 0)) (ι.more s.heap.objs.size 1) (g ++ [[]]):=G0.eP hf (.d 0 [] [] (aab _) .nil .nil (by simp[bL]) (beq_eq_false_iff_ne.mpr (abg (ZX (big I)))) (aab _)) (by simp[aj])
   have k9:cR (ι.more s.heap.objs.size 1) g.length s.heap.objs.size true:=cR.new G0.len
   refine callType_codes (Q₁:=λobj s₁=>obj = .ref s.heap.objs.size/\s₁={ s with heap:=s.heap.push { cls:=.type "dict",data:=.dict #[] } }) F.kt_called_dict (F.kt_typeCall_dict_1 _) F.entry_dict_init (kt_code_dict_new _ ⟨rfl,rfl⟩) ?_
   rintro obj s₁ ⟨rfl,rfl⟩
   have hT:aeS { s with heap:=s.heap.push { cls:=.type "dict",data:=.dict #[] } } (.ref s.heap.objs.size) "dict":=⟨_,c _,rfl⟩
   refine⟨hT,F.args_dict_init_2 _ _,?_⟩
   unfold aaY.«dict.__init__»
   refine Zn ?_
   unfold ad7
   refine Zn (abW hT ?_)
   show wpAny _ _ (pure (s.heap.objs.size,[abz l])) _ _ _
   refine Zu ?_
   show wpAny _ _ (abJ "dict.__init__" s.heap.objs.size (.ref l) [] .none) _ _ _
   unfold abJ
   have Cm:=hq.ext j
   obtain⟨av,aV,pl,hz⟩:=I1.list Cm.sq
   obtain⟨o,m,n,f,h3,h4⟩:=id pl
   refine Zn (abU ⟨o,n,f⟩ ?_)
   rw[if_pos (by decide)]
   refine Zn (wq (A:=X.A.in1.in1) n f h4 h3 (by simp[hr.hd]) λh' a z=>?_)
   rw[if_pos (by rfl)]
   have i:Inv X pins σ (upd H s.heap.objs.size (dO s.heap.objs.size [] 0)) { s with heap:=h',toks:=a }:=I1.kept (t':=a) z
   refine Zn (aa1 (Zn (wpAny_pyIter_list (pl.keeps z).isList ?_)))
   have I3:Inv X pins σ (upd H s.heap.objs.size (dO s.heap.objs.size [] 0)) { s with heap:=h'.push { cls:=.type "list_iterator",data:=.fields #[.ref l,.int 0 0] },toks:=a }:=i.kept (t':=a) λb u e=>Zy _ e
   refine Zu ⟨acO F.bA _,?_⟩
   refine wy (A:=X.A.in1) (by rw[in1_units];have:=hr.units;omega) (by simp[hr.hd]) qs 0 I3 G1 k9 Cm (aj.ext j _ M8) BK Ck ⟨_,ZF _ rfl,rfl,rfl⟩ (i.mJ (ZA _) (i.bo.fresh (ZA _))) λs' y I' x' G'=>?_
   refine⟨.ref s.heap.objs.size,y,I',rfl,p y _ _ (j.trans x') G' ?_⟩
   simp only[Rel]
   exact⟨_,rfl,k9⟩
 . cases q
end
end L3
namespace HX
open PySem
noncomputable def rl (x:Nat):Nat:=(x*2147483648) % 18446744073709551616+x / 8589934592
noncomputable def gx (w:Nat):Nat:=let y:=((w+18446744073709551616-2870177450013471924) % 18446744073709551616)*614540362697595703 % 18446744073709551616;y % 2147483648*8589934592+y / 2147483648
noncomputable def out (w:Nat):Int:=if(w == 18446744073709551616-1)=true then 1546275796 else if w<9223372036854775808 then(w:Int)else(w:Int)-18446744073709551616
end HX
set_option maxRecDepth 10000
namespace HX
open PySem
theorem ec:((18446744073709551616:Nat):Int)=18446744073709551616:=rfl
end HX
namespace L3
open PySem PySem.Spec PyProof.Rows L2 SeqAt DK HX
end L3
namespace L3
open PySem PySem.Spec PyProof.Rows L2
noncomputable def iU (R:Str->Option Fn)(i:Nat)(fr:FA):FE:=λσ g=>match σ[i]? with
 |some (some (.fn y))=>(R y).bind λfn=>(fr σ g).bind λq=>fn q.1 q.2
 |_=>none
theorem Cn {R:Str->Option Fn}{i:Nat}{fr:FA}{σ:Sg}{g:G}{y:Str}{fn:Fn}(h:σ[i]? = some (some (.fn y)))(hr:R y=some fn):iU R i fr σ g=(fr σ g).bind λq=>fn q.1 q.2:=by
 unfold iU
 rw[h]
 simp[hr]
end L3
namespace RI
open PySem PySem.Spec PyProof.Rows L2 L3
noncomputable def RN (m:G0):Str->Option Fn:=λy=>(m.fns.lookup y).map λq=>m.T q.1
noncomputable def M9:n6 where
 e:=λm c E _ x=>match x with
  |.Call (.Name y _) (a::as) [] _=>if jx y||(a::as).any isStar || !(uq (c.sc.names.lookup y))then none else(nc c.N y).map λi=>iU (RN m) i (aE E (a::as))
  |_=>none
 yj:=by
  intro m c X E g hE rf x f h
  split at h
  . rename_i y p a as pos
    split at h
    . cases h
    . rename_i hh
      simp only[aaa,not_or,abF,aau,afB]at hh
      obtain⟨⟨h1,h2⟩,h3⟩:=hh
      obtain⟨i,hi,rfl⟩:=ZM.mp h
      obtain⟨o1,o2,_⟩:=qI h1
      rw[aay,aaw]at h2
      have hN:X.N[i]? = some y:=by rw[g.hN];exact jQ hi
      have hv:AJ X.env.scope y:=by
        rw[g.hs]
        unfold uq at h3
        split at h3
        . rename_i e;exact .inl e
        . rename_i e;exact .inr (.inl e)
        . rename_i e;exact .inr (.inr e)
        . cases h3
      refine .of (λpins s σ H Q I k=>?_)
      obtain⟨ι,σd,g0,d,g',G0,S0,k,pp⟩:=k
      unfold iU at k
      split at k
      . rename_i z hz
        obtain⟨fn,xJ,k⟩:=bind_some k
        unfold RN at xJ
        obtain⟨⟨j,n⟩,hl,rfl⟩:=ZM.mp xJ
        obtain⟨fa,fd,ps,ok,hm,kp,b,ln⟩:=g.fn z j n (lookup_mem hl)
        obtain⟨v,hσ,rv⟩:=S0.2 i _ hz
        simp only[Rel]at rv
        obtain⟨XJ,rfl,o⟩:=rv
        have o:X.mg z=some (.ref XJ):=o
        rw[hm]at o
        cases o
        obtain⟨mm,hn,jT⟩:=I.loc
        obtain⟨u,r,l⟩:=jT i y _ hN hσ hv
        cases r
        have load:∀{Q:Value->Zq->Prop} {E:Value->Zq->Prop},Q (.ref fa) s->wpAny (model X.prog X.w) X.A (eval (.Name y p) X.env) Q E s:=λfin=>by
          rcases l with⟨hk,hm⟩|⟨hk,c,hc,jb⟩
          . exact acZ (ac0 I.ok.kind hk hn hm fin) o1
          . rcases hk with hk|hk
            . exact acZ (adk I.ok.kind hk hc jb fin) o1
            . exact acZ (aeV I.ok.kind hk hc jb fin o2) o1
        have q2:t9 (mn X.kw n (m.T j)) [] E0 (i9 X.kw (aE E (a::as))) σ H Q:=pG ln ⟨ι,σd,g0,d,g',G0,S0,k,pp⟩
        refine abL (load ?_)
        refine afa (h₀:=X.base) I.ok.mod.FV kp (bf ((eS hE (a::as)).un pos pins s σ H _ I q2) λus s1 ⟨vs,H1,I1,r,q⟩=>⟨I1.gL,?_⟩) (bV h2.1) (k_ h2.2)
        exact uJ ok g.rm b .nil zw I1 r q
      . cases k
  . cases h
 t:=Cd
 tok:=by intro m c X E g hE x f h;cases h
end RI
namespace PySem
theorem tY:typeLookup (.type "tuple") "keys" = pure none:=by rw[typeLookup_type,aeE];kernel_rfl
theorem tZ {prog:ZW}{w:World}{A:Z0}{E:Value->Zq->Prop}{s:Zq}{a:Addr}{o:Obj}{xs:Array Value}{k:Nat}{Q:Option Value->Zq->Prop}
  (hx:s.heap.get? a=some o) (hc:o.cls = .type "tuple") (wu:o.data = .seq xs k) (hd:o.dict=none) (hA:A.handled=none)
  (h:∀h' tk,(∀b ob,s.heap.get? b=some ob->h'.get? b=some ob)->Q none { s with heap:=h',toks:=tk }):
  wpAny (model prog w) A (getAttr? (.ref a) "keys") Q E s:=by
 obtain⟨c,r,dat,m⟩:=o
 simp only at hc wu hd
 subst hc wu hd
 obtain⟨l,g,d,tk,os⟩:=s
 have i:∀f,(⟨l,g,d,f,os⟩:Zq).TypeIs (.ref a) "tuple":=λ_=>⟨_,hx,rfl⟩
 have f1:=sub_AttributeError
 have n:=F.slot_tuple_getattribute.lookup
 have f4:=F.slot_tuple_getattribute.bind (.ref a)
 have u:=am_tuple_getattr_none
 unfold getAttr? getAttrBy? getAttrBy
 repeat (any_goals (first|assumption|exact i _| ((with_reducible show wpAny _ _ (call (ag2 "tuple.__getattribute__") _ _) _ _ _);refine abj F.slot_tuple_getattribute (i _) am_entry_tuple_getattribute (F.args_tuple_getattribute_2 _ _) (meets_getattribute_miss_tuple a xs k m "keys" _ tY (by decide) (by size_fits)) ⟨hx,hA,λh' f e j=>?_⟩)|wp_step))
 obtain⟨p,q,he⟩:=j.there
 show wpAny _ _ (acv _ _ _ _ _ _ _) _ _ _
 unfold acv
 repeat (any_goals (first|assumption|wp_step))
 exact h _ _ j.keeps
end PySem
namespace L3
open PySem PySem.Spec PyProof.Rows L2 SeqAt DK
noncomputable def nk:Fn:=λds g=>match ds with
 | [.tup ps]=>(eB ps).bind λb=>(putAll g.length b (g ++ [[]])).map λa=>(.ax g.length,a)
 |_=>none
section
variable {X:Cx}{pins:List (Addr×Obj)}{σ:L2.St}
theorem tu {A:Z0}{E:Value->Zq->Prop}{P:Zq->Prop}(hu:A.units+32<cLine)(hh:A.handled=none){a l it:Addr}{n:Nat}{ps:List D}{vs:List V}:∀(qs:List (D×D)) (i:Nat) {s:Zq} {H:Hp} {ι:Ix} {g g':G},Inv X pins σ H s->az X.kw H ι g->cR ι n a true->mf X.kw H ι l vs->aj X.kw H ι ps vs->eB (ps.drop i)=some qs->putAll n qs g=some g' ->
  s.heap.IsTupleIter it l i->gq X pins H it ->
  (∀s' H',Inv X pins σ H' s'->Ext H ι H' ι->az X.kw H' ι g'->P s') ->
  acS (model X.prog X.w) A (.builtin "dict.update.loop" ⟨[.ref a,.ref it,.int i 0,.none],[]⟩) (wants (λr s₂=>r = .none/\P s₂) E) s
 | [],i,s,H,ι,g,g',I,G0,ha,hq,hr,h,f,hit,hf,p=>by
  cases f
  have hd:ps.drop i = []:=by
    cases e:ps.drop i with
    |nil=>rfl
    |cons x r=>rw[e]at h;simp only[eB]at h;obtain⟨_,_,h⟩:=bind_some h;obtain⟨_,_,h⟩:=ZM.mp h;cases h
  obtain⟨av,aV,pl,hz⟩:=I.tuple hq.sq
  have hlen:av.length<=i:=by rw[<- aV.length,<- hr.length];exact aeN.mp hd
  refine abO F.cU ?_
  rw[aa_ F.bA _]
  show wpAny _ A.in1 (ac2 (.ref it) >>= _) _ _ s
  refine Zn (aej hh hit (show s.heap.IsTuple l av.toArray from pl) (by simp;omega) λh' hx=>?_)
  show wpAny _ A.in1 (ad6 a [] >>= _) _ _ _
  exact Zn (Zu (Zu ⟨rfl,p _ H (I.turned (t':=s.toks) (λb o hb q=>hx b o hb q) hf.1 hf.2.1 hf.2.2.2.1 hf.2.2.2.2.1 hf.2.2.2.2.2) Ext.refl G0⟩))
 | (k,v)::qs,i,s,H,ι,g,g',I,G0,ha,hq,hr,h,f,hit,hf,p=>by
  obtain⟨x,r,hd,qS,M1⟩:∃x r,ps.drop i=x::r/\rY x=some (k,v)/\eB r=some qs:=by
    cases e:ps.drop i with
    |nil=>rw[e]at h;simp[eB]at h
    |cons x r =>
      rw[e]at h;simp only[eB]at h
      obtain⟨p0,h1,h⟩:=bind_some h
      obtain⟨r0,h2,h⟩:=ZM.mp h
      cases h
      exact⟨x,r,rfl,h1,h2⟩
  have hi:ps[i]? = some x:=by
    have:=congrArg (λl=>l[0]?) hd
    simpa using this
  have M3:ps.drop (i+1)=r:=by
    have:=congrArg List.tail hd
    simpa using this
  have hx:x = .tup [k,v]:=by
    unfold rY at qS
    split at qS
    . cases qS;rfl
    . cases qS
  subst hx
  obtain⟨av,aV,pl,hz⟩:=I.tuple hq.sq
  obtain⟨w,hw,ae⟩:=hr.get hi
  obtain⟨u,M4,ru⟩:=aV.get hw
  simp only[Rel]at ae
  obtain⟨b,us,rfl,M5,Ci⟩:=ae
  cases ru
  simp only[aj]at Ci
  obtain⟨kv,_,rfl,rk,vv,_,rfl,rv,rfl⟩:=Ci
  refine abO F.cU ?_
  rw[aa_ F.bA _]
  show wpAny _ A.in1 (ac2 (.ref it) >>= _) _ _ s
  refine Zn (ad_ hit (show s.heap.IsTuple l av.toArray from pl) (by simpa using M4) λh' kD sb=>?_)
  have I1:Inv X pins σ H { s with heap:=h' }:=I.turned (t':=s.toks) (λb o hb e=>sb.extBut b o hb e) hf.1 hf.2.1 hf.2.2.2.1 hf.2.2.2.2.1 hf.2.2.2.2.2
  obtain⟨jF,Ac,⟨o,h1,h2,m,h3⟩,_⟩:=I1.tuple M5.sq
  obtain⟨ku,vu,rfl,BO,M6⟩:∃ku vu,jF = [ku,vu]/\RelV kv ku/\RelV vv vu:=by
    cases Ac with
    |cons a1 r1=>cases r1 with
      |cons a2 r2=>cases r2;exact⟨_,_,rfl,a1,a2⟩
  show wpAny _ A.in1 (abA [.ref b] _ >>= _) _ _ _
  refine Zn (Z5 ?_)
  refine Zn (wpAny_tryCatch ?_)
  unfold aer
  refine Zn (abU ⟨o,h1,h2⟩ ?_)
  rw[if_pos (by decide)]
  refine Zn (acz h1 h3 (Zu ?_))
  simp only[putAll]at f
  obtain⟨g1,y,f⟩:=bind_some f
  simp only[eN]at y
  obtain⟨xs,mR,y⟩:=bind_some y
  split at y
  . rename_i hk
    simp only[Zv]at hk
    cases y
    obtain⟨es,Rj,c,j,k5,iP,qB,Cj,nd,sy,sz,rl⟩:=G0.oQ mR ha
    have en:=Ent.of qB Cj rl
    have M7:=aD.le hk.2
    rw[nZ en]at M7
    refine Z5 ?_
    refine kj I1 (by rw[in1_units];omega) j iP sz en nd hk.1 rk BO rv M6 λtk xX c8 e1 e2 e3 e0 e4 e5=>?_
    refine Zu ⟨acO F.bA _,?_⟩
    have x1:Ext H ι (upd H a (dO a c8 c)) ι:=Ext.put ha j
    have cS:it≠a:=λz=>by rw[z]at hf;rw[hf.1]at j;cases j
    have:=tu (P:=P) hu hh qs (i+1) (lO (tk:=tk) I1 j e4 e5) (lP G0 ha k5 j e1 e2 sy e0 (by omega)) ha (hq.ext x1) (aj.ext x1 _ hr) (by rw[M3];exact M1) f (kD.at λo q=>by rw[e5.2 it cS];exact q) ⟨by rw[aT cS];exact hf.1,hf.2⟩ (E:=E) λs' H' I' x' G'=>p s' H' I' (x1.trans x') G'
    exact this
  . cases y
theorem EF {k:Nat}(hr:cV k X.A):b_ X (.type "dict") (gC X.kw nk):=by
 intro pins s σ H xs us Q I r q
 obtain⟨ι,g,ds,d,g',G0,r1,q,p⟩:=q
 unfold nk at q
 split at q
 . rename_i ps
   obtain⟨qs,BK,q⟩:=bind_some q
   obtain⟨g2,Ck,q⟩:=ZM.mp q
   cases q
   simp only[aj]at r1
   obtain⟨v,_,rfl,z,rfl⟩:=r1
   simp only[Rel]at z
   obtain⟨l,vs,rfl,hq,M8⟩:=z
   obtain⟨u,rfl,ru⟩:=vals1 r
   cases ru
   have hf:H s.heap.objs.size=none:=I.bo.fresh (ZA _)
   have i:∀h:Heap,(h.push { cls:=.type "dict",data:=.dict #[] }).get? h.objs.size=some { cls:=.type "dict",data:=.dict #[] }:=λh=>ZF _ rfl
   have I1:Inv X pins σ (upd H s.heap.objs.size (dO s.heap.objs.size [] 0)) { s with heap:=s.heap.push { cls:=.type "dict",data:=.dict #[] } }:=I.laid (t':=s.toks) (λb u e=>Zy _ e) (ZA _) ⟨i _,⟨_,i _⟩,λf a q k=>k _ q⟩
   have y:Ext H ι (upd H s.heap.objs.size (dO s.heap.objs.size [] 0)) (ι.more s.heap.objs.size 1):=Ext.eP (b:=1) hf
   have G1:az X.kw (upd H s.heap.objs.size (dO s.heap.objs.size [] 0)) (ι.more s.heap.objs.size 1) (g ++ [[]]):=G0.eP hf (.d 0 [] [] (aab _) .nil .nil (by simp[bL]) (beq_eq_false_iff_ne.mpr (abg (ZX (big I)))) (aab _)) (by simp[aj])
   have k9:cR (ι.more s.heap.objs.size 1) g.length s.heap.objs.size true:=cR.new G0.len
   refine callType_codes (Q₁:=λobj s₁=>obj = .ref s.heap.objs.size/\s₁={ s with heap:=s.heap.push { cls:=.type "dict",data:=.dict #[] } }) F.kt_called_dict (F.kt_typeCall_dict_1 _) F.entry_dict_init (kt_code_dict_new _ ⟨rfl,rfl⟩) ?_
   rintro obj s₁ ⟨rfl,rfl⟩
   have hT:aeS { s with heap:=s.heap.push { cls:=.type "dict",data:=.dict #[] } } (.ref s.heap.objs.size) "dict":=⟨_,i _,rfl⟩
   refine⟨hT,F.args_dict_init_2 _ _,?_⟩
   unfold aaY.«dict.__init__»
   refine Zn ?_
   unfold ad7
   refine Zn (abW hT ?_)
   show wpAny _ _ (pure (s.heap.objs.size,[abz l])) _ _ _
   refine Zu ?_
   show wpAny _ _ (abJ "dict.__init__" s.heap.objs.size (.ref l) [] .none) _ _ _
   unfold abJ
   have Cm:=hq.ext y
   obtain⟨av,aV,pl,hz⟩:=I1.AO Cm.sq
   obtain⟨o,f,a,⟨m,h4⟩,n⟩:=id pl
   refine Zn (abU ⟨o,f,a⟩ ?_)
   rw[if_pos (by decide)]
   refine Zn (tZ (A:=X.A.in1.in1) f a h4 n (by simp[hr.hd]) λx c hk=>?_)
   rw[if_pos (by rfl)]
   have j:Inv X pins σ (upd H s.heap.objs.size (dO s.heap.objs.size [] 0)) { s with heap:=x,toks:=c }:=I1.kept (t':=c) hk
   refine Zn (aa1 (Zn (acp (show({ s with heap:=x,toks:=c }:Zq).heap.IsTuple l av.toArray from(let⟨o,f,a,n,_⟩:=pl;⟨o,hk _ _ f,a,n⟩)) ?_)))
   have I3:Inv X pins σ (upd H s.heap.objs.size (dO s.heap.objs.size [] 0)) { s with heap:=x.push { cls:=.type "tuple_iterator",data:=.fields #[.ref l,.int 0 0] },toks:=c }:=j.kept (t':=c) λb u e=>Zy _ e
   refine Zu ⟨acO F.bA _,?_⟩
   refine tu (A:=X.A.in1) (by rw[in1_units];have:=hr.units;omega) (by simp[hr.hd]) qs 0 I3 G1 k9 Cm (aj.ext y _ M8) BK Ck ⟨_,ZF _ rfl,rfl,rfl⟩ (j.mJ (ZA _) (j.bo.fresh (ZA _))) λs' H' I' x' G'=>?_
   refine⟨.ref s.heap.objs.size,H',I',rfl,p H' _ _ (y.trans x') G' ?_⟩
   simp only[Rel]
   exact⟨_,rfl,k9⟩
 . cases q
end
end L3
namespace DK
open PySem PySem.Spec PyProof.Rows L2 L3
theorem Co {prog:ZW}{w:World}{A:Z0}(hh:A.handled=none)(I d:Addr)(cS:d≠I)(es:Array Z4)(ep:Nat):
  Walks prog w A I [I,d] [I] es.size (λi v=>∃e,es[i]? = some e/\v=e.key) (λi h=>h.IsKeyIter I d i es.size ep/\h.get? d=some { cls:=.type "dict",data:=.dict es ep }) where
 sub:=λb a=>by simp at a;simp[a]
 frame:=λ_ _ _ st j=>⟨st.1.at λo e=>j I (by simp) o e,j d (by simp) _ st.2⟩
 item:=λi s Q E m st c=>by
  have he:es[i]? = some es[i]:=by simp[m]
  refine next_item st.1 st.2 rfl he λf l k=>?_
  exact c _ f s.toks ⟨_,he,rfl⟩ ⟨l,k.extBut d _ cS st.2⟩ λb o a e=>k.extBut b o (λh=>a (by simp[h])) e
 done:=λs Q E st c=>next_end hh st.1 st.2 rfl (ZA _) λf n=>c f s.toks λb o a e=>n b o (λh=>a (by simp[h])) e
 self:=λ_ _ _ _ st c=>wpAny_pyIter_keyiter st.1 c
theorem Jt {prog:ZW}{w:World}{d:Addr}{es:Array Z4}{ep:Nat}(lo:(d == abi)=false):
  PySem.W.KdlSrc prog w "dict" d d es.size (λi v=>∃e,es[i]? = some e/\v=e.key) (λh=>h.get? d=some { cls:=.type "dict",data:=.dict es ep }) where
 type:=λ_ hm=>⟨_,hm,rfl⟩
 there:=λ_ hm=>⟨ZH hm,ZH hm⟩
 keep:=λ_ _ hm c=>c d (.inl rfl) _ hm
 notList:=by decide
 notTuple:=by decide
 hint:=λ_ _ _ _ hm a=>PySem.W.kdl_hint_dict ⟨_,hm,rfl⟩ a
 iter:=λ_ _ b hm=>⟨_,_,(λ_ _ a=>El lo hm a),Co b _ d (ZX (ZH hm)) es ep,⟨⟨_,ZF _ rfl,rfl,rfl⟩,Zy _ hm⟩⟩
theorem EG {K H ι}{xs:List D}{es:List Z4}(en:Ent K H ι xs es):∃ks:List V,Vals ks (es.map (·.key))/\aj K H ι (bL xs) ks:=by
 induction en with
 |nil=>exact⟨[],.nil,by simp[bL,aj]⟩
 |cons _ _ rk rv _ _ _ ih =>
  obtain⟨ks,a,b⟩:=ih
  exact⟨_::ks,.cons rv a,by simp only[bL,aj];exact⟨_,_,rfl,rk,b⟩⟩
end DK
namespace L3
open PySem PySem.Spec PyProof.Rows L2 SeqAt DK
end L3
namespace L3
open PySem PySem.Spec PyProof.Rows L2
noncomputable def dr (d:D)(g:G):D:=match d with
 |.ref n=>(match g[n]? with|some xs=>.lst xs|none=>.ref n)
 |d=>d
end L3
namespace PySem
namespace F
end F
section
variable {prog:ZW}{w:World}{A:Z0}{E:Value->Zq->Prop}{s:Zq}
theorem Ad {x:Value}{Q:List Value->Zq->Prop}
  (h:∀R:Result->Zq->Prop,(∀(h':Heap) (tk:Nat) (nq:Array Value) (c':Nat),h'.get? s.heap.objs.size=some { cls:=.type "list",dict:=none,data:=.seq nq c',slots:=#[] }->Q nq.toList { s with heap:=h',toks:=tk }->R (.ok (.ret (.ref s.heap.objs.size))) { s with heap:=h',toks:=tk }) ->
   wpAny (model prog w) A.in1 (adB (.ref s.heap.objs.size) x (.ref s.heap.objs.size))
    (λfin s'=>match fin with|.done f=>R (.ok f) s'|.again c'=>c'.quiet=true/\acS (model prog w) A c' R s') (λe s'=>R (.error e) s') { s with heap:=s.heap.push { cls:=.type "list",data:=.seq #[] } }):
  wpAny (model prog w) A (collect x) Q E s:=by
 unfold collect
 refine Zn (wpAny_runValue (abO F.entry_proto_collect ?_))
 rw[aa_ F.plain_proto_collect _]
 show wpAny _ A.in1 (newList [] >>= λl=>again (.builtin "list.__iadd__" ⟨[l,x],[]⟩)) _ _ s
 refine Zn (aaU ?_)
 refine Zu ⟨acO F.plain_list_iadd _,abO F.entry_list_iadd ?_⟩
 rw[aa_ F.plain_list_iadd _]
 show wpAny _ A.in1 (adB (.ref s.heap.objs.size) x (.ref s.heap.objs.size)) _ _ _
 refine h (wants _ E) λh' tk nq c' b a=>?_
 show wpAny _ A (load s.heap.objs.size >>= _) _ _ _
 refine Zn (wpAny_load b ?_)
 exact Zu a
end
end PySem
namespace L3
open PySem PySem.Spec PyProof.Rows L2
end L3
namespace TL
open PySem PySem.Spec PySem.SeqAt PyProof.Rows PySem.W
end TL
namespace L3
open PySem PySem.Spec PyProof.Rows L2 SeqAt
end L3
namespace PySem
namespace F
end F
end PySem
namespace PyProof.Rows
open PySem
section
variable {prog:ZW}{w:World}{A:Z0}{E:Value->Zq->Prop}{s:Zq}
theorem EH {h:Heap}{a:Addr}{vs:List Value}{n:Nat}{out:Array Value}(ho:h.get? a=some (aaL "list" vs.toArray n)):∃c,(adQ h a vs out).get? a=some (aaL "list" out c):=by
 unfold adQ
 have f:a<h.objs.size:=ZH ho
 have e:=aeh ho (λ_=>#[])
 have b:=Zy (aaL "list" #[] 0) (Zy (aaL "tuple" vs.toArray 0) e)
 exact⟨_,aeh b (λ_=>out)⟩
theorem Cp {h:Heap}{a b:Addr}{vs:List Value}{out:Array Value}{o:Obj}(hb:b≠a)(e:h.get? b=some o):(adQ h a vs out).get? b=some o:=by
 unfold adQ
 rw[abQ _ _ hb.symm]
 exact Zy _ (Zy _ ((abQ _ _ hb.symm).trans e))
end
end PyProof.Rows
namespace L3
open PySem PySem.Spec PyProof.Rows L2 SeqAt DK
end L3
namespace SJ
open PySem PySem.Spec PyProof.Rows SW
end SJ
namespace L3
open PySem PySem.Spec PyProof.Rows L2 SJ
end L3
namespace RI
open PySem PySem.Spec PyProof.Rows L2 L3
end RI
namespace L3
open PySem PySem.Spec PyProof.Rows L2 SeqAt DK
end L3
namespace RI
open PySem PySem.Spec PyProof.Rows L2 L3
end RI
namespace L3
open PySem PySem.Spec PyProof.Rows L2
section
variable {X:Cx}
noncomputable def GR (i:Int):Value->Bool
 |.int a _=>a == i
 |_=>false
end
end L3
namespace RI
open PySem PySem.Spec PyProof.Rows L2 L3
theorem wA {K H ι}:∀{xs:List D} {vs:List V} {ns:List Int},et xs=some ns->aj K H ι xs vs->vs=ns.map V.int
 | [],vs,ns,h,r=>by simp only[aj]at r;subst r;cases h;rfl
 |d::ds,vs,ns,h,r=>by
  obtain⟨i,ms,rfl,rfl,a⟩:=qx h
  simp only[aj,Rel]at r
  obtain⟨v,c,rfl,rfl,b⟩:=r
  rw[wA a b]
  rfl
section
variable {X:Cx}
noncomputable def M_ (K:KW):V->List V->Hp->VK->Prop:=λx b H Q=>∃a ns i,x = .ref a/\b = [.int i]/\c_ K H a (ns.map V.int)/\Q (.int (aeO i ns:Nat)) H
theorem EI:A7 X "list.count" (M_ X.kw):=by
 intro pins s σ H x vs v us Q I p m h
 obtain⟨a,ns,i,rfl,rfl,r,q⟩:=h
 cases p
 obtain⟨u,rfl,z⟩:=m.one
 obtain⟨t,rfl⟩:=z
 obtain⟨y,l,pl,hz⟩:=I.list r
 obtain⟨⟨cls,dd,data,sl⟩,n,k,f,j,c⟩:=id pl
 simp only at f j c
 subst f j c
 refine count_list_ints (vs:=y) ⟨_,k,rfl,_,rfl⟩ (intsAre_of l) ?_
 exact⟨.int (aeO i ns:Nat),H,I.kept λb o e=>e,⟨_,rfl⟩,q⟩
end
noncomputable def lh (d:D)(ds:List D)(g:G):Option (D×G):=match d,ds with
 |.lst xs,[.int i]=>(et xs).map λns=>(.int (aeO i ns:Nat),g)
 |_,_=>none
theorem EJ {X:Cx}:MR X "list" "count" "list.count" gY lh where
 pa:=acC
 slot:=PySem.F.slot_list_count
 ty:=PySem.F.type_list_count
 is:=wm
 run:=by
  intro pins s σ H x xs v us Q I c rs q
  obtain⟨ι,g,d,ds,o,n,G0,b,rl,l,q,p⟩:=q
  unfold lh at q
  split at q
  . rename_i k i
    obtain⟨ns,j,q⟩:=ZM.mp q
    cases q
    simp only[Rel]at b
    obtain⟨a,m,rfl,e,f⟩:=b
    have h:=wA j f
    subst h
    simp only[aj,Rel]at rl
    obtain⟨w,_,rfl,rfl,rfl⟩:=rl
    exact EI pins s σ H _ _ v us Q I c rs ⟨a,ns,i,rfl,rfl,e.sq,p H ι _ Ext.refl G0 (by simp[Rel])⟩
  . cases q
noncomputable def Ju:qJ:=⟨"count",gY,lh,λ_=>⟨_,_,EJ⟩⟩
noncomputable def PR:n6 where
 e:=λm c E _ x=>match x with
  |.List [] _=>if c.mt.elem (Zt "[]")then some (aI mkRef af)else none
  |_=>none
 yj:=by
  intro m c X E g a b x f h
  split at h
  . split at h
    . cases h
      exact u6 (eS a [])
    . cases h
  . cases h
 t:=Cd
 tok:=by intro m c X E g a x f h;cases h
noncomputable def Nb (E:Expr->FE)(v:Expr):FE:=match v with
 |.List es _=>aI mkRef (aE E es)
 |.BinOp (.List es _) .Mult b _=>ag gV (aI cx (aE E es)) (E b)
 |v=>E v
theorem Nc {X:Cx}{E:Expr->FE}(hE:∀e,DE X e (E e))(v:Expr):DE X v (Nb E v):=by
 unfold Nb
 split
 . exact u6 (eS hE _)
 . exact ke yg (Bg (eS hE _)) (hE _)
 . exact hE _
noncomputable def wB (E:Expr->FE):List (Option Expr)->List Expr->List (FE×FE)
 |some k::ks,v::vs=>(E k,Nb E v)::wB E ks vs
 |_,_=>[]
theorem yx {X:Cx}{E:Expr->FE}(hE:∀e,DE X e (E e)):∀(ks:List (Option Expr)) (vs:List Expr),ks.all (·.isSome)=true->ks.length=vs.length->fK X ks vs (wB E ks vs)
 | [],[],_,_=>by simp[wB,fK]
 | [],_::_,_,h=>by simp at h
 |_::_,[],_,h=>by simp at h
 |none::_,_::_,h,_=>by simp at h
 |some k::ks,v::vs,h,hl=>by
  simp only[wB,fK]
  exact⟨hE k,Nc hE v,yx hE ks vs (by simpa using h) (by simpa using hl)⟩
noncomputable def Nd:n6 where
 e:=λm c E _ x=>match x with
  |.Dict (k::b) vals _=>if(k::b).all (·.isSome)&&decide ((k::b).length=vals.length)&&decide ((k::b).length<=15)then some (dZ (wB E (k::b) vals))else none
  |_=>none
 yj:=by
  intro m c X E g i j x f h
  split at h
  . rename_i k b vals pos
    split at h
    . rename_i a
      rw[Zv,Zv,decide_eq_true_eq,decide_eq_true_eq]at a
      cases h
      exact Ek g.hu (yx i _ _ a.1.1 a.1.2) a.1.1 a.1.2 (by simp) a.2
    . cases h
  . cases h
 t:=Cd
 tok:=by intro m c X E g i x f h;cases h
end RI
namespace TL
open PySem PyProof.Rows PySem.W
section
variable {prog:ZW}{w:World}{A:Z0}{E:Value->Zq->Prop}{s:Zq}
theorem Ae {x:Value}{p0:Array Nat}{vs out:List Value}{κ:ad5}{Q:Value->Zq->Prop}(BZ:vs.length<64)
  (hc:∀(A':Z0) (E':Value->Zq->Prop) (Q':List Value->Zq->Prop),A'.handled=A.handled->(∀(h':Heap) (tk:Nat),(∀b o,s.heap.get? b=some o->h'.get? b=some o)->s.heap.objs.size<=h'.objs.size->Q' vs { s with heap:=h',toks:=tk })->wpAny (model prog w) A' (collect x) Q' E' s)
  (hk:2<=vs.length->∀(h':Heap) (tk:Nat),(∀b o,s.heap.get? b=some o->h'.get? b=some o)->∀(E:Value->Zq->Prop) (R:ad5->Zq->Prop),R κ { s with heap:=h',toks:=tk }->wpAny (model prog w) A.in1.in1 (keyKind' vs.toArray) R E { s with heap:=h',toks:=tk })
  (v5:vs.length<2->out=vs) (f_:2<=vs.length->out=p0.toList.map λi=>vs.getD i .none) (hz:out.length<64)
  (hw:∀(h':Heap) (tk:Nat),(∀b o,s.heap.get? b=some o->h'.get? b=some o)->2<=vs.length->(abG vs.length).kasWp (ab2 prog w A.in1.in1 κ vs) (λp s'=>s'={ s with heap:=h',toks:=tk }/\p=p0) { s with heap:=h',toks:=tk })
  (h:∀(h':Heap) (tk L c:Nat),(∀b o,s.heap.get? b=some o->h'.get? b=some o)->s.heap.objs.size<=L->h'.get? L=some (aaL "list" out.toArray c)->Q (.ref L) { s with heap:=h',toks:=tk }):
  wpAny (model prog w) A (call (.builtin "sorted") [x]) Q E s:=by
 refine adR kind_sorted plain_sorted entry_sorted (args_sorted1 _) ?_
 unfold aaY.«sorted»
 refine Zn (m:=checkCount "sorted" 1 1 _) (Zu ?_)
 refine Zn (hc _ _ _ rfl λa e k l=>?_)
 refine Zn (aeU ?_ (by rw[aaP];omega))
 have f:(a.push (aaL "list" vs.toArray 0)).get? a.objs.size=some (aaL "list" vs.toArray 0):=ZF _ rfl
 have keep:∀b o,s.heap.get? b=some o->(a.push (aaL "list" vs.toArray 0)).get? b=some o:=λb o q=>Zy _ (k b o q)
 have Mr:∀b o,s.heap.get? b=some o->b≠a.objs.size:=λb o q=>ZX (ZH (k b o q))
 have j:∀b o,s.heap.get? b=some o->(cZ (a.push (aaL "list" vs.toArray 0)) a.objs.size vs).get? b=some o:=λb o q=>oW (Mr b o q) (keep b o q)
 refine Zn (Z5 (aai slot_list_sort ⟨_,f,rfl⟩ entry_list_sort (nj (s:={ s with heap:=a.push (aaL "list" vs.toArray 0),toks:=e }) f BZ (λz R r=>hk z _ e j _ R r) v5 f_ hz (λz=>hw _ e j z) ⟨_,rfl,?_⟩) (args_list_sort _)))
 obtain⟨c,n⟩:=EH (out:=out.toArray) f
 exact Zu ⟨_,rfl,h _ e a.objs.size c (λb o q=>Cp (Mr b o q) (keep b o q)) l n⟩
end
end TL
namespace L3
open PySem PySem.Spec PyProof.Rows L2 SeqAt DK
noncomputable def iV (ds:List D)(g:G):Option (D×G):=match ds with
 | [.ax n]=>(g[n]?).bind λxs=>if qN (bL xs)=true then some (.lst (fN (bL xs)),g)else none
 |ds=>qO ds g
section
variable {X:Cx}
theorem EK (hh:X.A.handled=none)(hu:X.A.units+64<cLine):b_ X (.builtin "sorted") (gC X.kw iV):=by
 intro pins s σ H xs us Q I r q
 obtain⟨ι,g,ds,d,g',G0,r1,q,p⟩:=q
 unfold iV at q
 split at q
 . rename_i n
   obtain⟨zs,hx,q⟩:=bind_some q
   split at q
   . rename_i z
     simp only[qN,Zv,aaa,decide_eq_true_eq]at z
     obtain⟨⟨⟨⟨z1,z2⟩,z3⟩,z4⟩,z5⟩:=z
     cases q
     simp only[aj]at r1
     obtain⟨v,_,rfl,rv,rfl⟩:=r1
     simp only[Rel]at rv
     obtain⟨a,rfl,ha⟩:=rv
     obtain⟨u,rfl,ru⟩:=vals1 r
     cases ru
     obtain⟨es,Y8,c,hH,k5,iP,qB,Cj,nd,sy,sz,rl⟩:=G0.oQ hx ha
     have en:=Ent.of qB Cj rl
     obtain⟨vs,aV,hr⟩:=EG en
     have ho:=vM I hH
     generalize hits:es.map (·.key)=av at *
     generalize bL zs=f at *
     have hlen:av.length=f.length:=by rw[<- aV.length,hr.length]
     have MN:vs.length=f.length:=hr.length.symm
     obtain⟨b,hb⟩:∃b:Nat,2<=f.length->∀d∈f,i4 d=some b:=by
       rcases z4 with z4|z4|z4|z4
       . exact⟨1,λh=>by omega⟩
       . exact⟨1,λ_ d hd=>eq_of_beq (ZY.mp z4 d hd)⟩
       . exact⟨0,λ_ d hd=>eq_of_beq (ZY.mp z4 d hd)⟩
       . exact⟨2,λ_ d hd=>eq_of_beq (ZY.mp z4 d hd)⟩
     have pm:2<=f.length->∀i∈fM f,i<f.length:=λh i hi=>Z_.mp ((fO h).mem_iff.mp hi)
     have fin:∀(out:List Value) (ov:List V),Vals ov out->aj X.kw H ι (fN f) ov->out.length<64->∀(m:Heap) (l L c:Nat),(∀b o,s.heap.get? b=some o->m.get? b=some o)->s.heap.objs.size<=L->m.get? L=some (aaL "list" out.toArray c)->EP X pins σ Q (.ref L) { s with heap:=m,toks:=l }:=λout ov h1 x hz m l L c y hL hc=>by
       have jI:=I.bo.fresh hL
       refine⟨.ref L,_,I.laid (t':=l) y hL (show cY X.prog X.w _ _ _ (.lst ov) from⟨by rw[h1.length,aaP];omega,out,c,h1,by simpa[aaL]using hc⟩),rfl,?_⟩
       refine p _ _ _ (Ext.lay jI) (G0.lay jI) ?_
       simp only[Rel]
       exact⟨_,_,rfl,.inl ⟨.inl bG,G0.fresh jI,G0.kL jI⟩,aj.ext (Ext.lay jI) _ x⟩
     have run:∀(m:Heap) (l:Nat),(∀b o,s.heap.get? b=some o->m.get? b=some o)->2<=av.length->(abG av.length).kasWp (ab2 X.prog X.w X.A.in1.in1 (tuples' (tyB b)) av) (λp s'=>s'={ s with heap:=m,toks:=l }/\p=(fM f).toArray) { s with heap:=m,toks:=l }:=λm l y x=>by
       have I':Inv X pins σ H { s with heap:=m,toks:=l }:=I.kept (t':=l) y
       refine TL.wa (lt:=λi j=>ltB (f.getD i .aq) (f.getD j .aq)) (N:=av.length) (λi j hi hj C hC=>?_) _ (TL.lg (by omega)) ⟨rfl,?_⟩
       . have qP:i<f.length:=by omega
         have qQ:j<f.length:=by omega
         obtain⟨vi,MO,ri⟩:=hr.get (Zs qP)
         obtain⟨vj,MP,rj⟩:=hr.get (Zs qQ)
         obtain⟨ui,MQ,MS⟩:=aV.get MO
         obtain⟨uj,MT,MU⟩:=aV.get MP
         unfold ab2
         have e1:av.getD i .none=ui:=by simp[MQ]
         have e2:av.getD j .none=uj:=by simp[MT]
         have e3:f.getD i .aq=f[i]:=by simp[qP]
         have e4:f.getD j .aq=f[j]:=by simp[qQ]
         rw[e1,e2]
         rw[e3,e4]at hC
         have mi:=Z2 qP
         have mj:=Z2 qQ
         have ti:=hb (by omega) _ mi
         have tj:=hb (by omega) _ mj
         obtain⟨fi,di⟩:=gF z2 (Zs qP)
         obtain⟨fj,dj⟩:=gF z2 (Zs qQ)
         obtain⟨k,wg⟩:=acq.mp (ZY.mp (ZY.mp z5 _ mi) _ mj)
         unfold ltB at hC
         rw[wg]at hC
         generalize f[i]=XF at *
         generalize f[j]=XG at *
         obtain⟨xi,xj,rfl,rfl,bi⟩:=B5 ti tj
         simp only[Rel]at ri rj
         obtain⟨pi,wi,rfl,qi,B7⟩:=ri
         obtain⟨pj,wj,rfl,qj,B8⟩:=rj
         cases MS;cases MU
         obtain⟨ji,B9,⟨oi,MV,_,XH,MW⟩,_⟩:=I'.tuple qi.sq
         obtain⟨jj,B_,⟨oj,MX,_,XI,MY⟩,_⟩:=I'.tuple qj.sq
         refine agA MV MW MX MY ?_
         have l1:ji.toArray.size=xi.length:=by rw[Zz,<- B9.length,B7.length]
         have l2:jj.toArray.size=xj.length:=by rw[Zz,<- B_.length,B8.length]
         simp only[ltN]at wg
         rw[l1,l2]
         simp only[dep]at di
         exact pT I' xi xj fi fj B7 B8 B9 B_ (by rw[in1_units,in1_units];omega) (λiR _=>bi iR) wg hC
       . unfold fM
         rw[hlen]
     refine TL.Ae (κ:=tuples' (tyB b)) (p0:=(fM f).toArray) (out:=if av.length<2 then av else(fM f).map λi=>av.getD i .none) (by omega) (λA' E' Q' XO k=>Ad λR kR=>?_) (λx m l y E R hR=>?_) (λh=>if_pos h) (λh=>by rw[if_neg (by omega)]) ?_ run ?_
     . refine PySem.W.kdl_extend (A:=A') (Jt sy) (XO.trans hh) (Zy _ ho) s.heap.objs.size (ae9 (ZH ho)) (ae9 (ZH ho)) _ 0 (ZF _ rfl) (λm l nq c' y hS hi=>?_) (by simpa using sz)
       have ea:nq.toList=av:=by
         rw[<- hits]
         obtain⟨h1,x⟩:=hi
         refine aav λj=>?_
         rw[aez,ZG]
         cases hj:nq[j]? with
         |none =>
          have:nq.size<=j:=Array.getElem?_eq_none_iff.mp hj
          rw[h1]at this
          simp at this
          simp[this]
         |some v =>
          obtain⟨e,he,rfl⟩:=x j v hj
          simp at he
          simp[he]
       refine kR m l nq c' hS ?_
       rw[ea]
       exact k m l (λb o e=>y b o (ZX (ZH e)) (Zy _ e)) (acX (ZH hS))
     . have I':Inv X pins σ H { s with heap:=m,toks:=l }:=I.kept (t':=l) y
       obtain⟨fs,k1,k2,k3⟩:=pU I' f hr aV (hb (by omega))
       refine afY (T:=.type (GQ b)) k1 (by omega) k3 (by simp) ?_
       rw[B4];exact hR
     . split
       . omega
       . rw[Z3,(fO (xs:=f) (by omega)).length_eq,abT];omega
     . by_cases x:av.length<2
       . rw[if_pos x]
         exact fin av vs aV (by unfold fN;rw[if_pos (by omega)];exact hr) (by omega)
       . rw[if_neg x]
         refine fin _ _ (Vals.pick aV λi hi=>by rw[MN];exact pm (by omega) i hi) ?_ (by rw[Z3,(fO (xs:=f) (by omega)).length_eq,abT];omega)
         unfold fN
         rw[if_neg (by omega)]
         exact aj.Ab hr (pm (by omega))
   . cases q
 . exact Ey hu pins s σ H xs us Q I r ⟨ι,g,_,d,g',G0,r1,q,p⟩
end
end L3
namespace RI
open PySem PySem.Spec PyProof.Rows L2 L3
noncomputable def Nf:jn:=⟨"sorted",iV,λa _=>.inl ⟨_,EK a.hd a.units,boot_sorted⟩⟩
noncomputable def gZ:Fn:=λds g=>match ds with| [.tup ps]=>nk [.tup ps] g|ds=>qR ds g
theorem EL {X:Cx}{k:Nat}(hr:cV k X.A):b_ X (.type "dict") (gC X.kw gZ):=by
 intro pins s σ H xs us Q I r q
 obtain⟨ι,g,ds,d,b,G0,a,q,p⟩:=q
 unfold gZ at q
 split at q
 . exact EF hr pins s σ H xs us Q I r ⟨ι,g,_,d,b,G0,a,q,p⟩
 . exact Js hr pins s σ H xs us Q I r ⟨ι,g,_,d,b,G0,a,q,p⟩
noncomputable def Ng:jn:=⟨"dict",gZ,λa _=>.inr ⟨_,EL a,af2⟩⟩
end RI
namespace K36
open PySem PySem.Spec PyProof.Rows L2 L3 RI
noncomputable def top (i:Nat):Stmt:=adi.main.body.getD i (.Pass ⟨0,0,0,0⟩)
noncomputable def md (nm:Str)(ps ex:List Str)(i:Nat)(kp:Bool:=false)(mt:List Str:=[])(pu:Bool:=false)(gn:Str:=nm):dy:=⟨nm,ps,ps++ex,top i,kp,mt,pu,gn⟩
noncomputable def UG:=md "number_of" ["manner","name"] [] 2
noncomputable def UH:=md "hands_of" ["manner"] [] 3
noncomputable def UI:=md "places_of" ["manner"] [] 4
noncomputable def UJ:=md "collect_boxes" ["manner"] ["word"] 6
noncomputable def UK:=md "last_round" ["stride","span","moves","reads","moved_in"] ["seen","start","moved","hand","often"] 8 false ["seen","*seen"]
noncomputable def UL:=md "write_step" ["writes","reads"] [] 10
noncomputable def UM:=md "numbered_look" ["manner","reads"] ["hands","ending","used","last"] 13
noncomputable def UN:=md "moves_of" ["manner"] [] 14
noncomputable def UO:=md "renumbered" ["reads"] ["hands"] 15
noncomputable def UP:=md "twice_put" ["manner","hand","deed","ahead","reads"] [] 16
noncomputable def PU:=md "handed_put" ["manner","hand","deed","ahead","reads"] ["look","content"] 17
noncomputable def PV:=md "put_number" ["manner","deed","ahead"] ["turn","number"] 18
noncomputable def PX:=md "next_step" ["manner","hand","deed","ahead","reads"] [] 46
noncomputable def PY:=md "look_step" ["manner","hand","reads"] ["word"] 47
noncomputable def PZ:=md "put_step" ["manner","hand","deed","ahead","reads"] ["word"] 48
noncomputable def P2:=md "once_look" ["manner","reads"] ["boxes"] 49
noncomputable def P4:=md "first_boxes" ["manner"] [] 51
noncomputable def P5:=md "listed_boxes" ["manner"] ["word","boxes"] 52
noncomputable def P6:=md "own_content" ["manner"] ["word","nothing_seen"] 54
noncomputable def P7:=md "single_boxes" ["word","count","content"] [] 56
noncomputable def P8:=md "zeros" ["count"] [] 58
noncomputable def P9:=md "next_deed" ["hand","job","told"] [] 80
noncomputable def P_:=md "course" ["hand","job","told"] ["word"] 81
noncomputable def Qa:=md "deeds_course" ["row","told"] [] 82
noncomputable def Qb:=md "begun" ["manner","jobs"] [] 84
noncomputable def Qc:=md "deed_of" ["manner","jobs","room","hand"] [] 85
noncomputable def Qd:=md "stepped" ["manner","jobs","room","hand"] [] 86
noncomputable def Qe:=md "stepped_at" ["manner","jobs","room","hand","place"] ["deed","ahead","step","boxes","own","rows","state"] 87
noncomputable def Qf:=md "row_behind" ["manner","room","hand","deed","ahead","step"] ["told","reads","end"] 88 false [] false "row_behind_rooms"
noncomputable def Qg:=md "puts_done" ["manner","hand","job","told"] ["deeds","at_places"] 90
noncomputable def Qh:=md "read_by" ["room","step"] [] 91
noncomputable def Qi:=md "boxes_behind" ["boxes","step"] [] 92
noncomputable def Qj:=md "since_begin" ["manner","room","hand","deed"] ["row"] 93
noncomputable def Qk:=md "with_state" ["row","state"] [] 94
noncomputable def Ql:=md "state_of" ["manner","room"] [] 95
noncomputable def Qm:=md "standing" ["manner","boxes"] ["contents","collected"] 96 false ["*contents"]
noncomputable def Qn:=md "_law_hand" ["_law_script","_law_k"] ["_law_cell"] 98 true
noncomputable def Qo:=md "_law_take" ["_law_hand_here","_law_many"] ["_law_digit","_law_turn","_law_mixed","_law_other"] 99 false ["_law_hand_here"]
noncomputable def Qp:=md "_law_pick" ["_law_hand_here","_law_some"] [] 100
noncomputable def Qq:=md "_law_value" ["_law_hand_here"] ["_law_way"] 101
noncomputable def Qr:=md "_law_deeds" ["_law_hand_here","_law_manner_here","_law_own","_law_many"] ["_law_row","_law_k"] 102 false ["_law_row"]
noncomputable def Qs:=md "_law_jobs" ["_law_hand_here","_law_manner_here","_law_most"] ["_law_jobs_here","_law_own","_law_many"] 103 false ["_law_jobs_here"]
noncomputable def Qt:=md "_law_hands" ["_law_hand_here"] [] 104
noncomputable def Qu:=md "_law_manner" ["_law_hand_here","_law_hands_here"] ["_law_turn","_law_moves"] 105
noncomputable def Qv:=md "_law_begin" ["_law_manner_here"] ["_law_many","_law_first","_law_world"] 106 true ["_law_world","[]","=view","=look","*_law_world"]
noncomputable def Qw:=md "_law_fresh" ["_law_many"] [] 107 true
noncomputable def Qx:=md "_law_read" ["_law_world","_law_manner_here","_law_one"] ["_law_many","_law_look","_law_old","_law_now","_law_moved","_law_j","_law_often"] 108 true ["_law_look","_law_now","=now"]
noncomputable def Qy:=md "_law_write" ["_law_world","_law_manner_here","_law_one","_law_value_here"] ["_law_number","_law_content"] 109
noncomputable def Qz:=md "_law_step" ["_law_world","_law_manner_here","_law_one","_law_deed"] ["_law_found"] 110 true
noncomputable def QA:=md "_law_next" ["_law_hand_here","_law_jobs_here","_law_world","_law_left"] ["_law_some","_law_one"] 111 false ["_law_left"]
noncomputable def QB:=md "_law_is" ["_law_room","_law_world"] [] 112
noncomputable def QC:=md "_law_run" ["_law_hand_here","_law_manner_here","_law_jobs_here","_law_most"] ["_law_world","_law_room","_law_left","_law_many","_law_stretch","_law_one","_law_steps","_law_turn","_law_told"] 113 false ["_law_left"]
noncomputable def QD:=md "law" ["_law_script"] ["_law_k","_law_hand_here","_law_manner_here"] 114
noncomputable def ds:List dy:=[UG,UH,UI,UJ,UK,UL,UM,UN,UO,UP,PU,PV,PX,PY,PZ,P2,P4,P5,P6,P7,P8,P9,P_,Qa,Qb,Qc,Qd,Qe,Qf,Qg,Qh,Qi,Qj,Qk,Ql,Qm,Qn,Qo,Qp,Qq,Qr,Qs,Qt,Qu,Qv,Qw,Qx,Qy,Qz,QA,QB,QC,QD]
noncomputable def kF:List (Str×D):=[("once",.tup [.str "hands"]),("twice",.tup [.str "hands",.str "turn"]),("handed",.tup [.str "hands",.str "turn",.str "moves"]),("signs",.tup [.str "hands",.str "toggles",.str "shakes",.str "moves"]),("shared",.tup [.str "hands",.str "places",.str "toggles",.str "shakes",.str "moves"]),("tables",.tup [.str "hands",.str "boxes"])]
noncomputable def pk:Pk:=⟨[UC,PM,PL,UD,MZ,Nf,Ng],[MZ],[EA,Ju,PN,Jp],[Jm,M0],[UE,PQ,Nd,PR,M9]⟩
noncomputable def mo:Mo:=⟨ds,["len","max","min","int","tuple","sorted","dict","range","enumerate"],[],[("NUMBERS",kF)],pk,1000000⟩
end K36
namespace L3
open PySem PySem.Spec PyProof.Rows L2 RI
section
variable {σ:Sg}{g:G}{fa fb fo fi:FE}{fr:FA}
@[simp] theorem Wk {xs:List D}{d:D}:ak (.tup xs) d g=vt (.tup xs) d g:=rfl
@[simp] theorem Wl {xs:List D}{d:D}:ak (.lst xs) d g=vt (.lst xs) d g:=rfl
@[simp] theorem Wm {n:Nat}{d:D}:ak (.ref n) d g=vt (.ref n) d g:=rfl
@[simp] theorem Wn {n:Nat}{d:D}:ak (.ax n) d g=(g[n]?).bind λxs=>if aY 6 d=true then(bg xs d).map λd=>(d,g)else none:=rfl
@[simp] theorem UQ {n:Nat}{i v:D}:eN (.ref n) i v g=putD (.ref n) i v g:=rfl
@[simp] theorem EM {n:Nat}{i v:D}:eN (.ax n) i v g=(g[n]?).bind λxs=>if(aY 6 i&&ij xs)=true then some (g.set n (bj xs i v))else none:=rfl
@[simp] theorem Wq {v:D}:cX fo fi v σ g=(fo σ g).bind λr=>(fi σ r.2).bind λq=>(eN r.1 q.1 v q.2).map λg'=>(σ,g'):=rfl
@[simp] theorem Wr {ik:D->Bool}{m:D->List D->G->Option (D×G)}:eA ik m fo fr σ g=(fo σ g).bind λr=>if ik r.1=true then(fr σ r.2).bind λq=>m r.1 q.1 q.2 else none:=rfl
@[simp] theorem UR:qC σ g=some (.ax g.length,g ++ [[]]):=rfl
@[simp] theorem Ws {n:Nat}:jm (.ax n)=true:=rfl
@[simp] theorem Wt {n:Nat}:isRef (.ref n)=true:=rfl
@[simp] theorem US {xs:List D}:gY (.lst xs)=true:=rfl
@[simp] theorem YU {n:Nat}{k:D}:jP (.ax n) [k] g=(g[n]?).bind λxs=>if aY 6 k=true then some ((bg xs k).getD .aq,g)else none:=rfl
@[simp] theorem YV {n:Nat}{k x:D}:jP (.ax n) [k,x] g=(g[n]?).bind λxs=>if aY 6 k=true then some ((bg xs k).getD x,g)else none:=rfl
@[simp] theorem YW {n:Nat}{x:D}:dJ (.ref n) [x] g=(g[n]?).bind λxs=>if aD (xs.length+1)=true then some (.aq,g.set n (xs ++ [x]))else none:=rfl
@[simp] theorem Wu {n:Nat}{i:Int}:aY n (.int i)=true:=by cases n<;>rfl
@[simp] theorem Wv {n:Nat}{d:D}:my d (.ax n) g=(g[n]?).bind λxs=>if aY 6 d=true then some (bg xs d).isSome else none:=rfl
@[simp] theorem Ww {d e:D}:zS d e g=(my d e g).map λb=>(.bl b,g):=rfl
@[simp] theorem QE {d e:D}:k8 d e g=(my d e g).map λb=>(.bl (!b),g):=rfl
@[simp] theorem UT:isFn .aq=false:=rfl
@[simp] theorem Wx {b:Bool}:isFn (.bl b)=false:=rfl
@[simp] theorem UU {b:Int}:isFn (.int b)=false:=rfl
@[simp] theorem UW {b:Str}:isFn (.str b)=false:=rfl
@[simp] theorem UX {b:List D}:isFn (.tup b)=false:=rfl
@[simp] theorem UY {b:List D}:isFn (.lst b)=false:=rfl
@[simp] theorem UZ:isFn .de=false:=rfl
@[simp] theorem U0 {b:Nat}:isFn (.ref b)=false:=rfl
@[simp] theorem U1 {b:Nat}:isFn (.ax b)=false:=rfl
end
end L3
namespace Pd
open PySem L3 L2
noncomputable def n_:FS:=aw (aC (fC (.int 0)) (gN 2)) (aw (bu (ay (ag oLt (ab 1) (au bN (aa (ab 0) (af))))) (aC (ag ak (ab 0) (ab 1)) (gN 2)) (aO)) (aF (aI mkRef (aa (ag dq (ab 2) (au pJ (aa (ag Bs (ab 2) (ag (cI jg (λi j=>i ^ j.toNat)) (fC (.int 10)) (fC (.int 18)))) (af)))) (aa (ag bC (ag bC (ag (cI cj (· % ·)) (ab 2) (fC (.int 2305843009213693951))) (ag dq (fC (.int 7919)) (ab 1))) (fC (.int 3))) (aa (fC (.int 0)) (af)))))))
noncomputable def qT:FS:=aw (bu (ay (ag sR (ag ak (ab 0) (fC (.int 0))) (fC (.int 0)))) (aw (aC (ag (cI cj (· % ·)) (ag ak (ab 0) (fC (.int 0))) (ab 1)) (gN 2)) (aw (aC (ag (cI gm (· / ·)) (ag ak (ab 0) (fC (.int 0))) (ab 1)) (cX (ab 0) (fC (.int 0)))) (aF (ab 2)))) (aO)) (aw (aC (ag bC (ag ak (ab 0) (fC (.int 2))) (fC (.int 1))) (cX (ab 0) (fC (.int 2)))) (aw (aC (ag ak (ab 0) (fC (.int 2))) (gN 3)) (aw (aC (ag (cI cj (· % ·)) (ag dq (ag ak (ab 0) (fC (.int 1))) (ag bC (ag bC (fC (.int 48271)) (ag dq (ag dq (fC (.int 2)) (ab 3)) (ab 3))) (ag dq (fC (.int 65537)) (ab 3)))) (fC (.int 2305843009213693921))) (gN 4)) (aw (aC (ag bC (ag bC (ag (cI cj (· % ·)) (ab 4) (fC (.int 1000003))) (ag dq (ab 3) (fC (.int 99991)))) (fC (.int 11))) (gN 5)) (aw (aC (ag (cI cj (· % ·)) (ag dq (ab 4) (ab 5)) (fC (.int 2305843009213693907))) (gN 4)) (aF (ag (cI cj (· % ·)) (ag bC (ag (cI gm (· / ·)) (ab 4) (fC (.int 97))) (ag (cI gm (· / ·)) (ab 4) (fC (.int 1000033)))) (ab 1))))))))
noncomputable def uu (take:Fn):FS:=aF (ag ak (ab 1) (au take (aa (ab 0) (aa (au bN (aa (ab 1) (af))) (af)))))
mutual
noncomputable def nf:D->Bool
 |.fn _=>false
 |.tup xs=>RO xs
 |_=>true
noncomputable def RO:List D->Bool
 | []=>true
 |d::ds=>nf d&&RO ds
end
theorem iA {i j:Int}(h1:-(2 ^ 64)<i)(h2:i<2 ^ 64):dn i j=true:=by
 unfold dn
 rw[aaa]
 exact .inl (aa4 (by omega))
theorem oa {i j:Int}(h1:-(2 ^ 64)<j)(h2:j<2 ^ 64):dn i j=true:=by
 unfold dn
 rw[aaa]
 exact .inr (aa4 (by omega))
theorem lR {i j:Int}(h1:0<j)(h2:j<1073741824):gm i j=true:=by
 unfold gm
 rw[Zv]
 exact⟨aa4 (by omega),aa4 (by omega)⟩
theorem fz {i j:Int}(h1:0<j):cj i j=true:=aa4 (by omega)
def Hd (g:G)(n:Nat)(B:Int):Prop:=∃a b c:Int,g[n]? = some [.int a,.int b,.int c]/\0<=a/\0<=b/\b<2 ^ 62/\0<=c/\c<=B
theorem Hd.mono {g n B B'}(h:Hd g n B)(hb:B<=B'):Hd g n B':=let⟨a,b,c,h1,h2,h3,h4,h5,h6⟩:=h;⟨a,b,c,h1,h2,h3,h4,h5,by omega⟩
theorem Hd.lt {g n B}(h:Hd g n B):n<g.length:=let⟨_,_,_,h1,_⟩:=h;(Zr.mp h1).1
def Fr (n:Nat)(g g':G):Prop:=g'.length=g.length /\ ∀j,j≠n->g'[j]? = g[j]?
theorem Fr.refl {n g}:Fr n g g:=⟨rfl,λ_ _=>rfl⟩
theorem Fr.trans {n g g1 g2}(a:Fr n g g1)(b:Fr n g1 g2):Fr n g g2:=⟨b.1.trans a.1,λj h=>(b.2 j h).trans (a.2 j h)⟩
theorem Fr.set {n:Nat}{g:G}{xs:List D}:Fr n g (g.set n xs):=⟨by simp,λj h=>by rw[ZT (abg h)]⟩
theorem tv {a b c:D}:bJ [a,b,c] 0=some a:=rfl
theorem k9 {a b c:D}:bJ [a,b,c] 1=some b:=rfl
theorem at2 {a b c:D}:bJ [a,b,c] 2=some c:=rfl
theorem U2 {g:G}{n:Nat}{a b c v:D}(h:g[n]? = some [a,b,c]):putD (.ref n) (.int 0) v g=some (g.set n [v,b,c]):=by unfold putD;simp only[h];rfl
theorem put2 {g:G}{n:Nat}{a b c v:D}(h:g[n]? = some [a,b,c]):putD (.ref n) (.int 2) v g=some (g.set n [a,b,v]):=by unfold putD;simp only[h];rfl
def eG (f:Fn):Prop:=∀(n:Nat) (m:Int) (g:G) (B:Int),B<2 ^ 40->0<m->m<1073741824->Hd g n B ->
 ∃r g',f [.ref n,.int m] g=some (.int r,g')/\0<=r/\r<m/\Hd g' n (B+1)/\Fr n g g'
theorem eL:eG (ao false 6 2 qT):=λn m g B hB hm qw h=>by
 obtain⟨a,b,c,e,i,j,k,hc,Y9⟩:=h
 have o:n<g.length:=(Zr.mp e).1
 by_cases h0:0<a
 . refine⟨a % m,g.set n [.int (a / m),.int b,.int c],aQ (σ':=[some (.ref n),some (.int m),some (.int (a % m)),none,none,none]) rfl ?_ (by simp),adb _ (by omega),acw _ hm,⟨a / m,b,c,by simp[o],Int.ediv_nonneg i (by omega),j,k,hc,by omega⟩,Fr.set⟩
   simp[qT,e,tv,h0,fz hm,lR hm qw,U2 e]
 . have l:(g.set n [.int a,.int b,.int (c+1)])[n]? = some [.int a,.int b,.int (c+1)]:=by simp[o]
   generalize f:b*(48271+2*(c+1)*(c+1)+65537*(c+1)) % 2305843009213693921=x
   have Y_:0<=x:=by rw[<- f];exact adb _ (by decide)
   have Za:x<2305843009213693921:=by rw[<- f];exact acw _ (by decide)
   generalize v:x*(x % 1000003+(c+1)*99991+11) % 2305843009213693907=y
   refine⟨(y / 97+y / 1000033) % m,g.set n [.int a,.int b,.int (c+1)],aQ (σ':=[some (.ref n),some (.int m),none,some (.int (c+1)),some (.int y),some (.int (x % 1000003+(c+1)*99991+11))]) rfl ?_ (by simp),adb _ (by omega),acw _ hm,⟨a,b,c+1,l,i,j,k,by omega,by omega⟩,Fr.set⟩
   have q:dn 2 (c+1)=true:=iA (by decide) (by decide)
   have m2:dn (2*(c+1)) (c+1)=true:=oa (by omega) (by omega)
   have s:dn 65537 (c+1)=true:=iA (by decide) (by decide)
   have m4:dn b (48271+2*(c+1)*(c+1)+65537*(c+1))=true:=iA (by omega) (by omega)
   have u:dn (c+1) 99991=true:=oa (by decide) (by decide)
   have m6:dn x (x % 1000003+(c+1)*99991+11)=true:=iA (by omega) (by omega)
   have d1:cj (b*(48271+2*(c+1)*(c+1)+65537*(c+1))) 2305843009213693921=true:=fz (by decide)
   have d2:cj x 1000003=true:=fz (by decide)
   have r:cj (x*(x % 1000003+(c+1)*99991+11)) 2305843009213693907=true:=fz (by decide)
   have p:cj (y / 97+y / 1000033) m=true:=fz hm
   have q1:gm y 97=true:=lR (by decide) (by decide)
   have z:gm y 1000033=true:=lR (by decide) (by decide)
   simp[qT,e,tv,k9,at2,h0,put2 e,l,q,m2,s,m4,u,m6,d1,d2,r,p,q1,z,f,v]
theorem eG.w {f:Fn}(h:eG f){n:Nat}{m:Int}{g:G}{B:Int}{Q:D×G->Prop}(hB:B<2 ^ 40)(hm:0<m)(qw:m<1073741824)(hh:Hd g n B)(q:∀r g',0<=r->r<m->Hd g' n (B+1)->Fr n g g'->Q (.int r,g')):wp (f [.ref n,.int m] g) Q:=by
 obtain⟨r,g',e,a,i,c,b⟩:=h n m g B hB hm qw hh
 exact⟨_,e,q r g' a i c b⟩
def g_ (f:Fn):Prop:=∀(n:Nat) (xs:List D) (g:G) (B:Int),B<2 ^ 40->xs ≠ []->xs.length<1000->Hd g n B ->
 ∃d g',f [.ref n,.lst xs] g=some (d,g')/\d∈xs/\Hd g' n (B+1)/\Fr n g g'
theorem oe {t:Fn}(ht:eG t):g_ (ao false 2 2 (uu t)):=λn xs g B m f o h=>by
 have p:0<xs.length:=aaR.mpr f
 obtain⟨r,l,e,c,j,i,b⟩:=ht n (xs.length:Int) g B m (by omega) (by omega) h
 have a:r.toNat<xs.length:=by omega
 have k:bJ xs r=some xs[r.toNat]:=by
  unfold bJ j_
  rw[if_pos c,if_pos j]
  exact Zs a
 refine⟨xs[r.toNat],l,aQ (σ':=[some (.ref n),some (.lst xs)]) rfl ?_ b.1,Z2 a,i,b⟩
 simp[uu,e,k]
theorem g_.w {f:Fn}(h:g_ f){n:Nat}{xs:List D}{g:G}{B:Int}{Q:D×G->Prop}(hB:B<2 ^ 40)(hx:xs ≠ [])(hl:xs.length<1000)(hh:Hd g n B)(q:∀d g',d∈xs->Hd g' n (B+1)->Fr n g g'->Q (d,g')):wp (f [.ref n,.lst xs] g) Q:=by
 obtain⟨d,g',e,a,c,b⟩:=h n xs g B hB hx hl hh
 exact⟨_,e,q d g' a c b⟩
theorem RQ:jg 10 18=true:=by decide
theorem lj:jg 10 12=true:=by decide
def qU (f:Fn):Prop:=∀(ns:List Int) (i:Nat) (g:G),i<=100->∃xs,f [.lst (ns.map .int),.int i] g=some (.ref g.length,g ++ [xs])/\Hd (g ++ [xs]) g.length 0
section
variable {σ σ1:Sg}{g g1:G}{f:FE}{f1 f2:FS}{c:FT}{d:D}
theorem aK (h:f1 σ g=some (.nx,σ1,g1)):aw f1 f2 σ g=f2 σ1 g1:=by rw[nU,h];rfl
theorem qV (h:f1 σ g=some (.rt d,σ1,g1)):aw f1 f2 σ g=some (.rt d,σ1,g1):=by rw[nU,h];rfl
theorem hU {i:Nat}(h:f σ g=some (d,g1)):aC f (gN i) σ g=some (.nx,σ.set i (some d),g1):=by rw[dI,h];rfl
theorem U3 (h:c σ g=some (true,g1)):bu c f1 f2 σ g=f1 σ g1:=by rw[eF,h];rfl
theorem U4 (h:c σ g=some (false,g1)):bu c f1 f2 σ g=f2 σ g1:=by rw[eF,h];rfl
end
theorem aH {n:Nat}(h:n<=1000):aD n=true:=by
 rw[IK]
 exact decide_eq_true (by omega)
theorem Jv:qU (ao true 3 2 n_):=λns i g l=>by
 have fin:∀cell:Int,∃xs,(aF (aI mkRef (aa (ag dq (ab 2) (au pJ (aa (ag Bs (ab 2) (ag (cI jg (λi j=>i ^ j.toNat)) (fC (.int 10)) (fC (.int 18)))) (af)))) (aa (ag bC (ag bC (ag (cI cj (· % ·)) (ab 2) (fC (.int 2305843009213693951))) (ag dq (fC (.int 7919)) (ab 1))) (fC (.int 3))) (aa (fC (.int 0)) (af)))))) [some (.lst (ns.map .int)),some (.int i),some (.int cell)] g=some (.rt (.ref g.length),[some (.lst (ns.map .int)),some (.int i),some (.int cell)],g ++ [xs])/\Hd (g ++ [xs]) g.length 0:=by
   intro cell
   have m:0<=cell % 2305843009213693951:=adb _ (by decide)
   have q1:cell % 2305843009213693951<2305843009213693951:=acw _ (by decide)
   have c:cj cell 2305843009213693951=true:=fz (by decide)
   have f:dn 7919 (i:Int)=true:=iA (by decide) (by decide)
   by_cases hc:1000000000000000000<=cell
   . have b:dn cell 1=true:=oa (by decide) (by decide)
     refine⟨[.int cell,.int (cell % 2305843009213693951+7919*i+3),.int 0],by simp[RQ,hc,b,f,c],?_⟩
     exact⟨cell,cell % 2305843009213693951+7919*i+3,0,by simp,by omega,by omega,by omega,by omega,by omega⟩
   . have b:dn cell 0=true:=oa (by decide) (by decide)
     refine⟨[.int 0,.int (cell % 2305843009213693951+7919*i+3),.int 0],by simp[RQ,hc,b,f,c],?_⟩
     exact⟨0,cell % 2305843009213693951+7919*i+3,0,by simp,by omega,by omega,by omega,by omega,by omega⟩
 by_cases h:i<ns.length
 . obtain⟨xs,e,a⟩:=fin ns[i]
   refine⟨xs,kX (σ':=[some (.lst (ns.map .int)),some (.int i),some (.int ns[i])]) rfl ?_,a⟩
   unfold n_
   refine(aK (hU (d:=.int 0) (g1:=g) rfl)).trans ?_
   refine(aK (σ1:=[some (.lst (ns.map .int)),some (.int i),some (.int ns[i])]) (g1:=g) ((U3 (g1:=g) ?_).trans (hU ?_))).trans e
   . have:(i:Int)<(ns.length:Int):=by omega
     simp[this]
   . have k:bJ (ns.map D.int) (i:Int)=some (.int ns[i]):=HZ (by simp[h])
     simp[k]
 . obtain⟨xs,e,a⟩:=fin 0
   refine⟨xs,kX (σ':=[some (.lst (ns.map .int)),some (.int i),some (.int 0)]) rfl ?_,a⟩
   unfold n_
   refine(aK (hU (d:=.int 0) (g1:=g) rfl)).trans ?_
   refine(aK (σ1:=[some (.lst (ns.map .int)),some (.int i),some (.int 0)]) (g1:=g) ((U4 (g1:=g) ?_).trans rfl)).trans e
   have:¬(i:Int)<(ns.length:Int):=by omega
   simp[this]
theorem qU.w {f:Fn}(h:qU f){ns:List Int}{i:Nat}{g:G}{Q:D×G->Prop}(hi:i<=100)(q:∀xs,Hd (g ++ [xs]) g.length 0->Q (.ref g.length,g ++ [xs])):wp (f [.lst (ns.map .int),.int i] g) Q:=by
 obtain⟨xs,e,a⟩:=h ns i g hi
 exact⟨_,e,q xs a⟩
noncomputable def ic (i:Int)(n:Nat):List D:=(Zp n).map λ(k:Nat)=>D.int (i+k)
theorem d6 {i n}:(ic i n).length=n:=by simp[ic]
theorem lS {fr:FA}{σ:Sg}{g:G}{Q:List D×G->Prop}(h:wp (fr σ g) λr=>∃j:Int,r.1 = [.int j] /\ -1000000<=j/\j<=1000000/\Q (ic 0 j.toNat,r.2)):wp (dB fr σ g) Q:=by
 obtain⟨⟨ds,c⟩,e,j,rfl,a,b,q⟩:=h
 refine⟨_,?_,q⟩
 unfold dB
 rw[e]
 simp only[Zw]
 rw[if_pos (cE.of a b)]
 rfl
theorem Jw {i:Int}{n j:Nat}{d:D}(h:(ic i n)[j]? = some d):j<n/\d = .int (i+j):=by
 unfold ic at h
 rw[ZG]at h
 cases hj:(Zp n)[j]? with
 |none=>rw[hj]at h;cases h
 |some x =>
  rw[hj]at h
  have a:=(Zr.mp hj).1
  have:x=j:=by rw[aac (by simpa using a)]at hj;cases hj;rfl
  subst this
  cases h
  exact⟨by simpa using a,rfl⟩
theorem iB {n j:Nat}{d:D}(h:(ic 0 n)[j]? = some d):j<n/\d = .int j:=by
 obtain⟨a,rfl⟩:=Jw h
 exact⟨a,by simp⟩
def Clean (g:G):Prop:=∀xs∈g,∀n,aX n xs=true
theorem Clean.fr {n:Nat}{g g':G}{B:Int}(hc:Clean g)(f:Fr n g g')(h:Hd g' n B):Clean g':=by
 intro xs k m
 obtain⟨j,i⟩:=aah.mp k
 by_cases e:j=n
 . subst e
   obtain⟨a,b,c,l,_⟩:=h
   rw[l]at i
   cases i
   simp[aX,b5]
 . rw[f.2 j e]at i
   exact hc xs (aah.mpr ⟨j,i⟩) m
theorem Clean.app {g:G}{xs:List D}{B:Int}(hc:Clean g)(h:Hd (g ++ [xs]) g.length B):Clean (g ++ [xs]):=by
 obtain⟨a,b,c,f,_⟩:=h
 simp at f
 subst f
 intro i e m
 rcases ZN.mp e with e|e
 . exact hc i e m
 . simp at e
   subst e
   simp[aX,b5]
theorem Clean.all {g:G}(hc:Clean g)(n:Nat):g.all (aX n)=true:=ZY.mpr λxs a=>hc xs a n
theorem iC {n:Nat}:∀{xs:List D},(∀x∈xs,b5 n x=true)->aX n xs=true
 | [],_=>rfl
 |x::xs,h=>by
  simp only[aX,Zv]
  exact⟨h x (by simp),iC λy a=>h y (by simp[a])⟩
theorem cu {xs:List D}{n:Nat}{d:D}(h:xs[n]? = some d):bJ xs (n:Int)=some d:=by
 have c:=(Zr.mp h).1
 have a:(0:Int)<=n:=by omega
 have b:(n:Int)<(xs.length:Int):=by omega
 unfold bJ j_
 rw[if_pos a,if_pos b]
 simpa using h
theorem iM {a b:D}:bJ [a,b] 0=some a:=rfl
theorem iN {a b:D}:bJ [a,b] 1=some b:=rfl
theorem ints_map:∀vs:List Int,et (vs.map .int)=some vs
 | []=>rfl
 |v::vs=>by simp[et,ints_map vs]
structure Mk (g gg:G)(n:Nat)(B:Int)(xs:List D):Prop where
 hd:Hd gg n B
 lt:n<g.length
 len:gg.length=g.length+1
 at_:gg[g.length]? = some xs
 old:∀j,j≠n->j<g.length->gg[j]? = g[j]?
theorem Mk.init {g:G}{n:Nat}{B:Int}{xs:List D}(h:Hd g n B):Mk g (g ++ [xs]) n B xs:=by
 have e:=h.lt
 obtain⟨a,b,c,i,k⟩:=h
 exact⟨⟨a,b,c,by rw[Zx e];exact i,k⟩,e,by simp,by simp,λj _ f=>Zx f⟩
theorem Mk.step {g gg g':G}{n:Nat}{B B':Int}{xs:List D}(m:Mk g gg n B xs)(h:Hd g' n B')(f:Fr n gg g'):Mk g g' n B' xs:=by
 have:=m.lt
 exact⟨h,m.lt,by rw[f.1];exact m.len,by rw[f.2 _ (by omega)];exact m.at_,λj a b=>by rw[f.2 j a];exact m.old j a b⟩
theorem Mk.put {g gg:G}{n:Nat}{B:Int}{xs ys:List D}(m:Mk g gg n B xs):Mk g (gg.set g.length ys) n B ys:=by
 have k:=m.lt
 have e:=m.len
 obtain⟨a,b,c,l,f⟩:=m.hd
 refine⟨⟨a,b,c,by rw[ZT (by omega)];exact l,f⟩,k,by simp[e],by simp[e],λj i h=>by rw[ZT (by omega)];exact m.old j i h⟩
theorem Mk.mono {g gg:G}{n:Nat}{B B':Int}{xs:List D}(m:Mk g gg n B xs)(h:B<=B'):Mk g gg n B' xs:=⟨m.hd.mono h,m.lt,m.len,m.at_,m.old⟩
theorem Mk.fin {g gg:G}{n:Nat}{B:Int}{xs:List D}(m:Mk g gg n B xs):Hd (gg.take g.length) n B/\Fr n g (gg.take g.length):=by
 have h:=m.lt
 have i:=m.len
 obtain⟨a,b,c,k,e⟩:=m.hd
 refine⟨⟨a,b,c,by rw[aan h];exact k,e⟩,by simp[i],λj f=>?_⟩
 by_cases hl:j<g.length
 . rw[aan hl];exact m.old j f hl
 . rw[Z6 (by simp;omega),Z6 (by omega)]
end Pd
namespace Bx
open PySem L3 L2 Pd
abbrev Es:=List (Str×List Int×D)
noncomputable def kd (q:Str×List Int):D:=.tup (.str q.1::q.2.map .int)
noncomputable def ent (e:Str×List Int×D):D:=.tup [kd (e.1,e.2.1),e.2.2]
noncomputable def ky (e:Str×List Int×D):Str×List Int:=(e.1,e.2.1)
theorem Nh:∀is js:List Int,eh (is.map D.int) (js.map .int)=decide (is=js)
 | [],[]=>rfl
 | [],_::_=>rfl
 |_::_,[]=>rfl
 |i::is,j::js=>by
  simp only[Z9,eh,Nh is js,aB]
  rw[ade]
  simp
theorem Cq (a b:Str×List Int):aB (kd a) (kd b)=decide (a=b):=by
 obtain⟨a1,a2⟩:=a
 obtain⟨c,e⟩:=b
 simp only[kd,aB,eh,Nh]
 rw[ade]
 simp
theorem tx {n:Nat}:∀is:List Int,gQ n (is.map .int)=true
 | []=>by cases n<;>rfl
 |i::is=>by
  cases n<;>simp only[Z9,gQ,tx is,aY,adH]
theorem rZ (q:Str×List Int):aY 6 (kd q)=true:=by
 have:=tx (n:=5) q.2
 simp only[kd,aY,gQ,this,adH]
theorem qW:∀is:List Int,aN (is.map .int)=true
 | []=>rfl
 |i::is=>by simp[aN,flat,qW is]
theorem tE:∀is:List Int,bS (is.map .int)=0
 | []=>rfl
 |i::is=>by simp[bS,dep,tE is]
theorem og (q:Str×List Int):flat (kd q)=true:=by simp[kd,flat,aN,qW]
theorem Cr (q:Str×List Int):dep (kd q)=1:=by simp[kd,dep,bS,tE]
def Ct (es:Es):Prop:=∀e∈es,flat e.2.2=true/\dep e.2.2<=5
theorem bH:∀{xs:List D},(∀x∈xs,flat x=true)->aN xs=true
 | [],_=>rfl
 |x::xs,h=>by simp only[aN,Zv];exact⟨h x (by simp),bH λy a=>h y (by simp[a])⟩
theorem nu:∀{xs:List D},aN xs=true->∀x∈xs,flat x=true
 | [],_,x,hx=>by simp at hx
 |y::xs,h,x,hx=>by
  simp only[aN,Zv]at h
  rcases ZI.mp hx with rfl|hx
  . exact h.1
  . exact nu h.2 x hx
theorem d7 {k:Nat}:∀{xs:List D},(∀x∈xs,dep x<=k)->bS xs<=k
 | [],_=>aab _
 |x::xs,h=>by
  have b:=h x (by simp)
  have c:=d7 (xs:=xs) λy a=>h y (by simp[a])
  simp only[bS];omega
mutual
theorem fA {n:Nat}:∀d:D,flat d=true->b5 n d=true
 |.aq,_=>rfl
 |.bl _,_=>rfl
 |.int _,_=>rfl
 |.str _,_=>rfl
 |.tup xs,h=>by simpa[b5]using cG xs (by simpa[flat]using h)
 |.lst xs,h=>by simpa[b5]using cG xs (by simpa[flat]using h)
 |.de,h=>by cases h
 |.ref _,h=>by cases h
 |.ax _,h=>by cases h
 |.fn _,h=>by cases h
theorem cG {n:Nat}:∀ds:List D,aN ds=true->aX n ds=true
 | [],_=>rfl
 |d::ds,h=>by
  simp only[aN,Zv]at h
  simp only[aX,Zv]
  exact⟨fA d h.1,cG ds h.2⟩
end
theorem wC {es:Es}(h:Ct es):aN (es.map ent)=true:=bH λx a=>by
 obtain⟨e,he,rfl⟩:=Z8.mp a
 simp[ent,flat,aN,og,(h e he).1]
theorem yz {es:Es}(h:Ct es):bS (es.map ent)<=6:=d7 λx a=>by
 obtain⟨e,he,rfl⟩:=Z8.mp a
 have:=(h e he).2
 simp[ent,dep,bS,Cr];omega
theorem yA {fin:Bool}:∀is js:List Int,((d5 fin (is.map .int) (js.map .int)).isSome)=true
 | [],_=>by unfold d5;rfl
 |_::_,[]=>by unfold d5;rfl
 |i::is,j::js=>by
  simp only[Z9,d5]
  split
  . exact yA is js
  . simp[ltN]
theorem yB (a b:Str×List Int):((ltN (kd a) (kd b)).isSome)=true:=by
 simp only[kd,ltN,d5]
 split
 . exact yA _ _
 . simp[ltN]
theorem Cu {es:Es}(h:(es.map ky).Nodup):∀{a b},a∈es->b∈es->ky a=ky b->a=b:=by
 induction es with
 |nil=>intro a b c;simp at c
 |cons e es ih =>
  intro a b c i f
  simp only[Z9,aaS]at h
  rcases ZI.mp c with e1|h1<;>rcases ZI.mp i with e2|h2
  . exact e1.trans e2.symm
  . exact absurd (by rw[<- e1,f];exact aci h2) h.1
  . exact absurd (by rw[<- e2,<- f];exact aci h1) h.1
  . exact ih h.2 h1 h2 f
theorem lg {es:Es}(h:(es.map ky).Nodup)(hc:Ct es)(hl:es.length<64):qN (es.map ent)=true:=by
 have hd:=yz hc
 have i:∀x∈es.map ent,i4 x=some 0:=λx c=>by
   obtain⟨e,he,rfl⟩:=Z8.mp c
   rfl
 simp only[qN,Zv,decide_eq_true_eq,aaa,ZY,beq_iff_eq]
 refine⟨⟨⟨⟨by simpa using hl,wC hc⟩,by omega⟩,.inr (.inr (.inl i))⟩,λx c y k=>?_⟩
 obtain⟨a,f,rfl⟩:=Z8.mp c
 obtain⟨b,j,rfl⟩:=Z8.mp k
 simp only[ent,ltN,d5]
 split
 . rename_i q
   rw[Cq,decide_eq_true_eq]at q
   have e:=Cu h f j q
   subst e
   rw[if_pos (gv _ (hc a f).1)]
   rfl
 . exact yB _ _
noncomputable def bq:Es->List D
 | []=>[]
 |e::es=>kd (ky e)::e.2.2::bq es
theorem yC:∀(es:Es) (e:Str×List Int×D),bq (es ++ [e])=bq es ++ [kd (ky e),e.2.2]
 | [],e=>rfl
 |x::es,e=>by simp[bq,yC es e]
theorem r6:∀es:Es,(bq es).length=2*es.length
 | []=>rfl
 |x::es=>by simp[bq,r6 es];omega
theorem yD {q:Str×List Int}{c:D}:∀es:Es,q ∉ es.map ky->bj (bq es) (kd q) c=bq es ++ [kd q,c]
 | [],_=>rfl
 |x::es,h=>by
  simp only[Z9,ZI,not_or]at h
  simp only[bq,bj,Cq]
  rw[if_neg (by simpa using λz=>h.1 z.symm),yD es h.2]
  rfl
theorem nz {e:Str×List Int×D}:∀{es:Es},(es.map ky).Nodup->e∈es->bg (bq es) (kd (ky e))=some e.2.2
 | [],_,h=>by simp at h
 |x::es,nd,h=>by
  simp only[Z9,aaS]at nd
  simp only[bq,bg,Cq]
  rcases ZI.mp h with rfl|h
  . rw[if_pos (by simp)]
  . rw[if_neg (by simp only[decide_eq_true_eq];exact λz=>nd.1 (by rw[z];exact aci h))]
    exact nz nd.2 h
theorem wD {n:Nat}:∀(fs es:Es) (g:G),g[n]? = some (bq es)->(((es++fs)).map ky).Nodup->es.length+fs.length<=100->putAll n (fs.map λe=>(kd (ky e),e.2.2)) g=some (g.set n (bq (es++fs)))
 | [],es,g,hg,_,_=>by
  have:g.set n (bq es)=g:=by
   apply aav
   intro i
   by_cases h:i=n
   . subst h;rw[ZL (Zr.mp hg).1,hg]
   . rw[ZT (abg h)]
  simp[putAll,this]
 |f::fs,es,g,hg,nd,hl=>by
  have b:=(Zr.mp hg).1
  have c:ij (bq es)=true:=by unfold ij;exact aH (by rw[r6];simp at hl;omega)
  have a:ky f ∉ es.map ky:=λhm=>by
   rw[List.map_append,abS]at nd
   exact nd.2.2 _ hm _ (by simp) rfl
  have:=wD fs (es ++ [f]) (g.set n (bq (es ++ [f]))) (ZL b) (by simpa using nd) (by simp at hl ⊢;omega)
  simp only[Z9,putAll,EM,hg,Zw,rZ,c,adJ,if_true,yD es a]
  rw[<- yC,this,adf]
  simp
theorem wF:∀es:Es,eB (es.map ent)=some (es.map λe=>(kd (ky e),e.2.2))
 | []=>rfl
 |e::es=>by simp[eB,ent,rY,wF es,ky]
theorem Jx {es:Es}{g:G}(nd:(es.map ky).Nodup)(hl:es.length<=100):nk [.tup (es.map ent)] g=some (.ax g.length,g ++ [bq es]):=by
 have:=wD (n:=g.length) es [] (g ++ [[]]) (by simp[bq]) (by simpa using nd) (by simpa using hl)
 simp only[nk,wF,Zw,this]
 simp
end Bx
namespace Bx
open PySem L3 L2 Pd RI
noncomputable def U5:List (Str×D):=[("once",.tup [.str "hands"]),("twice",.tup [.str "hands",.str "turn"]),("handed",.tup [.str "hands",.str "turn",.str "moves"]),("signs",.tup [.str "hands",.str "toggles",.str "shakes",.str "moves"]),("shared",.tup [.str "hands",.str "places",.str "toggles",.str "shakes",.str "moves"]),("tables",.tup [.str "hands",.str "boxes"])]
noncomputable def r_:FS:=aF (ag ak (ab 0) (ag bC (fC (.int 1)) (ug U5 (ag ak (ab 0) (fC (.int 0))) (ab 1))))
noncomputable def lp (num:Fn):FS:=aF (au num (aa (ab 0) (aa (fC (.str "hands")) af)))
noncomputable def gG (num hands:Fn):FS:=aw (bu (ay (ag oEq (ag ak (ab 0) (fC (.int 0))) (fC (.str "shared")))) (aF (au num (aa (ab 0) (aa (fC (.str "places")) af)))) aO) (aF (au hands (aa (ab 0) af)))
noncomputable def jU (places:Fn):FS:=aw (aC (iY (ay (ag oEq (ag ak (ab 0) (fC (.int 0))) (fC (.str "shared")))) (fC (.str "box")) (fC (.str "own"))) (gN 1)) (aF (au dG (aa (bP b4 (dB (aa (au places (aa (ab 0) af)) af)) [none,none,some 1] (gN 1) bp (aI aA (aa (ab 2) (aa (ab 1) af)))) af)))
noncomputable def nA (listed:Fn):FS:=aF (au dG (aa (au qO (aa (au listed (aa (ab 0) af)) af)) af))
noncomputable def nB (hands zeros:Fn):FS:=aw (aC (ag ak (ab 0) (fC (.int 0))) (gN 1)) (aw (bu (ay (ag oEq (ab 1) (fC (.str "once")))) (aF (fC (.int 0))) aO) (aw (bu (ay (ag oEq (ab 1) (fC (.str "twice")))) (aF (aI aA (aa (fC (.int 0)) (aa (fC (.int 0)) af)))) aO) (aw (aC (au zeros (aa (au hands (aa (ab 0) af)) af)) (gN 2)) (aw (bu (ay (ag oEq (ab 1) (fC (.str "handed")))) (aF (aI aA (aa (fC (.int 0)) (aa (fC (.int 0)) (aa (ab 2) af))))) aO) (aF (aI aA (aa (fC (.int 0)) (aa (ab 2) (aa (fC (.int 0)) (aa (ab 2) af))))))))))
noncomputable def lq:FS:=aF (bP b4 (dB (aa (ab 1) af)) [none,none,some 2,some 0] (gN 1) bp (aI aA (aa (aI aA (aa (ab 3) (aa (ab 1) af))) (aa (ab 2) af))))
noncomputable def qX:FS:=aF (ag dq (aI aA (aa (fC (.int 0)) af)) (ab 0))
theorem z1:aD 1=true:=rfl
theorem z2:aD 2=true:=rfl
theorem z3:aD 3=true:=rfl
theorem z4:aD 4=true:=rfl
theorem bQ {a:D}{r:List D}:bJ (a::r) 0=some a:=by unfold bJ j_;simp
noncomputable def tF (w:Str)(p:Nat)(c:D):Es:=(Zp p).map λ(j:Nat)=>(w,[(j:Int)],c)
noncomputable def U6 (w:Str)(n i:Nat):Es:=((Zp n).filter λj=>decide (j≠i)).map λ(j:Nat)=>(w,[(i:Int),(j:Int)],.int 0)
noncomputable def Ni (w:Str)(n:Nat):Es:=(Zp n).flatMap λi=>U6 w n i
noncomputable def RS (b:Int)(ws:List Str)(n:Nat):Es:=if b=1 then ws.flatMap λw=>Ni w n else []
noncomputable def zs (n:Nat):D:=.tup (Zo n (.int 0))
def EN (f:Fn):Prop:=∀(w:Str) (p:Nat) (c:D) (g:G),p<=20->f [.str w,.int p,c] g=some (.lst ((tF w p c).map ent),g)
theorem Cv:EN (ao false 3 3 lq):=λw p c g i=>by
 have key:wp (ao false 3 3 lq [.str w,.int p,c] g) λq=>q=(.lst ((tF w p c).map ent),g):=by
  refine wp_run rfl ?_
  have zn:aD p=true:=aH (by omega)
  simp[lq]
  refine lS ?_
  simp[d6,zn]
  refine⟨by omega,?_⟩
  refine jN (λj acc σ a=>(∃b,σ = [none,b,some c,some (.str w)])/\acc=(tF w j c).map ent/\a=g) _ 0 _ _ [] ⟨⟨none,rfl⟩,rfl,rfl⟩ ?_ ?_
  . rintro j d acc σ a f ⟨⟨b,rfl⟩,rfl,rfl⟩
    obtain⟨h,rfl⟩:=iB f
    simp[z2,tF,ack,ent,kd]
  . rintro xs σ a ⟨_,e,rfl⟩
    simp[d6]at e
    subst e
    simp
 obtain⟨q,e,rfl⟩:=key
 exact e
theorem Cw {g:G}{xs:List D}(cg:Clean g)(h:aN xs=true):Clean (g ++ [xs]):=λb a n=>by
 rcases ZN.mp a with a|a
 . exact cg b a n
 . simp at a;subst a;exact cG _ h
inductive Mn:D->Nat->Nat->Str->D->Es->Prop
 |once (n:Nat):n<=5->Mn (.tup [.str "once",.int n]) n n "own" (.int 0) []
 |twice (n:Nat) (t:Int):n<=5->Mn (.tup [.str "twice",.int n,.int t]) n n "own" (.tup [.int 0,.int 0]) []
 |handed (n:Nat) (t m:Int):n<=5->Mn (.tup [.str "handed",.int n,.int t,.int m]) n n "own" (.tup [.int 0,.int 0,zs n]) []
 |signs (n:Nat) (a b m:Int):n<=5->Mn (.tup [.str "signs",.int n,.int a,.int b,.int m]) n n "own" (.tup [.int 0,zs n,.int 0,zs n]) (RS b ["sign"] n)
 |shared (n p:Nat) (a b m:Int):n<=5->p<=5->Mn (.tup [.str "shared",.int n,.int p,.int a,.int b,.int m]) n p "box" (.tup [.int 0,.int (-1),.int 0]) (tF "view" n (zs p)++RS b ["call","sign"] n)
theorem Mn.le {d n p w c r}(M:Mn d n p w c r):n<=5/\p<=5:=by cases M<;>exact⟨by assumption,by assumption⟩
theorem Cy {d n p w c r g}(M:Mn d n p w c r):ao false 2 2 r_ [d,.str "hands"] g=some (.int n,g):=by
 cases M<;>exact aQ (σ':=[some _,some (.str "hands")]) rfl rfl rfl
theorem Af {n p:Nat}{a b m:Int}{g:G}:ao false 2 2 r_ [.tup [.str "shared",.int n,.int p,.int a,.int b,.int m],.str "places"] g=some (.int p,g):=aQ (σ':=[some _,some (.str "places")]) rfl rfl rfl
theorem pV {d n p w c r g}(M:Mn d n p w c r):ao false 1 1 (lp (ao false 2 2 r_)) [d] g=some (.int n,g):=by
 refine aQ (σ':=[some d]) rfl ?_ rfl
 simp[lp,Cy M]
theorem u1:¬(Zt "once" = Zt "shared"):=by decide
theorem u2:¬(Zt "twice" = Zt "shared"):=by decide
theorem u3:¬(Zt "handed" = Zt "shared"):=by decide
theorem u4:¬(Zt "signs" = Zt "shared"):=by decide
theorem y2:¬(Zt "twice" = Zt "once"):=by decide
theorem y3:¬(Zt "handed" = Zt "once"):=by decide
theorem y4:¬(Zt "signs" = Zt "once"):=by decide
theorem w3:¬(Zt "handed" = Zt "twice"):=by decide
theorem w4:¬(Zt "signs" = Zt "twice"):=by decide
theorem t4:¬(Zt "signs" = Zt "handed"):=by decide
theorem tG {d n p w c r g}(M:Mn d n p w c r):ao false 1 1 (gG (ao false 2 2 r_) (ao false 1 1 (lp (ao false 2 2 r_)))) [d] g=some (.int p,g):=by
 have h:=pV (g:=g) M
 refine aQ (σ':=[some d]) rfl ?_ rfl
 cases M with
 |once n h1=>simp[gG,bQ,u1,h]
 |twice n t h1=>simp[gG,bQ,u2,h]
 |handed n t m h1=>simp[gG,bQ,u3,h]
 |signs n a b m h1=>simp[gG,bQ,u4,h]
 |shared n p a b m h1 h2=>simp[gG,bQ,Af]
def EO (f:Fn):Prop:=∀{d n p w c r} {g:G},Mn d n p w c r->f [d] g=some (.int p,g)
def oh (f:Fn):Prop:=∀{d n p w c r} {g:G},Mn d n p w c r->f [d] g=some (.int n,g)
noncomputable def keys (w:Str)(p:Nat):List D:=(Zp p).map λ(j:Nat)=>kd (w,[(j:Int)])
theorem Ag {pl:Fn}(hp:EO pl){d n p w c r}{g:G}(M:Mn d n p w c r):ao false 2 1 (jU pl) [d] g=some (.tup (keys w p),g):=by
 have hle:=M.le
 have main:∀(σ0:Sg),wp (bP b4 (dB (aa (au pl (aa (ab 0) af)) af)) [none,none,some 1] (gN 1) bp (aI aA (aa (ab 2) (aa (ab 1) af))) [some d,some (.str w)] g) λq=>q=(.lst (keys w p),g):=by
  intro _
  have zn:aD p=true:=aH (by omega)
  simp
  refine lS ?_
  simp[hp M,d6,zn]
  refine⟨by omega,?_⟩
  refine jN (λj acc σ f=>(∃h,σ = [none,h,some (.str w)])/\acc=keys w j/\f=g) _ 0 _ _ [] ⟨⟨none,rfl⟩,rfl,rfl⟩ ?_ ?_
  . rintro j d acc σ f i ⟨⟨h,rfl⟩,rfl,rfl⟩
    obtain⟨l,rfl⟩:=iB i
    simp[z2,keys,ack,kd]
  . rintro xs σ f ⟨_,e,rfl⟩
    simp[d6]at e
    subst e
    exact⟨rfl,rfl⟩
 obtain⟨q,e,rfl⟩:=main []
 have k:aD (keys w p).length=true:=aH (by simp[keys];omega)
 have hw:(iY (ay (ag oEq (ag ak (ab 0) (fC (.int 0))) (fC (.str "shared")))) (fC (.str "box")) (fC (.str "own"))) [some d,none] g=some (.str w,g):=by
  cases M with
  |once n h1=>simp[bQ,u1]
  |twice n t h1=>simp[bQ,u2]
  |handed n t m h1=>simp[bQ,u3]
  |signs n a b m h1=>simp[bQ,u4]
  |shared n p a b m h1 h2=>simp[bQ]
 refine aQ (σ':=[some d,some (.str w)]) rfl ?_ rfl
 simp only[jU,Z9,ac5,acP,abp,Zo]
 rw[nU,dI,hw]
 simp only[Zw,Pr,acs,ady,kW,gw,cD,e,ck,IM,IL,k,if_true]
def yE (f:Fn):Prop:=∀(n:Nat) (g:G),n<=20->f [.int n] g=some (zs n,g)
theorem ER:yE (ao false 1 1 qX):=λn g a=>by
 refine aQ (σ':=[some (.int n)]) rfl ?_ rfl
 have:=Ee (g:=g) (xs:=[D.int 0]) (k:=(n:Int)) (by omega) (by omega) (by simp)
 simp at this
 simp[qX,z1,this,zs]
theorem QF (n:Nat):flat (zs n)=true/\dep (zs n)<=1:=by
 constructor
 . exact bH λx a=>by rw[ad8 a];rfl
 . have:bS (Zo n (D.int 0))<=0:=d7 λx a=>by rw[ad8 a];simp[dep]
   simp only[zs,dep];omega
theorem Nj {hd zr:Fn}(hh:oh hd)(hz:yE zr){d n p w c r}{g:G}(M:Mn d n p w c r)(hw:w = "own"):ao false 3 1 (nB hd zr) [d] g=some (c,g):=by
 have h:=hh (g:=g) M
 have f:=M.le
 have key:wp (ao false 3 1 (nB hd zr) [d] g) λq=>q=(c,g):=by
  refine wp_run rfl ?_
  cases M with
  |once n h1=>simp[nB,bQ]
  |twice n t h1=>simp[nB,bQ,y2,z2]
  |handed n t m h1=>simp[nB,bQ,y3,w3,z3,h,hz n g (by omega)]
  |signs n a b m h1=>simp[nB,bQ,y4,w4,t4,z4,h,hz n g (by omega)]
  |shared n p a b m h1 h2=>exact absurd hw (by decide)
 obtain⟨q,e,rfl⟩:=key
 exact e
noncomputable def kk (w:Str)(p:Nat):List (Str×List Int):=(Zp p).map λ(j:Nat)=>(w,[(j:Int)])
theorem Jy {w:Str}{p j:Nat}{d:D}(h:(keys w p)[j]? = some d):j<p/\d=kd (w,[(j:Int)]):=by
 unfold keys at h
 rw[ZG]at h
 cases e:(Zp p)[j]? with
 |none=>rw[e]at h;cases h
 |some x =>
  rw[e]at h;cases h
  have a:=(Zr.mp e).1
  rw[aac (by simpa using a)]at e
  cases e
  exact⟨by simpa using a,rfl⟩
end Bx
namespace Pd
open PySem L3 L2
theorem nC {g:G}{p:Nat}{xs:List D}{i:Nat}{v:D}(h:g[p]? = some xs)(hi:i<xs.length):putD (.ref p) (.int i) v g=some (g.set p (xs.set i v)):=by
 have a:j_ xs.length (i:Int)=some i:=by
  unfold j_
  rw[if_pos (by omega),if_pos (by omega)]
  simp
 unfold putD
 simp only[h,a]
end Pd
namespace Wd
open PySem L3 L2 RI
open Pd
noncomputable def jU (XR:Fn):FS:=aw (aC (aI mkRef af) (gN 3)) (aw (gr (dB (aa (ab 2) af)) (gN 4) (fG (eA isRef dJ (ab 3) (aa (au XR (aa (ab 0) (aa (aI aA (aa (ab 1) (aa (ab 4) af))) af))) af)))) (aF (ab 3)))
noncomputable def lp (take pick:Fn):FS:=aF (au pick (aa (ab 0) (aa (aI cx (aa (fC (.int 1)) (aa (fC (.int 2)) (aa (fC (.int 2)) (aa (fC (.int 3)) (aa (fC (.int 3)) (aa (fC (.int 2)) (aa (fC (.int 3)) (aa (ag bC (fC (.int 4)) (au take (aa (ab 0) (aa (fC (.int 2)) af)))) af))))))))) af)))
noncomputable def oo (take pick:Fn):FS:=aw (aC (au take (aa (ab 0) (aa (fC (.int 8)) af))) (gN 1)) (aw (bu (ay (ag oEq (ab 1) (fC (.int 0)))) (aF (aI aA (aa (au take (aa (ab 0) (aa (fC (.int 5)) af))) (aa (aI aA (aa (ag (cI kh (· - ·)) (au take (aa (ab 0) (aa (fC (.int 3)) af))) (fC (.int 1))) (aa (aI aA af) af))) af)))) aO) (aw (bu (ay (ag oEq (ab 1) (fC (.int 1)))) (aF (au pick (aa (ab 0) (aa (aI cx (aa (Gf zI (fC (.int 1))) (aa (ag (cI kh (· - ·)) (ag (cI jg (λi j=>i ^ j.toNat)) (fC (.int 10)) (fC (.int 12))) (fC (.int 1))) (aa (ag (cI kh (· - ·)) (fC (.int 1)) (ag (cI jg (λi j=>i ^ j.toNat)) (fC (.int 10)) (fC (.int 12)))) (aa (aI aA af) (aa (aI aA (aa (fC (.int 0)) af)) af)))))) af)))) aO) (aF (au take (aa (ab 0) (aa (fC (.int 7)) af))))))
noncomputable def i5:List D->Bool
 |k::_::r=>aY 6 k&&i5 r
 | []=>true
 |_=>false
theorem tH {k v:D}(hk:aY 6 k=true):∀{xs:List D},i5 xs=true->bg (bj xs k v) k=some v
 | [],_=>by simp only[bj,bg];rw[if_pos ((DK.fq k k hk hk).mpr rfl)]
 | [_],h=>by cases h
 |a::b::r,h=>by
  simp only[i5,Zv]at h
  simp only[bj]
  by_cases e:aB a k=true
  . rw[if_pos e];simp only[bg];rw[if_pos e]
  . rw[if_neg e];simp only[bg];rw[if_neg e];exact tH hk h.2
theorem yF {k k' v:D}(hk:aY 6 k=true)(Gj:aY 6 k'=true)(n:k≠k'):∀{xs:List D},i5 xs=true->bg (bj xs k v) k'=bg xs k'
 | [],_=>by simp only[bj,bg];rw[if_neg λz=>n ((DK.fq k k' hk Gj).mp z)]
 | [_],h=>by cases h
 |a::b::r,h=>by
  simp only[i5,Zv]at h
  simp only[bj]
  by_cases e:aB a k=true
  . have f:=(DK.fq a k h.1 hk).mp e
    subst f
    have c:¬aB a k'=true:=λz=>n ((DK.fq a k' hk Gj).mp z)
    rw[if_pos e]
    simp only[bg]
    rw[if_neg c,if_neg c]
  . rw[if_neg e]
    simp only[bg]
    rw[yF hk Gj n h.2]
theorem wG {k v:D}(hk:aY 6 k=true):∀{xs:List D},i5 xs=true->i5 (bj xs k v)=true
 | [],_=>by simp[bj,i5,hk]
 | [_],h=>by cases h
 |a::b::r,h=>by
  simp only[i5,Zv]at h
  simp only[bj]
  split
  . simp[i5,h]
  . simp[i5,h,wG hk h.2]
section
variable {g:G}{w h b s r:Nat}{l:Int}{ex bx st rd mv:List D}{key c:D}
theorem cw {x:Str}:aY 6 (.str x)=true:=rfl
end
theorem wH {n:Nat}{k v:D}(hk:b5 n k=true)(hv:b5 n v=true):∀{xs:List D},aX n xs=true->aX n (bj xs k v)=true
 | [],_=>by simp[bj,aX,hk,hv]
 | [_],_=>by simp[bj,aX,hk,hv]
 |a::b::r,h=>by
  simp only[aX,Zv]at h
  simp only[bj]
  split
  . simp[aX,h,hv]
  . simp[aX,h,wH hk hv h.2.2]
noncomputable def own (nm:Str)(j:Nat):D:=.tup [.str nm,.int j]
def Bd (g:G):Prop:=∀(i:Nat) xs,g[i]? = some xs->aX g.length xs=true
def vG (d:D):Prop:=flat d=true/\dep d<=3
def Cz (f:Fn):Prop:=∀n g B,B+3<2 ^ 40->Hd g n B->∃d g',f [.ref n] g=some (d,g')/\vG d/\Hd g' n (B+3)/\Fr n g g'
theorem Jz {take pick:Fn}(ht:eG take)(hp:g_ pick):Cz (ao false 2 1 (oo take pick)):=λn g B s hd=>by
 have key:wp (ao false 2 1 (oo take pick) [.ref n] g) λq=>vG q.1/\Hd q.2 n (B+3)/\Fr n g q.2:=by
  refine wp_run rfl ?_
  simp[oo]
  refine ht.w (by omega) (by decide) (by decide) hd λr g1 h c b f1=>?_
  simp
  by_cases h0:r=0
  . subst h0
    simp
    refine ht.w (by omega) (by decide) (by decide) b λk g2 h c hd2 f2=>?_
    simp
    refine ht.w (by omega) (by decide) (by decide) hd2 λp g3 h c m i=>?_
    have z2:aD 2=true:=rfl
    have f:aD 0=true:=rfl
    simp[z2,f]
    exact⟨(f1.trans (f2.trans i)).1,⟨by simp[flat,aN],by simp[dep,bS]⟩,m.mono (by omega),f1.trans (f2.trans i)⟩
  . by_cases a:r=1
    . subst a
      have z5:aD 5=true:=rfl
      have f:aD 0=true:=rfl
      have z1:aD 1=true:=rfl
      simp[z5,f,z1,lj]
      refine hp.w (by omega) (by simp) (by simp) b λd g2 hm hd2 f2=>?_
      refine⟨(f1.trans f2).1,?_,hd2.mono (by omega),f1.trans f2⟩
      simp only[ZI,abH,or_false]at hm
      rcases hm with rfl|rfl|rfl|rfl|rfl<;>exact⟨by simp[flat,aN],by simp[dep,bS]⟩
    . simp[h0,a]
      refine ht.w (by omega) (by decide) (by decide) b λk g2 h c hd2 f2=>?_
      exact⟨(f1.trans f2).1,⟨by simp[flat],by simp[dep]⟩,hd2.mono (by omega),f1.trans f2⟩
 obtain⟨⟨d,o⟩,e,a,j,l⟩:=key
 exact⟨d,o,e,a,j,l⟩
def oh (f:Fn):Prop:=∀n g B,B+2<2 ^ 40->Hd g n B->∃(k:Nat) (g':G),f [.ref n] g=some (.int k,g')/\1<=k/\k<=5/\Hd g' n (B+2)/\Fr n g g'
end Wd
namespace Dw
open PySem L3 L2 Pd RI Bx
noncomputable def GU (take value:Fn):FS:=bu (ay (ag oLt (au take (aa (ab 0) (aa (fC (.int 5)) af))) (fC (.int 3)))) (aw (aC (ab 2) (gN 5)) (aw (bu (ay (ag oEq (ag ak (ab 1) (fC (.int 0))) (fC (.str "shared")))) (aC (au take (aa (ab 0) (aa (ag ak (ab 1) (fC (.int 2))) af))) (gN 5)) aO) (fG (eA isRef dJ (ab 4) (aa (aI aA (aa (fC (.str "put")) (aa (ab 5) (aa (au value (aa (ab 0) af)) af)))) af))))) (fG (eA isRef dJ (ab 4) (aa (aI aA (aa (fC (.str "look")) af)) af)))
noncomputable def nD (take value:Fn):FS:=aw (aC (aI mkRef af) (gN 4)) (aw (gr (dB (aa (ab 3) af)) (gN 5) (GU take value)) (aF (aI aA (aa (fC (.str "deeds")) (aa (au dG (aa (ab 4) af)) af)))))
noncomputable def Nk (take deeds:Fn):FS:=aw (aC (au take (aa (ab 0) (aa (ag bC (ab 2) (fC (.int 1))) af))) (gN 5)) (aw (bu (ay (ag oEq (au take (aa (ab 0) (aa (fC (.int 8)) af))) (fC (.int 0)))) (aC (fC (.int 12)) (gN 5)) aO) (fG (eA isRef dJ (ab 3) (aa (au deeds (aa (ab 0) (aa (ab 1) (aa (ab 4) (aa (ab 5) af))))) af))))
noncomputable def qY (take deeds:Fn):FS:=aw (aC (aI mkRef af) (gN 3)) (aw (gr (dB (aa (ag ak (ab 1) (fC (.int 1))) af)) (gN 4) (Nk take deeds)) (aF (au dG (aa (ab 3) af))))
noncomputable def jz (take pick:Fn):FS:=aF (au pick (aa (ab 0) (aa (aI cx (aa (fC (.int 1)) (aa (fC (.int 2)) (aa (fC (.int 2)) (aa (fC (.int 3)) (aa (fC (.int 3)) (aa (fC (.int 2)) (aa (fC (.int 3)) (aa (ag bC (fC (.int 3)) (au take (aa (ab 0) (aa (fC (.int 3)) af)))) af))))))))) af)))
theorem wp_seq {f1 f2:FS}{σ:Sg}{g:G}{Q:F×Sg×G->Prop}(h:wp (f1 σ g) λr=>r.1 = .nx/\wp (f2 r.2.1 r.2.2) Q):wp (aw f1 f2 σ g) Q:=by
 obtain⟨⟨r,c,g1⟩,e,a,b⟩:=h
 dsimp only at a b
 subst a
 rw[nU,e]
 exact b
theorem ES {g gg:G}{n:Nat}{B:Int}{xs:List D}(cg:Clean g)(h:aN xs=true)(M:Mk g gg n B xs):Clean gg:=by
 intro j k q
 obtain⟨i,e⟩:=aah.mp k
 by_cases e1:i=n
 . subst e1
   obtain⟨a,b,c,f,_⟩:=M.hd
   rw[f]at e;cases e
   simp[aX,b5]
 by_cases e2:i<g.length
 . rw[M.old i e1 e2]at e
   exact cg j (aah.mpr ⟨i,e⟩) q
 . have:i=g.length:=by have:=(Zr.mp e).1;rw[M.len]at this;omega
   subst this
   rw[M.at_]at e;cases e
   exact cG _ h
theorem z6:aD 6=true:=rfl
theorem z5:aD 5=true:=rfl
def Dd (d:D):Prop:=flat d=true/\dep d<=6/\b8 d=false
theorem jV {a b:D}{r:List D}:bJ (a::b::r) 1=some b:=cu (n:=1) rfl
theorem nE {a b c:D}{r:List D}:bJ (a::b::c::r) 2=some c:=cu (n:=2) rfl
theorem CA {take pick:Fn}(ht:eG take)(hp:g_ pick):Wd.oh (ao false 1 1 (jz take pick)):=λn g B m hd=>by
 have key:wp (ao false 1 1 (jz take pick) [.ref n] g) λq=>∃k:Nat,q.1 = .int k/\1<=k/\k<=5/\Hd q.2 n (B+2)/\Fr n g q.2:=by
  refine wp_run rfl ?_
  simp[jz]
  refine ht.w (by omega) (by decide) (by decide) hd λr g1 p o b f1=>?_
  have z:aD 8=true:=rfl
  simp[z]
  refine hp.w (by omega) (by simp) (by simp) b λd g2 hm hd2 f2=>?_
  refine⟨(f1.trans f2).1,?_⟩
  have:∃k:Nat,d = .int k/\1<=k/\k<=5:=by
   simp only[ZI,abH,or_false]at hm
   rcases hm with rfl|rfl|rfl|rfl|rfl|rfl|rfl|rfl
   . exact⟨1,rfl,by decide,by decide⟩
   . exact⟨2,rfl,by decide,by decide⟩
   . exact⟨2,rfl,by decide,by decide⟩
   . exact⟨3,rfl,by decide,by decide⟩
   . exact⟨3,rfl,by decide,by decide⟩
   . exact⟨2,rfl,by decide,by decide⟩
   . exact⟨3,rfl,by decide,by decide⟩
   . exact⟨(3+r).toNat,by rw[aeZ (by omega)],by omega,by omega⟩
  obtain⟨k,rfl,l,i⟩:=this
  exact⟨k,rfl,l,i,hd2.mono (by omega),f1.trans f2⟩
 obtain⟨⟨d,h⟩,e,k,rfl,j,c,f,a⟩:=key
 exact⟨k,h,e,j,c,f,a⟩
end Dw
namespace Rm
open PySem L3 L2 Pd RI Bx Dw
noncomputable def oq (hands next:Fn):FS:=aw (bu (uZ (ay (ag oLt (ab 3) (fC (.int 0)))) (ay (ag Bs (ab 3) (au hands (aa (ab 0) af))))) (aF (fC .aq)) aO) (aF (au next (aa (ab 3) (aa (ag ak (ab 1) (ab 3)) (aa (ag ak (ag ak (ag ak (ab 2) (fC (.int 1))) (ab 3)) (fC (.int 0))) af)))))
noncomputable def qd (at_:Fn):FS:=aF (au at_ (aa (ab 0) (aa (ab 1) (aa (ab 2) (aa (ab 3) (aa (fC (.int 0)) af))))))
noncomputable def pW (step read since:Fn):FS:=aw (aC (ag ak (ag ak (ag ak (ab 1) (fC (.int 1))) (ab 2)) (fC (.int 0))) (gN 6)) (aw (aC (ag bC (ag ak (ag ak (ag ak (ab 1) (fC (.int 1))) (ab 2)) (fC (.int 1))) (aI aA (aa (au read (aa (ab 1) (aa (ab 5) af))) af))) (gN 7)) (aw (aC (au step (aa (ab 0) (aa (ab 2) (aa (ab 3) (aa (ab 4) (aa (ab 7) af)))))) (gN 8)) (aw (bu (ay (ag oEq (ag ak (ab 8) (fC (.int 0))) (fC (.str "told")))) (aF (aI aA (aa (ag bC (ab 6) (aI aA (aa (ag ak (ab 8) (fC (.int 1))) af))) (aa (aI aA af) (aa (aI aA af) af))))) aO) (aF (aI aA (aa (ab 6) (aa (ab 7) (aa (au since (aa (ab 0) (aa (ab 1) (aa (ab 2) (aa (ab 3) af))))) af))))))))
noncomputable def qZ (places next:Fn):FS:=aw (aC (bP b4 (uh (ab 3)) [none,none,none,some 1,some 2,some 3] (gT 2 (b9 (gN 1) (b9 (gN 2) gk))) (ay (ag mY (ab 2) (fC .aq))) (au next (aa (ab 3) (aa (ab 4) (aa (iy (ab 5) mX (dD (ab 1))) af))))) (gN 4)) (aw (aC (bP b4 (cW (ab 4)) [none,none] (gN 1) bp (ag ak (ab 1) (fC (.int 1)))) (gN 5)) (aF (au dG (aa (bP b4 (dB (aa (au places (aa (ab 0) af)) af)) [none,none,some 5] (gN 1) bp (eA gY lh (ab 2) (aa (ab 1) af))) af))))
noncomputable def lT:FS:=aF (iY (ay (ag oEq (ag ak (ab 1) (fC (.int 0))) (fC (.str "read")))) (ag ak (au gZ (aa (ag ak (ab 0) (fC (.int 0))) af)) (ag ak (ab 1) (fC (.int 1)))) (fC .aq))
noncomputable def jA:FS:=aw (bu (ay (ag oEq (ag ak (ab 1) (fC (.int 0))) (fC (.str "read")))) (aF (ab 0)) aO) (aF (au dG (aa (bP b4 (cW (ab 0)) [none,none,none,some 1] (gT 2 (b9 (gN 1) (b9 (gN 2) gk))) bp (iY (ay (ag oEq (ab 1) (ag ak (ab 3) (fC (.int 1))))) (aI aA (aa (ab 1) (aa (ag ak (ab 3) (fC (.int 2))) af))) (aI aA (aa (ab 1) (aa (ab 2) af))))) af)))
noncomputable def jW (state:Fn):FS:=aw (bu (uZ (ay (ag dY (ag ak (ab 3) (fC (.int 0))) (fC (.str "look")))) (ay (ag oEq (ag ak (ab 0) (fC (.int 0))) (fC (.str "tables"))))) (aF (aI aA af)) aO) (aw (aC (ag ak (ag ak (ab 1) (fC (.int 1))) (ab 2)) (gN 4)) (aF (iY (ay (ag sR (au bN (aa (ag ak (ab 4) (fC (.int 1))) af)) (fC (.int 0)))) (ag ak (ab 4) (fC (.int 2))) (aI aA (aa (au state (aa (ab 0) (aa (ab 1) af))) af)))))
noncomputable def ot:FS:=aw (bu (uZ (ay (ag oEq (au bN (aa (ag ak (ab 0) (fC (.int 2))) af)) (fC (.int 0)))) (ay (ag zS (ab 1) (ag ak (ab 0) (fC (.int 2)))))) (aF (ab 0)) aO) (aF (aI aA (aa (ag ak (ab 0) (fC (.int 0))) (aa (ag ak (ab 0) (fC (.int 1))) (aa (ag bC (ag ak (ab 0) (fC (.int 2))) (aI aA (aa (ab 1) af))) af)))))
noncomputable def q_ (cq:Fn):FS:=aF (au cq (aa (ab 0) (aa (ag ak (ab 1) (fC (.int 0))) af)))
noncomputable def ou (pX:Fn):FS:=aw (aC (au gZ (aa (ab 1) af)) (gN 2)) (aw (aC (bP b4 (cW (au pX (aa (ab 0) af))) [none,none,some 2] (gN 1) bp (ag ak (ab 2) (ab 1))) (gN 3)) (aw (bu (ay (ag oEq (ag ak (ab 0) (fC (.int 0))) (fC (.str "once")))) (aF (au dG (aa (ab 3) af))) aO) (aF (au dG (aa (bP b4 (cW (ab 3)) [none,none] (gN 1) bp (ag ak (ab 1) (fC (.int 0)))) af)))))
theorem Ah {α:Type}{f h:α->D}{t:FG}{c:FT}{e:FE}(I:Sg->Prop):∀(xs:List α) (σ:Sg) (g:G),I σ->(∀x∈xs,∀σ,I σ->∃σ1,t (f x) σ g=some (σ1,g)/\c σ1 g=some (true,g)/\e σ1 g=some (h x,g)/\I σ1)->a_ t c e (xs.map f) σ g=some (xs.map h,g)
 | [],σ,g,_,_=>rfl
 |x::xs,σ,g,hI,hs=>by
  obtain⟨σ1,b,i,k,a⟩:=hs x (by simp) σ hI
  have ih:=Ah I xs σ1 g a λy j=>hs y (by simp[j])
  simp[a_,b,i,k,ih]
theorem wI {g:G}(h:Wd.Bd g):∀y∈g,aX g.length y=true:=λy b=>by
 obtain⟨i,a⟩:=aah.mp b
 exact h i y a
abbrev Row:=List D×List D×List D
noncomputable def aL (r:Row):D:=.tup [.tup r.1,.tup r.2.1,.tup r.2.2]
noncomputable def aM (es:Es)(rs:List Row):D:=.tup [.tup (es.map ent),.tup (rs.map aL)]
inductive bB where
 |rd (k:Str×List Int)
 |wr (k:Str×List Int) (c:D)
 |td (v:D)
noncomputable def bB.d:bB->D
 |.rd k=>.tup [.str "read",kd k]
 |.wr k c=>.tup [.str "write",kd k,c]
 |.td v=>.tup [.str "told",v]
structure CB (es:Es):Prop where
 nd:(es.map ky).Nodup
 ct:Ct es
 len:es.length<=90
theorem q1:¬(Zt "write" = Zt "read"):=by decide
theorem QG {a b c:D}:bJ [a,b,c] 2=some c:=rfl
theorem GV {es:Es}{g:G}(E:CB es):gZ [.tup (es.map ent)] g=some (.ax g.length,g ++ [bq es]):=Jx E.nd (by have:=E.len;omega)
theorem Nl {es:Es}{rs:List Row}{e:Str×List Int×D}{g:G}(E:CB es)(he:e∈es)(b:Wd.Bd g):ao false 2 2 lT [aM es rs,(bB.rd (ky e)).d] g=some (e.2.2,g):=by
 have key:wp (ao false 2 2 lT [aM es rs,(bB.rd (ky e)).d] g) λq=>q=(e.2.2,g):=by
  refine fI rfl ?_
  have a:=GV (g:=g) E
  have f:=nz E.nd he
  have c:b5 g.length e.2.2=true:=fA _ (E.ct e he).1
  unfold lT aM bB.d
  generalize es.map ent=A at *
  simp[iM,iN,a,rZ,f]
  exact⟨c,wI b⟩
 obtain⟨q,h,rfl⟩:=key
 exact h
theorem Nm {es:Es}{rs:List Row}{k:Str×List Int}{c:D}{g:G}:ao false 2 2 lT [aM es rs,(bB.wr k c).d] g=some (.aq,g):=by
 refine aQ (σ':=[some (aM es rs),some (bB.wr k c).d]) rfl ?_ rfl
 simp[lT,bB.d,bQ,q1]
noncomputable def hV (es:Es)(k:Str×List Int)(c:D):Es:=es.map λe=>if ky e=k then(e.1,e.2.1,c)else e
theorem jX {es:Es}{k:Str×List Int}{g:G}:ao false 2 2 jA [.tup (es.map ent),(bB.rd k).d] g=some (.tup (es.map ent),g):=by
 refine aQ (σ':=[some (.tup (es.map ent)),some (bB.rd k).d]) rfl ?_ rfl
 simp[jA,bB.d,iM]
theorem ET {es:Es}{k:Str×List Int}{c:D}{g:G}(hl:es.length<=100):ao false 2 2 jA [.tup (es.map ent),(bB.wr k c).d] g=some (.tup ((hV es k c).map ent),g):=by
 have l:=Ah (α:=Str×List Int×D) (f:=ent) (h:=λe=>ent (if ky e=k then(e.1,e.2.1,c)else e)) (t:=gT 2 (b9 (gN 1) (b9 (gN 2) gk))) (c:=bp) (e:=iY (ay (ag oEq (ab 1) (ag ak (ab 3) (fC (.int 1))))) (aI aA (aa (ab 1) (aa (ag ak (ab 3) (fC (.int 2))) af))) (aI aA (aa (ab 1) (aa (ab 2) af)))) (λσ=>∃j m,σ = [none,j,m,some (bB.wr k c).d]) es [none,none,none,some (bB.wr k c).d] g ⟨_,_,rfl⟩ (by
  rintro e _ σ ⟨j,m,rfl⟩
  refine⟨[none,some (kd (ky e)),some e.2.2,some (bB.wr k c).d],by simp[ent,ky],rfl,?_,⟨_,_,rfl⟩⟩
  have f1:=og (ky e)
  have f2:=og k
  have s:dep (kd (ky e))<=60:=by rw[Cr];omega
  have eq1:∀g,oEq (kd (ky e)) (kd k) g=some (.bl (decide (ky e=k)),g):=λg=>by
    unfold oEq
    rw[f1,f2,decide_eq_true s,Cq]
    rfl
  have u:ent (e.1,e.2.1,c)= .tup [kd (ky e),c]:=rfl
  have p:ent e = .tup [kd (ky e),e.2.2]:=rfl
  have n:∀g,ak (bB.wr k c).d (.int 1) g=some (kd k,g):=λg=>by simp[bB.d,jV]
  have i:∀g,ak (bB.wr k c).d (.int 2) g=some (c,g):=λg=>by simp[bB.d,QG]
  by_cases hk:ky e=k
  . rw[if_pos hk,u]
    rw[decide_eq_true hk]at eq1
    generalize (bB.wr k c).d=S at *
    generalize kd (ky e)=K at *
    generalize kd k=o at *
    simp[n,i,eq1,z2]
  . rw[if_neg hk,p]
    rw[decide_eq_false hk]at eq1
    generalize (bB.wr k c).d=S at *
    generalize kd (ky e)=K at *
    generalize kd k=o at *
    simp[n,i,eq1,z2])
 have v:(hV es k c).map ent=es.map λe=>ent (if ky e=k then(e.1,e.2.1,c)else e):=by
  unfold hV
  rw[adg]
  rfl
 have q:aD (es.map ent).length=true:=aH (by simp;omega)
 have x:aD ((hV es k c).map ent).length=true:=aH (by simp[hV];omega)
 rw[<- v]at l
 refine aQ (σ':=[some (.tup (es.map ent)),some (bB.wr k c).d]) rfl ?_ rfl
 have r:∀(a b:Option D),bZ [none,none,none,some 1] [a,b]= [none,none,none,b]:=λ_ _=>rfl
 have h0:∀g,ak (bB.wr k c).d (.int 0) g=some (.str "write",g):=λg=>by simp[bB.d,bQ]
 generalize (bB.wr k c).d=S at *
 generalize es.map ent=A at *
 generalize (hV es k c).map ent=B at *
 simp[jA,h0,q1,q,r,l,x]
noncomputable def ws (s:D)(r:Row):Row:=if r.2.2 = []\/inD s r.2.2=true then r else(r.1,r.2.1,r.2.2 ++ [s])
structure se (s:D):Prop where
 fl:flat s=true
 dp:dep s<=10
def lU (N:Nat)(r:Row):Prop:=r.2.2.length<=N /\ ∀x∈r.2.2,se x
theorem Nn {s:D}{xs:List D}{g:G}(hs:se s)(hx:∀x∈xs,se x):my s (.tup xs) g=some (inD s xs):=by
 have f1:aN xs=true:=bH λx h=>(hx x h).fl
 have b:bS xs<=10:=d7 λx h=>(hx x h).dp
 have a:bS xs<=50:=by omega
 show(some xs).bind (yd s)=_
 simp only[Zw,yd,hs.fl,f1,decide_eq_true a,adJ,if_true,inD]
theorem JA {s:D}{r:Row}{N:Nat}{g:G}(hs:se s)(hr:lU N r)(hN:N<=800):ao false 2 2 ot [aL r,s] g=some (aL (ws s r),g):=by
 obtain⟨t,c,st⟩:=r
 have a:=Nn (g:=g) hs hr.2
 have b:aD (st.length+1)=true:=aH (by have:=hr.1;dsimp only at this;omega)
 refine aQ (σ':=[some (aL (t,c,st)),some s]) rfl ?_ rfl
 unfold ws
 by_cases h0:st = []
 . subst h0
   simp[ot,aL,nE]
 . have e:¬((st.length:Int)=0):=λh=>h0 (acB.mp (by omega))
   cases hi:inD s st with
   |true=>simp[ot,aL,nE,h0,a,hi]
   |false=>simp[ot,aL,bQ,jV,nE,h0,a,hi,z1,z3,b]
noncomputable def RU (fS puts step behind row cq wst:Fn):FS:=aF (aI aA (aa (ab 8) (aa (au dG (aa (bP b4 (cW (ab 10)) [none,none,some 11] (gN 1) bp (au wst (aa (ab 1) (aa (ab 2) af)))) af)) af)))
noncomputable def RV (fS puts step behind row cq wst:Fn):FS:=aw (aC (au cq (aa (ab 0) (aa (ab 8) af))) (gN 11)) (RU fS puts step behind row cq wst)
noncomputable def yG (fS puts step behind row cq wst:Fn):FS:=aw (bu (ay (ag oEq (ag ak (ab 0) (fC (.int 0))) (fC (.str "tables")))) (aF (aI aA (aa (ab 8) (aa (ab 10) af)))) aO) (RV fS puts step behind row cq wst)
noncomputable def RW (fS puts step behind row cq wst:Fn):FS:=aw (aC (ag bC (ag bC (iy (ag ak (ab 2) (fC (.int 1))) mX (dD (ab 3))) (aI aA (aa (ab 9) af))) (iy (ag ak (ab 2) (fC (.int 1))) (dD (ag bC (ab 3) (fC (.int 1)))) mX)) (gN 10)) (yG fS puts step behind row cq wst)
noncomputable def RX (fS puts step behind row cq wst:Fn):FS:=aw (aC (au row (aa (ab 0) (aa (ab 2) (aa (ab 3) (aa (ab 5) (aa (ab 6) (aa (ab 7) af))))))) (gN 9)) (RW fS puts step behind row cq wst)
noncomputable def RY (fS puts step behind row cq wst:Fn):FS:=aw (aC (au behind (aa (ag ak (ab 2) (fC (.int 0))) (aa (ab 7) af))) (gN 8)) (RX fS puts step behind row cq wst)
noncomputable def RZ (fS puts step behind row cq wst:Fn):FS:=aw (aC (au step (aa (ab 0) (aa (ab 3) (aa (ab 5) (aa (ab 6) (aa (ag ak (ag ak (ag ak (ab 2) (fC (.int 1))) (ab 3)) (fC (.int 1))) af)))))) (gN 7)) (RY fS puts step behind row cq wst)
noncomputable def at2 (fS puts step behind row cq wst:Fn):FS:=aw (aC (au puts (aa (ab 0) (aa (ab 3) (aa (ag ak (ab 1) (ab 3)) (aa (ag ak (ag ak (ag ak (ab 2) (fC (.int 1))) (ab 3)) (fC (.int 0))) af))))) (gN 6)) (RZ fS puts step behind row cq wst)
noncomputable def k9 (fS puts step behind row cq wst:Fn):FS:=aw (bu (ay (ag mY (ab 5) (fC .aq))) df aO) (at2 fS puts step behind row cq wst)
noncomputable def tv (fS puts step behind row cq wst:Fn):FS:=aw (aC (au fS (aa (ab 0) (aa (ab 1) (aa (ab 2) (aa (ab 3) af))))) (gN 5)) (k9 fS puts step behind row cq wst)
theorem yH {α:Type}:∀(rs:List α) (h:Nat) (r:α),h<rs.length->rs.take h ++ [r]++rs.drop (h+1)=rs.set h r
 | [],h,r,hh=>by simp at hh
 |a::rs,0,r,_=>by simp
 |a::rs,h+1,r,hh=>by
  have:=yH rs h r (by simpa using hh)
  simp only[aeX,acP,aeY,acs]
  rw[this]
theorem wJ {xs:List D}{n:Nat}{g:G}(h:n<=xs.length):iZ (.tup xs) (some (n:Int)) none g=some (.tup (xs.drop n),g):=by
 simp only[iZ]
 unfold cutD
 rw[HT.rH,HT.uN,Nat.min_eq_left h]
 simp
 exact abk (by simp)
theorem CC {xs:List D}{n:Nat}{g:G}(h:n<=xs.length):iZ (.tup xs) none (some (n:Int)) g=some (.tup (xs.take n),g):=by
 simp only[iZ]
 unfold cutD
 rw[Bv h,HT.uN]
 simp
theorem QH {fS puts step behind row cq wst:Fn}{w:Str}{mr js ah:List D}{es c8:Es}{rs:List Row}{h:Nat}{deed job s pl:D}{r0 r1:Row}{st:bB}{g:G}
  (hw:¬w=Zt "tables") (hr:rs[h]? = some r0) (hj:js[h]? = some job) (hn:rs.length<=50) (nd:b8 deed=false)
  (e1:fS [.tup (.str w::mr),.tup js,aM es rs,.int h] g=some (deed,g))
  (e2:puts [.tup (.str w::mr),.int h,job,.tup r0.1] g=some (.tup ah,g))
  (e3:step [.tup (.str w::mr),.int h,deed,.tup ah,.tup r0.2.1] g=some (st.d,g))
  (e4:behind [.tup (es.map ent),st.d] g=some (.tup (c8.map ent),g))
  (e5:row [.tup (.str w::mr),aM es rs,.int h,deed,.tup ah,st.d] g=some (aL r1,g))
  (e6:cq [.tup (.str w::mr),.tup (c8.map ent)] g=some (s,g))
  (e7:∀r∈rs.set h r1,wst [aL r,s] g=some (aL (ws s r),g)):
  ao false 12 5 (tv fS puts step behind row cq wst) [.tup (.str w::mr),.tup js,aM es rs,.int h,pl] g=some (aM c8 ((rs.set h r1).map (ws s)),g):=by
 have hl:=(Zr.mp hr).1
 have a1:bJ js (h:Int)=some job:=cu hj
 have a2:bJ (rs.map aL) (h:Int)=some (aL r0):=cu (by rw[ZG,hr];rfl)
 have x0:∀g,ak (aM es rs) (.int 0) g=some (.tup (es.map ent),g):=λg=>by simp[aM,iM]
 have u:∀g,ak (aM es rs) (.int 1) g=some (.tup (rs.map aL),g):=λg=>by simp[aM,iN]
 have y0:∀g,ak (aL r0) (.int 0) g=some (.tup r0.1,g):=λg=>by simp[aL,bQ]
 have y1:∀g,ak (aL r0) (.int 1) g=some (.tup r0.2.1,g):=λg=>by simp[aL,jV]
 have li:isLit deed .aq=some false:=by cases deed<;>first|rfl|cases nd
 have s1:=CC (g:=g) (xs:=rs.map aL) (n:=h) (by simp;omega)
 have s2:iZ (.tup (rs.map aL)) (some ((h:Int)+1)) none g=some (.tup ((rs.map aL).drop (h+1)),g):=wJ (n:=h+1) (by simp;omega)
 have s3:(rs.map aL).take h ++ [aL r1]++(rs.map aL).drop (h+1)=(rs.set h r1).map aL:=by
  rw[List.map_set,<- yH (rs.map aL) h (aL r1) (by simpa using hl)]
 have Zb:(rs.map aL).take h++aL r1::(rs.map aL).drop (h+1)=(rs.set h r1).map aL:=by rw[<- s3];simp
 have zl:aD ((rs.map aL).take h ++ [aL r1]).length=true:=aH (by simp;omega)
 have Mu:aD ((rs.map aL).take h ++ [aL r1]++(rs.map aL).drop (h+1)).length=true:=aH (by simp;omega)
 have zr:aD ((rs.set h r1).map aL).length=true:=aH (by simp;omega)
 have zq:aD (((rs.set h r1).map (ws s)).map aL).length=true:=aH (by simp;omega)
 have cp:=Ah (α:=Row) (f:=aL) (h:=λr=>aL (ws s r)) (t:=gN 1) (c:=bp) (e:=au wst (aa (ab 1) (aa (ab 2) af))) (λσ=>∃o,σ = [none,o,some s]) (rs.set h r1) [none,none,some s] g ⟨_,rfl⟩ (by
  rintro r cC σ ⟨o,rfl⟩
  exact⟨[none,some (aL r),some s],rfl,rfl,by simp[e7 r cC],⟨_,rfl⟩⟩)
 have z:a_ (gN 1) bp (au wst (aa (ab 1) (aa (ab 2) af))) ((rs.set h r1).map aL) [none,none,some s] g=some (((rs.set h r1).map (ws s)).map aL,g):=by
  rw[cp,adg];rfl
 have ro:aM c8 ((rs.set h r1).map (ws s))= .tup [.tup (c8.map ent),.tup (((rs.set h r1).map (ws s)).map aL)]:=rfl
 rw[ro]
 have nt:(w == Zt "tables")=false:=by simp[hw]
 generalize aM es rs=R at *
 generalize aL r0=R0 at *
 generalize aL r1=p at *
 generalize st.d=S at *
 generalize es.map ent=A at *
 generalize c8.map ent=A' at *
 generalize (rs.set h r1).map aL=B at *
 generalize ((rs.set h r1).map (ws s)).map aL=C at *
 generalize rs.map aL=Q at *
 refine aQ (σ':=[some (.tup (.str w::mr)),some (.tup js),some R,some (.int h),some pl,some deed,some (.tup ah),some S,some (.tup A'),some p,some (.tup B),some s]) rfl ?_ rfl
 have x:∀(xs q:List D) (g:G),aD (xs++q).length=true->bC (.tup xs) (.tup q) g=some (.tup (xs++q),g):=λxs q g y=>by
  rw[ZE]at y
  simp[y]
 have Np:=x (Q.take h) [p] g zl
 have v:=x (Q.take h ++ [p]) (Q.drop (h+1)) g Mu
 rw[s3]at v
 have sb:∀(a b c d e f i j k l m n:Option D),bZ [none,none,some 11] [a,b,c,d,e,f,i,j,k,l,m,n]= [none,none,n]:=λ_ _ _ _ _ _ _ _ _ _ _ _=>rfl
 unfold tv
 rw[aK (hU (g1:=g) (d:=deed) (by simp[e1]))]
 unfold k9
 rw[aK (σ1:=[some (.tup (.str w::mr)),some (.tup js),some R,some (.int h),some pl,some deed,none,none,none,none,none,none]) (g1:=g) (by simp[li,nd])]
 unfold at2
 rw[aK (hU (g1:=g) (d:=.tup ah) (by simp[a1,u,a2,y0,e2]))]
 unfold RZ
 rw[aK (hU (g1:=g) (d:=S) (by simp[u,a2,y1,e3]))]
 unfold RY
 rw[aK (hU (g1:=g) (d:=.tup A') (by simp[x0,e4]))]
 unfold RX
 rw[aK (hU (g1:=g) (d:=p) (by simp[e5]))]
 unfold RW
 rw[aK (hU (g1:=g) (d:=.tup B) (by simp only[dX,b6,acs,ady,Z9,ac5,acP,abp,ZK,ZJ,Zw,IY,IS,Ed,iH,u,s1,gU,cD,ck,aA,aas,adh];simp[z1,Np,u,s2,v]))]
 unfold yG
 rw[aK (σ1:=[some (.tup (.str w::mr)),some (.tup js),some R,some (.int h),some pl,some deed,some (.tup ah),some S,some (.tup A'),some p,some (.tup B),none]) (g1:=g) (by simp[bQ,nt])]
 unfold RV
 rw[aK (hU (g1:=g) (d:=s) (by simp[e6]))]
 unfold RU
 simp[zr,sb,z,zq,z2]
noncomputable def Ai (Ni:Fn):FS:=aF (ag ak (au Ni (aa (ab 0) (aa (ab 1) (aa (ab 2) af)))) (fC (.int 0)))
noncomputable def Aj (dd:Fn):FS:=aw (aC (ag ak (ab 1) (fC (.int 0))) (gN 3)) (aw (bu (ay (ag oEq (ab 3) (fC (.str "sums")))) (aF bF) aO) (aw (bu (ay (ag oEq (ab 3) (fC (.str "name")))) (aF bF) aO) (aw (bu (ay (ag oEq (ab 3) (fC (.str "least")))) (aF bF) aO) (aw (bu (ay (ag oEq (ab 3) (fC (.str "closer")))) (aF bF) aO) (aF (au dd (aa (ag ak (ab 1) (fC (.int 1))) (aa (ab 2) af))))))))
noncomputable def CD:FS:=aw (bu (ay (ag oLt (au bN (aa (ab 1) af)) (au bN (aa (ab 0) af)))) (aF (aI aA (aa (ag ak (ab 0) (au bN (aa (ab 1) af))) (aa (fC .aq) af)))) aO) (aF (aI aA (aa (fC .aq) (aa (aI aA af) af))))
theorem n1:(Zt "deeds" == Zt "sums")=false:=by decide
theorem n2:(Zt "deeds" == Zt "name")=false:=by decide
theorem n3:(Zt "deeds" == Zt "least")=false:=by decide
theorem n4:(Zt "deeds" == Zt "closer")=false:=by decide
noncomputable def cL (row:List D):D:=.tup [.str "deeds",.tup row]
noncomputable abbrev lV:Fn:=ao false 3 3 (Ai (ao false 4 3 (Aj (ao false 2 2 CD))))
theorem yI {h:D}{row T:List D}{d:D}{g:G}(hd:row[T.length]? = some d):lV [h,cL row,.tup T] g=some (d,g):=by
 have a:=(Zr.mp hd).1
 have e:(T.length:Int)<(row.length:Int):=by omega
 have b:ao false 2 2 CD [.tup row,.tup T] g=some (.tup [d,.aq],g):=
  aQ (σ':=[some (.tup row),some (.tup T)]) rfl (by simp[CD,a,e,cu hd,z2]) rfl
 have c:ao false 4 3 (Aj (ao false 2 2 CD)) [h,cL row,.tup T] g=some (.tup [d,.aq],g):=
  aQ (σ':=[some h,some (cL row),some (.tup T),some (.str "deeds")]) rfl (by simp[Aj,cL,iM,iN,b,n1,n2,n3,n4]) rfl
 exact aQ (σ':=[some h,some (cL row),some (.tup T)]) rfl (by simp[Ai,c,iM]) rfl
theorem Nq {hands:Fn}{m:D}{n h:Nat}{js:List D}{es:Es}{rs:List Row}{r0:Row}{row:List D}{d:D}{g:G}(hh:hands [m] g=some (.int n,g))(hn:h<n)(hj:js[h]? = some (cL row))(hr:rs[h]? = some r0)(hd:row[r0.1.length]? = some d):
  ao false 4 4 (oq hands lV) [m,.tup js,aM es rs,.int h] g=some (d,g):=by
 have a1:bJ js (h:Int)=some (cL row):=cu hj
 have a2:bJ (rs.map aL) (h:Int)=some (aL r0):=cu (by rw[ZG,hr];rfl)
 have e:∀g,ak (aM es rs) (.int 1) g=some (.tup (rs.map aL),g):=λg=>by simp[aM,iN]
 have c:∀g,ak (aL r0) (.int 0) g=some (.tup r0.1,g):=λg=>by simp[aL,bQ]
 have a:=yI (h:=.int h) (g:=g) hd
 have b:¬(h:Int)<0:=by omega
 have f:¬(n:Int)<=(h:Int):=by omega
 generalize aM es rs=R at *
 generalize aL r0=i at *
 generalize cL row=J at *
 refine aQ (σ':=[some m,some (.tup js),some R,some (.int h)]) rfl ?_ rfl
 simp[oq,hh,b,f,a1,e,a2,c,a,show ¬n<=h by omega]
def Fits (h:Nat)(row T:List D):Prop:=T.length<=row.length /\ ∀(i:Nat) x,T[i]? = some x->(b8 x=true->∃v,row[i]? = some (.tup [.str "put",.int h,v]))
noncomputable def aR (T:List D):Nat:=(T.filter b8).length
noncomputable abbrev pE:FE:=au lV (aa (ab 3) (aa (ab 4) (aa (iy (ab 5) mX (dD (ab 1))) af)))
theorem GW {h:Nat}{row T:List D}{g:G}(F:Fits h row T):∀(S pre:List D) (o1 o2:Option D),pre++S=T->∃ds,a_ (gT 2 (b9 (gN 1) (b9 (gN 2) gk))) (ay (ag mY (ab 2) (fC .aq))) pE ((S.zipIdx pre.length).map λp=>D.tup [.int (p.2:Nat),p.1]) [none,o1,o2,some (.int h),some (cL row),some (.tup T)] g=some (ds,g)/\ds.length=aR S /\ ∀d∈ds,∃v,d = .tup [.str "put",.int h,v]
 | [],pre,o1,o2,_=>⟨[],rfl,rfl,by simp⟩
 |x::S,pre,o1,o2,e=>by
  have c:T[pre.length]? = some x:=by rw[<- e];simp
  have o:pre.length<T.length:=(Zr.mp c).1
  obtain⟨ds,b,f,i⟩:=GW (g:=g) F S (pre ++ [x]) (some (.int pre.length)) (some x) (by rw[<- e];simp)
  rw[ZE,aag]at b
  have l:=CC (g:=g) (xs:=T) (n:=pre.length) (by omega)
  have li:isLit x .aq=some (b8 x):=by cases x<;>rfl
  cases a:b8 x with
  |true =>
   obtain⟨v,k⟩:=F.2 pre.length x c a
   have m:(T.take pre.length).length=pre.length:=by simp;omega
   have j:=yI (h:=.int h) (row:=row) (T:=T.take pre.length) (g:=g) (d:=.tup [.str "put",.int h,v]) (by rw[m];exact k)
   refine⟨.tup [.str "put",.int h,v]::ds,?_,by simp[aR,a,f],λd hd=>?_⟩
   . generalize cL row=J at *
     simp[a_,li,a,l,j,b]
   . rcases ZI.mp hd with rfl|hd
     . exact⟨v,rfl⟩
     . exact i d hd
  |false =>
   refine⟨ds,?_,by simp[aR,a,f],i⟩
   generalize cL row=J at *
   simp[a_,li,a,b]
noncomputable def hZ (n h k:Nat):List D:=(Zp n).map λ(j:Nat)=>D.int (aeO (j:Int) (Zo k (h:Int)):Nat)
theorem QI {n h k:Nat}(hn:h<n):bJ (hZ n h k) (h:Int)=some (.int k):=cu (by
 unfold hZ
 rw[ZG,aac hn]
 simp)
theorem JB {places:Fn}{m:D}{n h:Nat}{row T:List D}{g:G}(hp:∀g,places [m] g=some (.int n,g))(hn:n<=20)(F:Fits h row T)(hT:T.length<=100):ao false 6 4 (qZ places lV) [m,.int h,cL row,.tup T] g=some (.tup (hZ n h (aR T)),g):=by
 obtain⟨ds,i,l,z⟩:=GW (g:=g) F T [] none none (by simp)
 simp only[adh]at i
 have ct:aR T<=T.length:=abX _ _
 have c4:a_ (gN 1) bp (ag ak (ab 1) (fC (.int 1))) ds [none,none] g=some ((Zo (aR T) (h:Int)).map .int,g):=by
  have:∀(ds:List D) (o:Option D),(∀d∈ds,∃v,d = .tup [.str "put",.int h,v])->a_ (gN 1) bp (ag ak (ab 1) (fC (.int 1))) ds [none,o] g=some ((Zo ds.length (h:Int)).map .int,g):=by
   intro ds
   induction ds with
   |nil=>intro o _;rfl
   |cons d ds ih =>
    intro o hd
    obtain⟨v,rfl⟩:=hd d (by simp)
    have:=ih (some (.tup [.str "put",.int h,v])) λd' y=>hd d' (by simp[y])
    simp at this
    simp[a_,jV,this,aaq]
  rw[<- l]
  exact this ds none z
 have k:a_ (gN 1) bp (eA gY lh (ab 2) (aa (ab 1) af)) (ic 0 n) [none,none,some (.lst ((Zo (aR T) (h:Int)).map .int))] g=some (hZ n h (aR T),g):=by
  have ri:ic 0 n=(Zp n).map λ(j:Nat)=>D.int j:=by
   unfold ic
   refine aaZ λj _=>?_
   rw[Int.zero_add]
  rw[ri]
  unfold hZ
  refine Ah (α:=Nat) (f:=λ(j:Nat)=>D.int j) (λσ=>∃o,σ = [none,o,some (.lst ((Zo (aR T) (h:Int)).map .int))]) (Zp n) [none,none,_] g ⟨_,rfl⟩ ?_
  rintro j _ σ ⟨o,rfl⟩
  refine⟨[none,some (.int j),some (.lst ((Zo (aR T) (h:Int)).map .int))],rfl,rfl,?_,⟨_,rfl⟩⟩
  have im:=ints_map (Zo (aR T) (h:Int))
  generalize Zo (aR T) (h:Int)=L at *
  simp[gY,lh,im]
 have key:wp (ao false 6 4 (qZ places lV) [m,.int h,cL row,.tup T] g) λq=>q=(.tup (hZ n h (aR T)),g):=by
  refine wp_run rfl ?_
  have ee:iJ T=(T.zipIdx 0).map λp=>D.tup [.int (p.2:Nat),p.1]:=rfl
  have u:aD (iJ T).length=true:=aH (by simp[iJ];omega)
  have zd:aD ds.length=true:=aH (by omega)
  have zn:aD n=true:=aH (by omega)
  have r:aD (hZ n h (aR T)).length=true:=aH (by simp[hZ];omega)
  have sb:∀(a b c d e f:Option D),bZ [none,none,none,some 1,some 2,some 3] [a,b,c,d,e,f]= [none,none,none,b,c,d]:=λ_ _ _ _ _ _=>rfl
  have s:∀(σ:Sg),bZ [none,none] σ = [none,none]:=λ_=>rfl
  have x:∀(a b c d e f:Option D),bZ [none,none,some 5] [a,b,c,d,e,f]= [none,none,f]:=λ_ _ _ _ _ _=>rfl
  rw[<- ee]at i
  generalize hE:iJ T=E at *
  generalize cL row=J at *
  generalize hZ n h (aR T)=A at *
  generalize (Zo (aR T) (h:Int)).map D.int=L at *
  unfold qZ
  simp[hE,u,sb,i,zd,s,c4]
  refine lS ?_
  simp[hp,d6,zn,x,k,r]
  omega
 obtain⟨q,e,rfl⟩:=key
 exact e
end Rm
namespace Wd
open PySem L3 L2 RI
open Pd
noncomputable def GX (nm:Str)(o:Nat)(n:Nat):List D:=((Zp n).filter λj=>!(j == o)).map λj=>own nm j
theorem GR {a b:Int}:aB (.int a) (.int b)=decide (a=b):=by simp only[aB];rw[ade];simp
theorem Nr {g:G}{h m:Nat}{B:Int}{xs:List D}(hd:Hd g h B)(e:g[h]? = some xs):aX m xs=true:=by
 obtain⟨a,b,c,f,_⟩:=hd
 rw[f]at e;cases e
 simp[aX,b5]
theorem Bd.fr {g g':G}{h:Nat}{B:Int}(b:Bd g)(f:Fr h g g')(hd:Hd g' h B):Bd g':=λi xs e=>by
 by_cases hi:i=h
 . subst hi;exact Nr hd e
 . rw[f.1];rw[f.2 i hi]at e;exact b i xs e
end Wd
namespace Wd
open PySem L3 L2 RI Pd
noncomputable def nF:FS:=aw (aC (ag (cI gm (· / ·)) (au bN (aa (ab 0) af)) (fC (.int 2))) (gN 1)) (aF (bP b4 (dB (aa (ab 1) af)) [none,none,some 1,some 0] (gN 1) (ay (ag dY (ag ak (ag ak (ab 3) (ab 1)) (fC (.int 1))) (ag ak (ag ak (ab 3) (ag bC (ab 2) (ab 1))) (fC (.int 1))))) (ab 1)))
noncomputable def pd:FT:=ay (ag oLe (ag bC (ab 6) (ab 1)) (au bN (aa (ab 3) af)))
noncomputable def Nt (R:Str->Option Fn):FS:=pO 6 (λi j=>i+j) (ab 0)
noncomputable def Ak (R:Str->Option Fn):FS:=aw (bu (ay (ag sR (au bN (aa (ab 9) af)) (fC (.int 0)))) (aF (aI aA (aa (ab 6) (aa (au ((fP kC iK)) (aa (ab 9) af)) af)))) aO) (Nt R)
noncomputable def Nu (R:Str->Option Fn):FS:=aw (aC (bP b4 (cW (ab 7)) [none,none,some 2,some 5] (gN 1) (ay (ag oEq (ag ak (ab 3) (ab 1)) (ab 2))) (ab 1)) (gN 9)) (Ak R)
noncomputable def Nv (R:Str->Option Fn):FS:=aw (gr (cW (ab 7)) (gN 8) (aC (ag bC (eA jm jP (ab 5) (aa (ab 8) (aa (fC (.int 0)) af))) (fC (.int 1))) (cX (ab 5) (ab 8)))) (Nu R)
noncomputable def EU (R:Str->Option Fn):FS:=aw (bu (ay (ag oEq (au bN (aa (ab 7) af)) (fC (.int 0)))) (aF (aI aA (aa (ab 6) (aa (fC .aq) af)))) aO) (Nv R)
noncomputable def jY (R:Str->Option Fn):FS:=aw (aC (iU R 4 (aa (iy (ab 3) (dD (ab 6)) (dD (ag bC (ab 6) (ab 1)))) af)) (gN 7)) (EU R)
noncomputable def eC (R:Str->Option Fn):FS:=aw (aC qC (gN 5)) (aw (aC (fC (.int 0)) (gN 6)) (aw (Gi 1000000 (ay (ag oLe (ag bC (ab 6) (ab 1)) (au bN (aa (ab 3) af)))) (aw (aC (iU R 4 (aa (iy (ab 3) (dD (ab 6)) (dD (ag bC (ab 6) (ab 1)))) af)) (gN 7)) (aw (bu (ay (ag oEq (au bN (aa (ab 7) af)) (fC (.int 0)))) (aF (aI aA (aa (ab 6) (aa (fC .aq) af)))) aO) (aw (gr (cW (ab 7)) (gN 8) (aC (ag bC (eA jm jP (ab 5) (aa (ab 8) (aa (fC (.int 0)) af))) (fC (.int 1))) (cX (ab 5) (ab 8)))) (aw (aC (bP b4 (cW (ab 7)) [none,none,some 2,some 5] (gN 1) (ay (ag oEq (ag ak (ab 3) (ab 1)) (ab 2))) (ab 1)) (gN 9)) (aw (bu (ay (ag sR (au bN (aa (ab 9) af)) (fC (.int 0)))) (aF (aI aA (aa (ab 6) (aa (au ((fP kC iK)) (aa (ab 9) af)) af)))) aO) (pO 6 (λi j=>i+j) (ab 0)))))))) (aF (fC .aq))))
noncomputable def num:D->Int
 |.tup (_ :: .int m::_)=>m
 |_=>0
def h_ (c:D):Prop:=∃v m r,c = .tup (v :: .int m::r)
noncomputable def tI (a b:List D)(j:Nat):Bool:=!(num (a.getD j .aq)== num (b.getD j .aq))
noncomputable def aJ (a b:List D):List Nat:=(Zp a.length).filter (tI a b)
noncomputable def dN (l:List Nat):List D:=l.map λ(j:Nat)=>D.int j
theorem lu {a b:List D}{j:Nat}(h:j∈aJ a b):j<a.length:=by
 simp only[aJ,aaE,Z_]at h
 exact h.1
theorem CF {a b:List D}:(aJ a b).Nodup:=ad3.sublist ae2
theorem nG {l}:(dN l).length=l.length:=by simp[dN]
theorem Nw {v d:D}{r:List D}:bJ (v::d::r) 1=some d:=cu (n:=1) rfl
def lW (f:Fn):Prop:=∀(a b:List D) (g:G),a.length=b.length->a.length<=20->(∀c∈a,h_ c)->(∀c∈b,h_ c)->f [.tup (a++b)] g=some (.lst (dN (aJ a b)),g)
theorem wK:lW (ao false 2 1 nF):=λa b g hl hn u x=>by
 have key:wp (ao false 2 1 nF [.tup (a++b)] g) λq=>q=(.lst (dN (aJ a b)),g):=by
  refine wp_run rfl ?_
  have y:(((a.length:Int)+(b.length:Int)) / 2)=(a.length:Int):=by omega
  have zn:aD a.length=true:=aH (by omega)
  have hd:∀i,gm i 2=true:=λi=>lR (by decide) (by decide)
  simp[nF,hd,y]
  refine lS ?_
  simp[d6,zn]
  refine⟨by omega,?_⟩
  refine jN (λi acc σ h=>(∃n,σ = [none,n,some (.int a.length),some (.tup (a++b))])/\acc=dN ((Zp i).filter (tI a b))/\h=g) _ 0 _ _ [] ⟨⟨none,rfl⟩,rfl,rfl⟩ ?_ ?_
  . rintro i d acc σ h s ⟨⟨n,rfl⟩,rfl,rfl⟩
    obtain⟨c,rfl⟩:=iB s
    simp only[abV]
    have p:(a++b)[i]? = some a[i]:=by rw[Zx c];exact Zs c
    have l:(a++b)[a.length+i]? = some b[i]:=by rw[ZS (by omega)];simp[Zs (show i<b.length by omega)]
    obtain⟨v,m,r,j⟩:=u a[i] (Z2 c)
    obtain⟨z,m',r',k⟩:=x b[i] (Z2 (by omega))
    rw[j]at p
    rw[k]at l
    have q1:=cu p
    have o:=cu l
    simp only[Int.natCast_add]at o
    have f1:num (a.getD i .aq)=m:=by rw[ZC,Zs c,j];rfl
    have f2:num (b.getD i .aq)=m':=by rw[ZC,Zs (show i<b.length by omega),k];rfl
    have f:tI a b i = !(m == m'):=by unfold tI;rw[f1,f2]
    simp[q1,o,Nw,flat,dep,GR,ack,List.filter_append,dN,f]
    by_cases hm:m=m'
    . simp[hm,f]
    . simp[hm,f]
  . rintro xs σ h ⟨_,e,rfl⟩
    simp[d6]at e
    subst e
    simp[aJ]
 obtain⟨q,e,rfl⟩:=key
 exact e
noncomputable def cnt (cs:List (List D)):Nat->Nat->Nat
 | 0,_=>0
 |k+1,j=>cnt cs k j+if j∈aJ (cs.getD k []) (cs.getD (k+1) [])then 1 else 0
structure SD (sd:List D)(f:Nat->Nat)(N:Nat):Prop where
 ka:i5 sd=true
 at_:∀j:Nat,bg sd (.int j)=if f j=0 then none else some (.int (f j))
 len:sd.length<=N
 nr:aX 0 sd=true
theorem SD.put {sd f N}(h:SD sd f N)(j:Nat):SD (bj sd (.int j) (.int (f j+1:Nat))) (λi=>f i+if i=j then 1 else 0) (N+2):=by
 refine⟨wG rfl h.ka,λi=>?_,?_,wH rfl rfl h.nr⟩
 . by_cases e:i=j
   . subst e
     rw[tH rfl h.ka]
     simp
   . rw[yF rfl rfl (λz=>e (by injection z with z;omega)) h.ka,h.at_]
     simp[e]
 . have:∀(xs:List D) k v,(bj xs k v).length<=xs.length+2:=λxs k v=>by
     have:∀(n:Nat) (xs:List D),xs.length<=n->(bj xs k v).length<=xs.length+2:=λn=>by
      induction n with
      |zero=>intro xs c;match xs,c with| [],_=>simp[bj]
      |succ n ih =>
       intro xs c
       match xs,c with
       | [],_=>simp[bj]
       | [a],_=>simp[bj]
       |a::b::r,c =>
        simp only[bj]
        split
        . simp
        . have:=ih r (by simp at c;omega)
          simp;omega
     exact this _ xs (ZA _)
   have:=this sd (.int j) (.int (f j+1:Nat))
   have:=h.len
   omega
noncomputable def cJ (n:Nat)(mv:D)(rd:List D)(nm:Str)(q:Nat)(start:Nat)(o7 o8 o9:Option D):Sg:=[some (.int n),some (.int (2*n:Nat)),some mv,some (.tup rd),some (.fn nm),some (.ax q),some (.int start),o7,o8,o9]
noncomputable def bD (f:Nat->Nat)(l:List Nat):Nat->Nat:=λi=>f i+if i∈l then 1 else 0
noncomputable def d9 (f:Nat->Nat)(mv:D)(l:List Nat):List Nat:=l.filter λj=>aB (.int (f j:Nat)) mv
theorem yJ {rd:List D}{s m:Nat}(h:s+m<=rd.length):cutD rd (some (s:Int)) (some ((s+m:Nat):Int))=(rd.drop s).take m:=by
 unfold cutD
 rw[Ef (by omega),Bv h,show s+m-s=m by omega]
theorem JC {q:Nat}{σ:Sg}{g:G}{l:List Nat}{sd:List D}{f:Nat->Nat}{N:Nat}(hq:g[q]? = some sd)(S:SD sd f N)(nd:l.Nodup)(hN:N+2*l.length<=900)(h5:σ[5]? = some (some (.ax q)))(hlen:σ.length=10):
  ∃sd' o8,forL (gN 8) (aC (ag bC (eA jm jP (ab 5) (aa (ab 8) (aa (fC (.int 0)) af))) (fC (.int 1))) (cX (ab 5) (ab 8))) (dN l) σ g=some (.nx,σ.set 8 o8,g.set q sd')/\SD sd' (bD f l) (N+2*l.length)/\(l = []->σ.set 8 o8=σ):=by
 induction l generalizing σ g sd f N with
 |nil =>
  refine⟨sd,σ[8]'(by omega),?_,⟨S.ka,λj=>by simp[bD,S.at_],S.len,S.nr⟩,λ_=>by simp⟩
  simp only[dN,ac5,forL]
  rw[abY]
  obtain⟨b,e⟩:=Zr.mp hq
  rw[<- e,abY]
 |cons j l ih =>
  rw[aaS]at nd
  simp only[aas]at hN
  have b:=(Zr.mp hq).1
  have S1:=S.put j
  have k:(bg sd (.int j)).getD (.int 0)= .int (f j:Nat):=by
    rw[S.at_ j]
    by_cases e:f j=0
    . simp[e]
    . simp[e]
  have o:ij sd=true:=by unfold ij;exact aH (by have:=S.len;omega)
  have h:(σ.set 8 (some (.int j)))[5]? = some (some (.ax q)):=by rw[ZT (by decide)];exact h5
  have n:(σ.set 8 (some (D.int j)))[8]? = some (some (.int j)):=ZL (by omega)
  have m:aC (ag bC (eA jm jP (ab 5) (aa (ab 8) (aa (fC (.int 0)) af))) (fC (.int 1))) (cX (ab 5) (ab 8)) (σ.set 8 (some (.int j))) g=some (.nx,σ.set 8 (some (.int j)),g.set q (bj sd (.int j) (.int (f j+1:Nat)))):=by
    simp[h,n,hq,k,o]
  obtain⟨sd',o8,c,a,_⟩:=ih (σ:=σ.set 8 (some (.int j))) (g:=g.set q (bj sd (.int j) (.int (f j+1:Nat)))) (ZL b) S1 nd.2 (by omega) h (by simp[hlen])
  refine⟨sd',o8,?_,?_,λz=>by cases z⟩
  . simp only[dN,Z9,forL]at c ⊢
    rw[show gN 8 (D.int j) σ g=some (σ.set 8 (some (.int j)),g) from rfl]
    simp only[Zw,m]
    rw[c,adf,adf]
  . refine⟨a.ka,λi=>?_,by have:=a.len;simp only[aas];omega,a.nr⟩
    rw[a.at_ i]
    have:bD (λi=>f i+if i=j then 1 else 0) l i=bD f (j::l) i:=by
      unfold bD
      by_cases e:i=j
      . subst e;simp[nd.1]
      . simp[e]
    rw[this]
theorem wL {q:Nat}{g:G}{sd:List D}{f:Nat->Nat}{mv:D}(hq:g[q]? = some sd)(fm:flat mv=true):∀(l:List Nat),(∀j∈l,bg sd (.int j)=some (.int (f j:Nat)))->∀o1,a_ (gN 1) (ay (ag oEq (ag ak (ab 3) (ab 1)) (ab 2))) (ab 1) (dN l) [none,o1,some mv,some (.ax q)] g=some (dN (d9 f mv l),g)
 | [],_,_=>rfl
 |j::l,h,o1=>by
  have ih:=wL (f:=f) hq fm l (λi b=>h i (by simp[b])) (some (.int j))
  have a:=h j (by simp)
  have e:oEq (.int (f j:Nat)) mv g=some (.bl (aB (.int (f j:Nat)) mv),g):=by simp[oEq,flat,fm,dep]
  simp only[dN,Z9]at ih ⊢
  simp only[a_]
  simp[hq,a,e]
  by_cases hc:aB (.int (f j:Nat)) mv=true
  . simp[hc,ih,d9,dN]
  . simp[hc,ih,d9,dN]
section
variable {R:Str->Option Fn}{fn:Fn}{nm:Str}{n q start N:Nat}{mv:D}{rd a b sd:List D}{f:Nat->Nat}{g:G}{o7 o8 o9:Option D}
structure yK (R:Str->Option Fn)(fn:Fn)(nm:Str)(n q start N:Nat)(mv:D)(rd a b sd:List D)(f:Nat->Nat)(g:G):Prop where
 hR:R nm=some fn
 hf:lW fn
 hw:(rd.drop start).take (2*n)=a++b
 ha:a.length=n
 hb:b.length=n
 ca:∀c∈a,h_ c
 cb:∀c∈b,h_ c
 n1:1<=n
 CG:n<=20
 hs:start+2*n<=rd.length
 hq:g[q]? = some sd
 S:SD sd f N
 hN:N+2*n<=900
 fm:flat mv=true
theorem wM (H:yK R fn nm n q start N mv rd a b sd f g):(aC (iU R 4 (aa (iy (ab 3) (dD (ab 6)) (dD (ag bC (ab 6) (ab 1)))) af)) (gN 7)) (cJ n mv rd nm q start o7 o8 o9) g=some (.nx,cJ n mv rd nm q start (some (.lst (dN (aJ a b)))) o8 o9,g):=by
 have e:=H.hf a b g (by rw[H.ha,H.hb]) (by rw[H.ha];exact H.CG) H.ca H.cb
 have c:=yJ (rd:=rd) (s:=start) (m:=2*n) H.hs
 rw[H.hw]at c
 have h:iU R 4 (aa (iy (ab 3) (dD (ab 6)) (dD (ag bC (ab 6) (ab 1)))) af) (cJ n mv rd nm q start o7 o8 o9) g=some (.lst (dN (aJ a b)),g):=by
  rw[Cn (y:=nm) (fn:=fn) rfl H.hR]
  have j:(start:Int)+((2*n:Nat):Int)=((start+2*n:Nat):Int):=by simp
  simp[cJ]
  simp only[af9]at j c
  simp[iZ]
  have i:cutD rd (some (start:Int)) (some ((start:Int)+2*(n:Int)))=a++b:=by
   rw[<- c];simp
  rw[i]
  exact e
 rw[dI,h]
 rfl
theorem JD (H:yK R fn nm n q start N mv rd a b sd f g)(h0:aJ a b = []):∃σ',jY R (cJ n mv rd nm q start o7 o8 o9) g=some (.rt (.tup [.int start,.aq]),σ',g):=by
 have z2:aD 2=true:=rfl
 refine⟨cJ n mv rd nm q start (some (.lst (dN (aJ a b)))) o8 o9,?_⟩
 unfold jY
 rw[aK (wM H)]
 unfold EU
 simp[cJ,h0,dN,z2]
theorem CH (H:yK R fn nm n q start N mv rd a b sd f g)(h0:aJ a b ≠ []):∃sd' p8,jY R (cJ n mv rd nm q start o7 o8 o9) g=Ak R (cJ n mv rd nm q start (some (.lst (dN (aJ a b)))) p8 (some (.lst (dN (d9 (bD f (aJ a b)) mv (aJ a b)))))) (g.set q sd')/\SD sd' (bD f (aJ a b)) (N+2*n):=by
 have x:(aJ a b).length<=n:=by
  have:(aJ a b).length<=(Zp a.length).length:=abX _ _
  rw[abT,H.ha]at this
  exact this
 obtain⟨sd',p8,h,S1,_⟩:=JC (l:=aJ a b) (σ:=cJ n mv rd nm q start (some (.lst (dN (aJ a b)))) o8 o9) H.hq H.S CF (by have:=H.hN;omega) rfl rfl
 have e:SD sd' (bD f (aJ a b)) (N+2*n):=⟨S1.ka,S1.at_,by have:=S1.len;omega,S1.nr⟩
 have m:(g.set q sd')[q]? = some sd':=ZL (Zr.mp H.hq).1
 have v:=wL (f:=bD f (aJ a b)) m H.fm (aJ a b) (λj u=>by
  rw[e.at_ j,if_neg]
  simp[bD,u]) none
 refine⟨sd',p8,?_,e⟩
 have s:¬(((aJ a b).length:Int)=0):=λz=>h0 (acB.mp (by omega))
 have o:aD (aJ a b).length=true:=aH (by have:=H.CG;omega)
 unfold jY
 rw[aK (wM H)]
 unfold EU
 have k:(bu (ay (ag oEq (au bN (aa (ab 7) af)) (fC (.int 0)))) (aF (aI aA (aa (ab 6) (aa (fC .aq) af)))) aO) (cJ n mv rd nm q start (some (.lst (dN (aJ a b)))) o8 o9) g=some (.nx,cJ n mv rd nm q start (some (.lst (dN (aJ a b)))) o8 o9,g):=by
  simp[cJ,nG,s,h0]
 rw[aK k]
 unfold Nv
 have p:(gr (cW (ab 7)) (gN 8) (aC (ag bC (eA jm jP (ab 5) (aa (ab 8) (aa (fC (.int 0)) af))) (fC (.int 1))) (cX (ab 5) (ab 8)))) (cJ n mv rd nm q start (some (.lst (dN (aJ a b)))) o8 o9) g=some (.nx,cJ n mv rd nm q start (some (.lst (dN (aJ a b)))) p8 o9,g.set q sd'):=by
  have c:cW (ab 7) (cJ n mv rd nm q start (some (.lst (dN (aJ a b)))) o8 o9) g=some (dN (aJ a b),g):=rfl
  show((cW (ab 7) (cJ n mv rd nm q start (some (.lst (dN (aJ a b)))) o8 o9) g).bind λr=>forL _ _ r.1 _ r.2)=_
  rw[c,Zw,h]
  rfl
 rw[aK p]
 unfold Nu
 have i:(aC (bP b4 (cW (ab 7)) [none,none,some 2,some 5] (gN 1) (ay (ag oEq (ag ak (ab 3) (ab 1)) (ab 2))) (ab 1)) (gN 9)) (cJ n mv rd nm q start (some (.lst (dN (aJ a b)))) p8 o9) (g.set q sd')=some (.nx,cJ n mv rd nm q start (some (.lst (dN (aJ a b)))) p8 (some (.lst (dN (d9 (bD f (aJ a b)) mv (aJ a b))))),g.set q sd'):=by
  refine hU ?_
  have c:cW (ab 7) (cJ n mv rd nm q start (some (.lst (dN (aJ a b)))) p8 o9) (g.set q sd')=some (dN (aJ a b),g.set q sd'):=rfl
  simp only[er,c,Zw,nG,o,if_true]
  show((a_ (gN 1) _ _ (dN (aJ a b)) [none,none,some mv,some (.ax q)] (g.set q sd')).bind _)=_
  rw[v]
  rfl
 rw[aK i]
end
section
variable {R:Str->Option Fn}{fn:Fn}{nm:Str}{n q start N:Nat}{mv:D}{rd a b sd:List D}{f:Nat->Nat}{g:G}{o7 o8 o9:Option D}
theorem GY (H:yK R fn nm n q start N mv rd a b sd f g)(h0:aJ a b ≠ [])(h1:d9 (bD f (aJ a b)) mv (aJ a b)= []):∃sd' p7 p8 p9,jY R (cJ n mv rd nm q start o7 o8 o9) g=some (.nx,cJ n mv rd nm q (start+n) p7 p8 p9,g.set q sd')/\SD sd' (bD f (aJ a b)) (N+2*n):=by
 obtain⟨sd',p8,e,S⟩:=CH (o7:=o7) (o8:=o8) (o9:=o9) H h0
 refine⟨sd',some (.lst (dN (aJ a b))),p8,some (.lst (dN [])),?_,S⟩
 rw[e,h1]
 unfold Ak Nt
 simp[cJ,dN]
theorem Nx {l:List Nat}{j0:Nat}{g:G}(h:j0∈l)(hm:∀j∈l,j0<=j):fP kC iK [.lst (dN l)] g=some (.int j0,g):=by
 have e:et (dN l)=some (l.map λ(j:Nat)=>(j:Int)):=by
  have:=ints_map (l.map λ(j:Nat)=>(j:Int))
  rw[adg]at this
  exact this
 have m:(l.map λ(j:Nat)=>(j:Int)).min? = some (j0:Int):=by
  rw[aeB]
  refine⟨Z8.mpr ⟨j0,h,rfl⟩,λb c=>?_⟩
  obtain⟨j,a,rfl⟩:=Z8.mp c
  have:=hm j a
  omega
 show iK [.lst (dN l)] g=_
 simp[jh,e,m]
theorem Ny (H:yK R fn nm n q start N mv rd a b sd f g)(h0:aJ a b ≠ []){j0:Nat}(h1:j0∈d9 (bD f (aJ a b)) mv (aJ a b))(h2:∀j∈d9 (bD f (aJ a b)) mv (aJ a b),j0<=j):∃sd' σ',jY R (cJ n mv rd nm q start o7 o8 o9) g=some (.rt (.tup [.int start,.int j0]),σ',g.set q sd'):=by
 obtain⟨sd',c,e,S⟩:=CH (o7:=o7) (o8:=o8) (o9:=o9) H h0
 refine⟨sd',cJ n mv rd nm q start (some (.lst (dN (aJ a b)))) c (some (.lst (dN (d9 (bD f (aJ a b)) mv (aJ a b))))),?_⟩
 rw[e]
 have hm:=Nx (g:=g.set q sd') h1 h2
 have h:0<(d9 (bD f (aJ a b)) mv (aJ a b)).length:=List.length_pos_of_mem h1
 have z2:aD 2=true:=rfl
 unfold Ak
 simp[cJ,nG,h,hm,z2]
end
theorem nH {n:Nat}{rest:List D}:∀{cs:List (List D)} {k:Nat},(∀c∈cs,c.length=n)->k<=cs.length->(cs.flatten++rest).drop (k*n)=(cs.drop k).flatten++rest
 |cs,0,_,_=>by simp
 | [],k+1,_,h=>by simp at h
 |c::cs,k+1,hl,h=>by
  have a:c.length=n:=hl c (by simp)
  have ih:=nH (rest:=rest) (cs:=cs) (k:=k) (λx b=>hl x (by simp[b])) (by simpa using h)
  rw[aaj,aak,show(k+1)*n=c.length+k*n by rw[aaQ,a];omega,List.drop_length_add_append,ih]
  simp
theorem iD {n:Nat}:∀{cs:List (List D)},(∀c∈cs,c.length=n)->cs.flatten.length=cs.length*n
 | [],_=>by simp
 |c::cs,h=>by
  rw[aaj,ZE,iD λx a=>h x (by simp[a]),h c (by simp),aas,aaQ]
  omega
theorem EV {n k:Nat}{rest:List D}{cs:List (List D)}(hl:∀c∈cs,c.length=n)(h:k+1<cs.length):((cs.flatten++rest).drop (k*n)).take (2*n)=cs.getD k []++cs.getD (k+1) []:=by
 rw[nH hl (by omega)]
 have e:cs.drop k=cs.getD k []::cs.getD (k+1) []::cs.drop (k+2):=by
  rw[aaT (by omega),aaT (by omega)]
  simp[ZC,Zs h,Zs (show k<cs.length by omega)]
 have b:(cs.getD k []).length=n:=by
  rw[ZC,Zs (show k<cs.length by omega)]
  exact hl _ (Z2 _)
 have a:(cs.getD (k+1) []).length=n:=by
  rw[ZC,Zs h]
  exact hl _ (Z2 _)
 rw[e,aaj,aaj,<- aak,aak,adj (by rw[ZE,b,a];omega),abk (by rw[ZE,b,a];omega)]
theorem gH {cs:List (List D)}{k:Nat}:bD (cnt cs k) (aJ (cs.getD k []) (cs.getD (k+1) []))=cnt cs (k+1):=rfl
def Goes (mv:D)(cs:List (List D))(i:Nat):Prop:=aJ (cs.getD i []) (cs.getD (i+1) []) ≠ []/\d9 (cnt cs (i+1)) mv (aJ (cs.getD i []) (cs.getD (i+1) []))= []
noncomputable def fB (mv:D)(cs:List (List D))(i:Nat):Option Nat->Prop
 |none=>aJ (cs.getD i []) (cs.getD (i+1) [])= []
 |some j=>aJ (cs.getD i []) (cs.getD (i+1) []) ≠ []/\j∈d9 (cnt cs (i+1)) mv (aJ (cs.getD i []) (cs.getD (i+1) [])) /\ ∀k∈d9 (cnt cs (i+1)) mv (aJ (cs.getD i []) (cs.getD (i+1) [])),j<=k
noncomputable def eD:Option Nat->D
 |none=>.aq
 |some j=>.int j
structure lx (n:Nat)(cs:List (List D)):Prop where
 len:∀c∈cs,c.length=n
 all:∀c∈cs,∀x∈c,h_ x
 n1:1<=n
 CG:n<=20
 ia:cs.length*n<=400
theorem lx.getD {n cs k}(h:lx n cs)(hk:k<cs.length):(cs.getD k []).length=n /\ ∀x∈cs.getD k [],h_ x:=by
 rw[ZC,Zs hk]
 exact⟨h.len _ (Z2 _),h.all _ (Z2 _)⟩
section
variable {R:Str->Option Fn}{fn:Fn}{nm:Str}{n q:Nat}{mv:D}{rest:List D}{cs:List (List D)}
theorem wN (hR:R nm=some fn)(hf:lW fn)(D:lx n cs)(fm:flat mv=true){k:Nat}{g:G}{sd:List L3.D}(h:k+1<cs.length)(hq:g[q]? = some sd)(S:SD sd (cnt cs k) (k*(2*n))):
   yK R fn nm n q (k*n) (k*(2*n)) mv (cs.flatten++rest) (cs.getD k []) (cs.getD (k+1) []) sd (cnt cs k) g:=by
 obtain⟨a,b⟩:=D.getD (k:=k) (by omega)
 obtain⟨f,c⟩:=D.getD (k:=k+1) h
 refine⟨hR,hf,EV D.len h,a,f,b,c,D.n1,D.CG,?_,hq,S,?_,fm⟩
 . rw[ZE,iD D.len]
   have:(k+2)*n<=cs.length*n:=aeP _ (by omega)
   rw[aaQ]at this
   omega
 . have i:=D.ia
   have:(k+2)*n<=cs.length*n:=aeP _ (by omega)
   rw[aaQ]at this
   have e:k*(2*n)=2*(k*n):=by rw[Nat.mul_left_comm]
   omega
theorem lY {start:Nat}{rd:List L3.D}{o7 o8 o9:Option L3.D}{g:G}(h:start+2*n<=rd.length):pd (cJ n mv rd nm q start o7 o8 o9) g=some (true,g):=by
 have e:((start:Int)+2*(n:Int)<=(rd.length:Int)):=by omega
 simp[pd,cJ,gR,e]
theorem tK {start:Nat}{rd:List L3.D}{o7 o8 o9:Option L3.D}{g:G}(h:rd.length<start+2*n):pd (cJ n mv rd nm q start o7 o8 o9) g=some (false,g):=by
 have e:¬((start:Int)+2*(n:Int)<=(rd.length:Int)):=by omega
 simp[pd,cJ,gR,e]
theorem yL (hR:R nm=some fn)(hf:lW fn)(D:lx n cs)(fm:flat mv=true)(hr:rest.length<n):∀(m k fuel:Nat) (g:G) (sd:List L3.D) (o7 o8 o9:Option L3.D),k+1+m=cs.length->m<fuel->g[q]? = some sd->SD sd (cnt cs k) (k*(2*n))->(∀i,k<=i->i+1<cs.length->Goes mv cs i) ->
  ∃σ' sd',kf pd (jY R) fuel (cJ n mv (cs.flatten++rest) nm q (k*n) o7 o8 o9) g=some (.nx,σ',g.set q sd')/\aX 0 sd'=true
 | 0,k,fuel+1,g,sd,o7,o8,o9,hk,Nz,hq,S,hg=>by
  refine⟨cJ n mv (cs.flatten++rest) nm q (k*n) o7 o8 o9,sd,?_,S.nr⟩
  simp only[kf]
  rw[tK (by
   rw[ZE,iD D.len,<- hk]
   simp only[Nat.add_zero]
   rw[aaQ]
   omega)]
  obtain⟨b,e⟩:=Zr.mp hq
  simp only[Zw,Z1,if_false]
  rw[<- e,abY]
 |m+1,k,fuel+1,g,sd,o7,o8,o9,hk,Nz,hq,S,hg=>by
  have H:=wN (rest:=rest) hR hf D fm (show k+1<cs.length by omega) hq S
  obtain⟨h0,j⟩:=hg k (ZA _) (by omega)
  obtain⟨sd',l,c,f,e,a⟩:=GY (o7:=o7) (o8:=o8) (o9:=o9) H h0 (by rw[gH];exact j)
  rw[gH]at a
  have b:=(Zr.mp hq).1
  obtain⟨σ',h,o,n2⟩:=yL hR hf D fm hr m (k+1) fuel (g.set q sd') sd' l c f (by omega) (by omega) (ZL b) ⟨a.ka,a.at_,by have:=a.len;rw[aaQ];omega,a.nr⟩ λi p=>hg i (by omega)
  refine⟨σ',h,?_,n2⟩
  simp only[kf]
  rw[lY H.hs]
  simp only[Zw,if_true,e]
  rw[show k*n+n=(k+1)*n by rw[aaQ];omega,o,adf]
theorem yM (hR:R nm=some fn)(hf:lW fn)(D:lx n cs)(fm:flat mv=true){en:Option Nat}:∀(m k fuel:Nat) (g:G) (sd:List L3.D) (o7 o8 o9:Option L3.D),k+2+m=cs.length->m<fuel->g[q]? = some sd->SD sd (cnt cs k) (k*(2*n))->(∀i,k<=i->i+2<cs.length->Goes mv cs i)->fB mv cs (cs.length-2) en ->
  ∃σ' sd',kf pd (jY R) fuel (cJ n mv (cs.flatten++rest) nm q (k*n) o7 o8 o9) g=some (.rt (.tup [.int ((cs.length-2)*n:Nat),eD en]),σ',g.set q sd')
 | 0,k,fuel+1,g,sd,o7,o8,o9,hk,Nz,hq,S,hg,he=>by
  have H:=wN (rest:=rest) hR hf D fm (show k+1<cs.length by omega) hq S
  have s:cs.length-2=k:=by omega
  rw[s]at he ⊢
  cases en with
  |none =>
   obtain⟨σ',e⟩:=JD (o7:=o7) (o8:=o8) (o9:=o9) H he
   refine⟨σ',sd,?_⟩
   simp only[kf]
   rw[lY H.hs]
   simp only[Zw,if_true,e]
   obtain⟨c,u⟩:=Zr.mp hq
   rw[<- u,abY]
   rfl
  |some j =>
   obtain⟨h0,b,f⟩:=he
   rw[<- gH]at b f
   obtain⟨sd',σ',e⟩:=Ny (o7:=o7) (o8:=o8) (o9:=o9) H h0 b f
   refine⟨σ',sd',?_⟩
   simp only[kf]
   rw[lY H.hs]
   simp only[Zw,if_true,e]
   rfl
 |m+1,k,fuel+1,g,sd,o7,o8,o9,hk,Nz,hq,S,hg,he=>by
  have H:=wN (rest:=rest) hR hf D fm (show k+1<cs.length by omega) hq S
  obtain⟨h0,b⟩:=hg k (ZA _) (by omega)
  obtain⟨sd',p,h,l,e,a⟩:=GY (o7:=o7) (o8:=o8) (o9:=o9) H h0 (by rw[gH];exact b)
  rw[gH]at a
  have c:=(Zr.mp hq).1
  obtain⟨σ',o,r⟩:=yM hR hf D fm (en:=en) m (k+1) fuel (g.set q sd') sd' p h l (by omega) (by omega) (ZL c) ⟨a.ka,a.at_,by have:=a.len;rw[aaQ];omega,a.nr⟩ (λi v=>hg i (by omega)) he
  refine⟨σ',o,?_⟩
  simp only[kf]
  rw[lY H.hs]
  simp only[Zw,if_true,e]
  rw[show k*n+n=(k+1)*n by rw[aaQ];omega,r,adf]
end
theorem last_eq {R:Str->Option Fn}:eC R=aw (aC qC (gN 5)) (aw (aC (fC (.int 0)) (gN 6)) (aw (Gi 1000000 pd (jY R)) (aF (fC .aq)))):=rfl
section
variable {R:Str->Option Fn}{fn:Fn}{nm:Str}{n:Nat}{mv:D}{rest:List D}{cs:List (List D)}{g:G}
theorem CI {g g':G}(h:Bd g)(e:g'.take g.length=g):(g'.take g.length).all (aX g.length)=true:=by
 rw[e,ZY]
 intro x b
 obtain⟨i,a⟩:=aah.mp b
 exact h i x a
theorem take_set {g:G}{sd:List D}:((g ++ [[]]).set g.length sd).take g.length=g:=by
 rw[acV _ _ (ZA _)]
 simp
theorem last_run {d:D}{σ':Sg}{sd' rd:List D}(hb:Bd g)(hd:b5 g.length d=true)(h:kf pd (jY R) 1000000 (cJ n mv rd nm g.length 0 none none none) (g ++ [[]])=some (.rt d,σ',(g ++ [[]]).set g.length sd')):ao false 10 5 (eC R) [.int n,.int (2*n:Nat),mv,.tup rd,.fn nm] g=some (d,g):=by
 have key:wp (ao false 10 5 (eC R) [.int n,.int (2*n:Nat),mv,.tup rd,.fn nm] g) λq=>q=(d,g):=by
  refine fI rfl ?_
  have e:eC R ([D.int n,.int (2*n:Nat),mv,.tup rd,.fn nm].map some++Zo (10-5) none) g=some (.rt d,σ',(g ++ [[]]).set g.length sd'):=by
   rw[last_eq,aK (σ1:=[some (.int n),some (.int (2*n:Nat)),some mv,some (.tup rd),some (.fn nm),some (.ax g.length),none,none,none,none]) (g1:=g ++ [[]]) rfl,aK (σ1:=cJ n mv rd nm g.length 0 none none none) (g1:=g ++ [[]]) rfl]
   exact qV h
  rw[e]
  simp only[fH]
  exact⟨hd,CI hb take_set,by simp,by rw[take_set]⟩
 obtain⟨q,e,rfl⟩:=key
 exact e
theorem tL {σ':Sg}{sd' rd:List D}(hb:Bd g)(h:kf pd (jY R) 1000000 (cJ n mv rd nm g.length 0 none none none) (g ++ [[]])=some (.nx,σ',(g ++ [[]]).set g.length sd')):ao false 10 5 (eC R) [.int n,.int (2*n:Nat),mv,.tup rd,.fn nm] g=some (.aq,g):=by
 have key:wp (ao false 10 5 (eC R) [.int n,.int (2*n:Nat),mv,.tup rd,.fn nm] g) λq=>q=(.aq,g):=by
  refine fI rfl ?_
  have e:eC R ([D.int n,.int (2*n:Nat),mv,.tup rd,.fn nm].map some++Zo (10-5) none) g=some (.rt .aq,σ',(g ++ [[]]).set g.length sd'):=by
   rw[last_eq,aK (σ1:=[some (.int n),some (.int (2*n:Nat)),some mv,some (.tup rd),some (.fn nm),some (.ax g.length),none,none,none,none]) (g1:=g ++ [[]]) rfl,aK (σ1:=cJ n mv rd nm g.length 0 none none none) (g1:=g ++ [[]]) rfl]
   exact(aK h).trans rfl
  rw[e]
  simp only[fH]
  exact⟨rfl,CI hb take_set,by simp,by rw[take_set]⟩
 obtain⟨q,e,rfl⟩:=key
 exact e
theorem CJ (hR:R nm=some fn)(hf:lW fn)(Dd:lx n cs)(fm:flat mv=true)(hr:rest.length<n)(hb:Bd g)(hg:∀i,i+1<cs.length->Goes mv cs i):ao false 10 5 (eC R) [.int n,.int (2*n:Nat),mv,.tup (cs.flatten++rest),.fn nm] g=some (.aq,g):=by
 by_cases h0:cs = []
 . subst h0
   refine tL (sd':=[]) (σ':=cJ n mv rest nm g.length 0 none none none) hb ?_
   show((pd _ _).bind _)=_
   rw[List.flatten_nil,abp,tK (by omega)]
   simp only[Zw,Z1,if_false]
   rw[acV _ _ (ZA _)]
   simp
 . have a:0<cs.length:=aaR.mpr h0
   obtain⟨σ',sd',e,_⟩:=yL (q:=g.length) (rest:=rest) hR hf Dd fm hr (cs.length-1) 0 1000000 (g ++ [[]]) [] none none none (by omega) (by have:=Dd.ia;have:=aea cs.length Dd.n1;omega) (by simp) (by rw[ad9];exact⟨rfl,λj=>by simp[bg,cnt],by simp,rfl⟩) λi _=>hg i
   rw[ad9]at e
   exact tL hb e
theorem CK (hR:R nm=some fn)(hf:lW fn)(Dd:lx n cs)(fm:flat mv=true)(hb:Bd g)(h2:2<=cs.length){en:Option Nat}(hg:∀i,i+2<cs.length->Goes mv cs i)(he:fB mv cs (cs.length-2) en):ao false 10 5 (eC R) [.int n,.int (2*n:Nat),mv,.tup (cs.flatten++rest),.fn nm] g=some (.tup [.int ((cs.length-2)*n:Nat),eD en],g):=by
 obtain⟨b,a,e⟩:=yM (q:=g.length) (rest:=rest) hR hf Dd fm (cs.length-2) 0 1000000 (g ++ [[]]) [] none none none (by omega) (by have:=Dd.ia;have:=aea cs.length Dd.n1;omega) (by simp) (by rw[ad9];exact⟨rfl,λj=>by simp[bg,cnt],by simp,rfl⟩) (λi _=>hg i) he
 rw[ad9]at e
 refine last_run hb ?_ e
 cases en<;>simp[b5,aX,eD]
end
noncomputable def NB (nm:Str)(hands last moves:Fn):FS:=aF (aI aA (aa (aI aA (aa (fC (.str "told")) (aa (ag ak (ag ak (ab 5) (ag ak (ab 3) (fC (.int 1)))) (fC (.int 2))) af))) (aa (ab 4) af)))
noncomputable def NC (nm:Str)(hands last moves:Fn):FS:=aw (bu (ay (ag mY (ag ak (ab 3) (fC (.int 1))) (fC .aq))) (aF (aI aA (aa (aI aA (aa (fC (.str "told")) (aa (au dG (aa (bP b4 (cW (ab 5)) [none,none] (gN 1) bp (ag ak (ab 1) (fC (.int 0)))) af)) af))) (aa (ab 4) af)))) aO) (NB nm hands last moves)
noncomputable def ND (nm:Str)(hands last moves:Fn):FS:=aw (aC (iy (ab 1) (dD (ag (cI kh (· - ·)) (ab 4) (ab 2))) (dD (ab 4))) (gN 5)) (NC nm hands last moves)
noncomputable def NF (nm:Str)(hands last moves:Fn):FS:=aw (aC (ag bC (ag ak (ab 3) (fC (.int 0))) (ag dq (fC (.int 2)) (ab 2))) (gN 4)) (ND nm hands last moves)
noncomputable def EW (nm:Str)(hands last moves:Fn):FS:=aw (bu (ay (ag mY (ab 3) (fC .aq))) (aF (aI aA (aa (aI aA (aa (fC (.str "read")) (aa (aI aA (aa (fC (.str "own")) (aa (ag (cI cj (· % ·)) (au bN (aa (ab 1) af)) (ab 2)) af))) af))) (aa (au bN (aa (ab 1) af)) af)))) aO) (NF nm hands last moves)
noncomputable def EY (nm:Str)(hands last moves:Fn):FS:=aw (aC (au last (aa (ab 2) (aa (ag dq (fC (.int 2)) (ab 2)) (aa (au moves (aa (ab 0) af)) (aa (ab 1) (aa (fC (.fn nm)) af)))))) (gN 3)) (EW nm hands last moves)
noncomputable def nI (nm:Str)(hands last moves:Fn):FS:=aw (aC (au hands (aa (ab 0) af)) (gN 2)) (EY nm hands last moves)
noncomputable def gz:D->D
 |.tup (v::_)=>v
 |_=>.aq
noncomputable def NG:D->D
 |.tup (_::_::w::_)=>w
 |_=>.aq
noncomputable def fZ (c:List D):Option Nat->D
 |none=>.tup (c.map gz)
 |some j=>NG (c.getD j .aq)
section
variable {R:Str->Option Fn}{fn:Fn}{nm:Str}{n:Nat}{mv m:D}{rest:List D}{cs:List (List D)}{g:G}{hands moves:Fn}
theorem JE (hh:∀g,hands [m] g=some (.int n,g))(hm:∀g,moves [m] g=some (mv,g))(hR:R nm=some fn)(hf:lW fn)(Dd:lx n cs)(fm:flat mv=true)(hr:rest.length<n)(hb:Bd g)(hg:∀i,i+1<cs.length->Goes mv cs i):
  ao false 6 2 (nI nm hands (ao false 10 5 (eC R)) moves) [m,.tup (cs.flatten++rest)] g=some (.tup [.tup [.str "read",own "own" ((cs.flatten++rest).length % n)],.int (cs.flatten++rest).length],g):=by
 have e:=CJ hR hf Dd fm hr hb hg
 have n1:=Dd.n1
 have h:((n:Int))≠0:=by omega
 have z2:aD 2=true:=rfl
 have c:dn 2 (n:Int)=true:=iA (by decide) (by decide)
 have a:∀i:Int,cj i (n:Int)=true:=λi=>fz (by omega)
 have f:((2*n:Nat):Int)=2*(n:Int):=by simp
 rw[f]at e
 have key:wp (ao false 6 2 (nI nm hands (ao false 10 5 (eC R)) moves) [m,.tup (cs.flatten++rest)] g) λq=>q=(.tup [.tup [.str "read",own "own" ((cs.flatten++rest).length % n)],.int (cs.flatten++rest).length],g):=by
  generalize cs.flatten++rest=rd at e ⊢
  refine wp_run rfl ?_
  simp[nI,hh]
  unfold EY
  simp[hh,hm,c,e]
  unfold EW
  have b:mY .aq .aq g=some (.bl true,g):=rfl
  simp[b,z2,a,own,show b8 .aq=true from rfl]
 obtain⟨q,e,rfl⟩:=key
 exact e
theorem EZ {k:Nat}(Dd:lx n cs)(h:k<cs.length):((cs.flatten++rest).drop (k*n)).take n=cs.getD k []:=by
 rw[nH Dd.len (by omega),aaT h,aaj,aak]
 have a:cs[k].length=n:=Dd.len _ (Z2 _)
 rw[adj (by omega),abk (by omega),ZC,Zs h]
 rfl
theorem iq {g:G}:∀(c:List D),(∀x∈c,h_ x)->∀o1,a_ (gN 1) bp (ag ak (ab 1) (fC (.int 0))) c [none,o1] g=some (c.map gz,g)
 | [],_,_=>rfl
 |x::c,h,o1=>by
  have ih:=iq (g:=g) c (λy b=>h y (by simp[b])) (some x)
  obtain⟨v,m,r,rfl⟩:=h x (by simp)
  have a:bJ (v :: .int m::r) 0=some v:=cu (n:=0) rfl
  simp only[a_]
  simp[a,ih,gz]
theorem JF (hh:∀g,hands [m] g=some (.int n,g))(hm:∀g,moves [m] g=some (mv,g))(hR:R nm=some fn)(hf:lW fn)(Dd:lx n cs)(fm:flat mv=true)(hb:Bd g)(h2:2<=cs.length){en:Option Nat}(hg:∀i,i+2<cs.length->Goes mv cs i)(he:fB mv cs (cs.length-2) en)
  (h3:en≠none->∀c∈cs,∀x∈c,∃v m w,x = .tup [v,.int m,w]):
  ao false 6 2 (nI nm hands (ao false 10 5 (eC R)) moves) [m,.tup (cs.flatten++rest)] g=some (.tup [.tup [.str "told",fZ (cs.getD (cs.length-1) []) en],.int (cs.length*n:Nat)],g):=by
 have e:=CK (rest:=rest) hR hf Dd fm hb h2 hg he
 have n1:=Dd.n1
 have z2:aD 2=true:=rfl
 have o:dn 2 (n:Int)=true:=iA (by decide) (by decide)
 have e2:((2*n:Nat):Int)=2*(n:Int):=by simp
 rw[e2]at e
 have hlen:cs.length*n<=(cs.flatten++rest).length:=by rw[ZE,iD Dd.len];omega
 have l:(((cs.length-2)*n:Nat):Int)+2*(n:Int)=((cs.length*n:Nat):Int):=by
  have:(cs.length-2)*n+2*n=cs.length*n:=by rw[<- aaQ];congr 1;omega
  rw[<- this];simp
 have z:((cs.length*n:Nat):Int)-(n:Int)=(((cs.length-1)*n:Nat):Int):=by
  have:(cs.length-1)*n+n=cs.length*n:=by rw[show(cs.length-1)*n+n=(cs.length-1+1)*n by rw[aaQ];omega];congr 1;omega
  omega
 have ec:cutD (cs.flatten++rest) (some (((cs.length-1)*n:Nat):Int)) (some ((cs.length*n:Nat):Int))=cs.getD (cs.length-1) []:=by
  have h1:(cs.length-1)*n+n=cs.length*n:=by rw[show(cs.length-1)*n+n=(cs.length-1+1)*n by rw[aaQ];omega];congr 1;omega
  have:=yJ (rd:=cs.flatten++rest) (s:=(cs.length-1)*n) (m:=n) (by omega)
  rw[h1]at this
  rw[this,EZ Dd (by omega)]
 obtain⟨b,f⟩:=Dd.getD (k:=cs.length-1) (by omega)
 have p:cs.getD (cs.length-1) []∈cs:=by
  rw[ZC,Zs (show cs.length-1<cs.length by omega)]
  exact Z2 _
 have key:wp (ao false 6 2 (nI nm hands (ao false 10 5 (eC R)) moves) [m,.tup (cs.flatten++rest)] g) λq=>q=(.tup [.tup [.str "told",fZ (cs.getD (cs.length-1) []) en],.int (cs.length*n:Nat)],g):=by
  generalize cs.flatten++rest=rd at e ec hlen ⊢
  generalize hL:cs.getD (cs.length-1) []=c at ec b f p ⊢
  generalize (cs.length-2)*n=u0 at e l
  generalize cs.length*n=u1 at *
  generalize (cs.length-1)*n=u2 at *
  refine wp_run rfl ?_
  simp[nI,hh]
  unfold EY
  simp[hh,hm,o,e]
  unfold EW
  have u:b8 (.tup [.int u0,eD en])=false:=rfl
  simp[u]
  unfold NF
  simp[iM,o,l]
  unfold ND
  simp[z,iZ,ec]
  unfold NC
  cases en with
  |none =>
   have zc:aD c.length=true:=by rw[b];exact aH (by have:=Dd.CG;omega)
   have y:=iq (g:=g) c f none
   simp[iN,eD,show b8 .aq=true from rfl,zc,y,z2,fZ]
  |some j =>
   obtain⟨_,hj,_⟩:=he
   have a:j<c.length:=by
    have:=lu (aaE.mp hj).1
    obtain⟨l3,_⟩:=Dd.getD (k:=cs.length-2) (by omega)
    omega
   obtain⟨v,k,w,h⟩:=h3 (by simp) c p c[j] (Z2 a)
   have a1:bJ c (j:Int)=some (.tup [v,.int k,w]):=cu (by rw[Zs a,h])
   have a2:bJ [v,.int k,w] 2=some w:=rfl
   have r:fZ c (some j)=w:=by
    simp only[fZ]
    rw[ZC,Zs a,h]
    rfl
   simp[iN,eD,show b8 (.int (j:Int))=false from rfl]
   unfold NB
   simp[iN,a1,a2,z2,r]
 obtain⟨q,e,rfl⟩:=key
 exact e
end
end Wd
namespace Rm
open PySem L3 L2 Pd RI Bx Dw
def R5 (es:Es)(cs:List D):Prop:=∀(j:Nat) c,cs[j]? = some c->(Zt "own",[(j:Int)],c)∈es
noncomputable def GZ (w:Str)(cs:List D):List D:=if w=Zt "once" then cs else cs.map Wd.gz
theorem E3 {pX:Fn}{w:Str}{mr:List D}{n:Nat}{es:Es}{cs:List D}{g:G}(hc:∀g,pX [.tup (.str w::mr)] g=some (.tup (keys "own" n),g))(hn:n<=20)(hl:cs.length=n)(E:CB es)(C:R5 es cs)(hi:¬w=Zt "once"->∀c∈cs,Wd.h_ c)(hf:∀c∈cs,flat c=true)(b:Wd.Bd g):
  ao false 4 2 (ou pX) [.tup (.str w::mr),.tup (es.map ent)] g=some (.tup (GZ w cs),g):=by
 have key:wp (ao false 4 2 (ou pX) [.tup (.str w::mr),.tup (es.map ent)] g) λq=>q=(.tup (GZ w cs),g):=by
  refine fI rfl ?_
  have h:=GV (g:=g) E
  have l:aD (keys "own" n).length=true:=aH (by simp[keys];omega)
  have u:a_ (gN 1) bp (ag ak (ab 2) (ab 1)) (keys "own" n) [none,none,some (.ax g.length)] (g ++ [bq es])=some (cs,g ++ [bq es]):=by
    have:wp (a_ (gN 1) bp (ag ak (ab 2) (ab 1)) (keys "own" n) [none,none,some (.ax g.length)] (g ++ [bq es])) λq=>q=(cs,g ++ [bq es]):=by
     refine jN (λj acc σ f=>(∃i,σ = [none,i,some (.ax g.length)])/\acc=cs.take j/\f=g ++ [bq es]) _ 0 _ _ [] ⟨⟨none,rfl⟩,by simp,rfl⟩ ?_ ?_
     . rintro j x acc σ f hj ⟨⟨i,rfl⟩,rfl,rfl⟩
       obtain⟨Zc,rfl⟩:=Jy hj
       obtain⟨c,k⟩:∃c,cs[j]? = some c:=⟨_,Zs (by omega)⟩
       have:=nz E.nd (C j c k)
       simp only[ky]at this
       simp[rZ,this]
       rw[List.take_succ,k]
       rfl
     . rintro xs σ f ⟨_,e,rfl⟩
       simp only[abp,abV]at e
       rw[abk (by simp[keys];omega)]at e
       rw[e]
    obtain⟨q,e,rfl⟩:=this
    exact e
  have p:aD cs.length=true:=aH (by omega)
  have fin:=wI b
  have o:∀(a b c d:Option D),bZ [none,none,some 2] [a,b,c,d]= [none,none,c]:=λ_ _ _ _=>rfl
  have z:∀(σ:Sg),bZ [none,none] σ = [none,none]:=λ_=>rfl
  have n1:b5 g.length (.tup cs)=true:=by
    simp only[b5]
    exact cG _ (bH hf)
  unfold GZ
  by_cases hw:w=Zt "once"
  . generalize es.map ent=A at *
    rw[if_pos hw]
    subst hw
    simp[ou,h,hc,l,o,u,bQ,p]
    exact⟨n1,fin⟩
  . rw[if_neg hw]
    have e3:=Wd.iq (g:=g ++ [bq es]) cs (hi hw) none
    have n2:b5 g.length (.tup (cs.map Wd.gz))=true:=by
     simp only[b5]
     refine cG _ (bH λx y=>?_)
     obtain⟨c,s,rfl⟩:=Z8.mp y
     obtain⟨v,m,r,rfl⟩:=hi hw c s
     have:=hf _ s
     simp only[flat,aN,Zv]at this
     exact this.1
    have zv:aD (cs.map Wd.gz).length=true:=aH (by simp;omega)
    have ne:(w == Zt "once")=false:=by simp[hw]
    generalize es.map ent=A at *
    generalize cs.map Wd.gz=V at *
    simp[ou,h,hc,l,o,u,bQ,p,ne,z,e3,zv]
    exact⟨n2,fin⟩
 obtain⟨q,e,rfl⟩:=key
 exact e
theorem p1:(Zt "put" == Zt "look")=false:=by decide
theorem CL {state:Fn}{m R:D}{h:Nat}{xs:List D}{g:G}:ao false 5 4 (jW state) [m,R,.int h,.tup (.str "put" :: xs)] g=some (.tup [],g):=by
 refine aQ (σ':=[some m,some R,some (.int h),some (.tup (.str "put" :: xs)),none]) rfl ?_ rfl
 have f1:aB (.str "put") (.str "look")=false:=rfl
 simp[jW,bQ,flat,dep,f1]
theorem Al {state:Fn}{w:Str}{mr:List D}{es:Es}{rs:List Row}{h:Nat}{r0:Row}{s:D}{g:G}(hw:¬w=Zt "tables")(hr:rs[h]? = some r0)(hs:state [.tup (.str w::mr),aM es rs] g=some (s,g)):
   ao false 5 4 (jW state) [.tup (.str w::mr),aM es rs,.int h,.tup [.str "look"]] g=some (.tup (if r0.2.1 = []then [s]else r0.2.2),g):=by
 have a2:bJ (rs.map aL) (h:Int)=some (aL r0):=cu (by rw[ZG,hr];rfl)
 have b:∀g,ak (aM es rs) (.int 1) g=some (.tup (rs.map aL),g):=λg=>by simp[aM,iN]
 have a:∀g,ak (aL r0) (.int 1) g=some (.tup r0.2.1,g):=λg=>by simp[aL,jV]
 have y2:∀g,ak (aL r0) (.int 2) g=some (.tup r0.2.2,g):=λg=>by simp[aL,nE]
 have c:(w == Zt "tables")=false:=by simp[hw]
 have f1:aB (.str "look") (.str "look")=true:=rfl
 generalize aM es rs=R at *
 generalize aL r0=e at *
 refine aQ (σ':=[some (.tup (.str w::mr)),some R,some (.int h),some (.tup [.str "look"]),some e]) rfl ?_ rfl
 by_cases h0:r0.2.1 = []
 . simp[jW,bQ,flat,dep,f1,c,b,a2,a,h0,hs,z1]
 . have:0<r0.2.1.length:=aaR.mpr h0
   simp[jW,bQ,flat,dep,f1,c,b,a2,a,y2,h0,this]
theorem E4 {cq:Fn}{m s:D}{es:Es}{rs:List Row}{g:G}(h:cq [m,.tup (es.map ent)] g=some (s,g)):ao false 2 2 (q_ cq) [m,aM es rs] g=some (s,g):=by
 have x0:∀g,ak (aM es rs) (.int 0) g=some (.tup (es.map ent),g):=λg=>by simp[aM,iM]
 generalize aM es rs=R at *
 generalize es.map ent=A at *
 exact aQ (σ':=[some m,some R]) rfl (by simp[q_,x0,h]) rfl
noncomputable def wO (told reads sc:List D)(x:D):bB->Row
 |.td v=>(told ++ [v],[],[])
 |_=>(told,reads ++ [x],sc)
theorem NH {step read since:Fn}{m deed:D}{ah:List D}{es:Es}{rs:List Row}{h:Nat}{r0:Row}{st e:bB}{x:D}{sc:List D}{g:G}(hr:rs[h]? = some r0)(hl:r0.1.length<=500/\r0.2.1.length<=500)
  (h1:read [aM es rs,st.d] g=some (x,g)) (h2:step [m,.int h,deed,.tup ah,.tup (r0.2.1 ++ [x])] g=some (e.d,g)) (h3:since [m,aM es rs,.int h,deed] g=some (.tup sc,g)):
  ao false 9 6 (pW step read since) [m,aM es rs,.int h,deed,.tup ah,st.d] g=some (aL (wO r0.1 r0.2.1 sc x e),g):=by
 have a2:bJ (rs.map aL) (h:Int)=some (aL r0):=cu (by rw[ZG,hr];rfl)
 have j:∀g,ak (aM es rs) (.int 1) g=some (.tup (rs.map aL),g):=λg=>by simp[aM,iN]
 have b:∀g,ak (aL r0) (.int 0) g=some (.tup r0.1,g):=λg=>by simp[aL,bQ]
 have i:∀g,ak (aL r0) (.int 1) g=some (.tup r0.2.1,g):=λg=>by simp[aL,jV]
 have a:aD (r0.2.1.length+1)=true:=aH (by omega)
 have l:aD (r0.1.length+1)=true:=aH (by omega)
 generalize aM es rs=R at *
 generalize aL r0=n at *
 refine aQ (σ':=[some m,some R,some (.int h),some deed,some (.tup ah),some st.d,some (.tup r0.1),some (.tup (r0.2.1 ++ [x])),some e.d]) rfl ?_ rfl
 generalize st.d=S at *
 cases e with
 |td v =>
  simp only[bB.d]at h2
  have t0:∀g,ak (.tup [.str "told",v]) (.int 0) g=some (.str "told",g):=λg=>by simp[bQ]
  have t1:∀g,ak (.tup [.str "told",v]) (.int 1) g=some (v,g):=λg=>by simp[jV]
  simp only[bB.d]
  generalize D.tup [.str "told",v]=TT at *
  simp[pW,j,a2,b,i,h1,z1,a,h2,t0,t1,l,z3,aL,wO]
 |rd k =>
  simp only[bB.d]at h2
  have t0:∀g,ak (.tup [.str "read",kd k]) (.int 0) g=some (.str "read",g):=λg=>by simp[bQ]
  simp only[bB.d]
  have f:(Zt "read" == Zt "told")=false:=by decide
  generalize D.tup [.str "read",kd k]=TT at *
  simp[pW,j,a2,b,i,h1,z1,a,h2,t0,f,h3,z3,aL,wO]
 |wr k c =>
  simp only[bB.d]at h2
  have t0:∀g,ak (.tup [.str "write",kd k,c]) (.int 0) g=some (.str "write",g):=λg=>by simp[bQ]
  simp only[bB.d]
  have f:(Zt "write" == Zt "told")=false:=by decide
  generalize D.tup [.str "write",kd k,c]=TT at *
  simp[pW,j,a2,b,i,h1,z1,a,h2,t0,f,h3,z3,aL,wO]
noncomputable def yN:FS:=aw (bu (ay (ag oLt (au bN (aa (ab 1) af)) (au bN (aa (ab 0) af)))) (aF (ag ak (ab 0) (au bN (aa (ab 1) af)))) aO) (aF (aI aA (aa (fC (.str "told")) (aa (fC .aq) af))))
noncomputable def NJ (wr pn:Fn):FS:=aF (au wr (aa (aI cx (aa (aI aA (aa (fC (.str "write")) (aa (aI aA (aa (fC (.str "own")) (aa (ab 1) af))) (aa (aI aA (aa (ag ak (ab 2) (fC (.int 2))) (aa (au pn (aa (ab 0) (aa (ab 2) (aa (ab 3) af)))) af))) af)))) af)) (aa (ab 4) af)))
noncomputable def G4 (nl wr pn:Fn):FS:=aw (aC (au nl (aa (ab 0) (aa (ab 4) af))) (gN 5)) (aw (bu (ay (ag dY (ag ak (ag ak (ab 5) (fC (.int 0))) (fC (.int 0))) (fC (.str "told")))) (aF (ag ak (ab 5) (fC (.int 0)))) aO) (aw (aC (aI aA (aa (ag ak (ab 2) (fC (.int 2))) (aa (au pn (aa (ab 0) (aa (ab 2) (aa (ab 3) af)))) (aa (ag ak (ag ak (ab 5) (fC (.int 0))) (fC (.int 1))) af)))) (gN 6)) (aF (au wr (aa (aI cx (aa (aI aA (aa (fC (.str "write")) (aa (aI aA (aa (fC (.str "own")) (aa (ab 1) af))) (aa (ab 6) af)))) af)) (aa (iy (ab 4) (dD (ag ak (ab 5) (fC (.int 1)))) mX) af))))))
noncomputable def CM (num:Fn):FS:=aw (aC (au num (aa (ab 0) (aa (fC (.str "turn")) af))) (gN 3)) (aw (aC (ag bC (ag ak (ab 2) (ag ak (ab 1) (fC (.int 1)))) (fC (.int 1))) (gN 4)) (aF (iY (ay (ag oEq (ab 3) (fC (.int 0)))) (ab 4) (ag (cI cj (· % ·)) (ab 4) (ab 3)))))
noncomputable def G_ (lk pt:Fn):FS:=aw (bu (ay (ag oEq (ag ak (ab 0) (fC (.int 0))) (fC (.str "tables")))) (aF bF) aO) (aw (bu (ay (ag oEq (ag ak (ab 2) (fC (.int 0))) (fC (.str "look")))) (aF (au lk (aa (ab 0) (aa (ab 1) (aa (ab 4) af))))) aO) (aF (au pt (aa (ab 0) (aa (ab 1) (aa (ab 2) (aa (ab 3) (aa (ab 4) af))))))))
noncomputable def CO (nl on:Fn):FS:=aw (aC (ag ak (ab 0) (fC (.int 0))) (gN 3)) (aw (bu (ay (ag oEq (ab 3) (fC (.str "once")))) (aF (au on (aa (ab 0) (aa (ab 2) af)))) aO) (aw (bu (ay (ag oEq (ab 3) (fC (.str "signs")))) (aF (ag ak bF (fC (.int 0)))) aO) (aw (bu (ay (ag oEq (ab 3) (fC (.str "shared")))) (aF (ag ak bF (fC (.int 0)))) aO) (aF (ag ak (au nl (aa (ab 0) (aa (ab 2) af))) (fC (.int 0)))))))
noncomputable def CP (wr tw hp:Fn):FS:=aw (aC (ag ak (ab 0) (fC (.int 0))) (gN 5)) (aw (bu (ay (ag oEq (ab 5) (fC (.str "once")))) (aF (au wr (aa (aI cx (aa (aI aA (aa (fC (.str "write")) (aa (aI aA (aa (fC (.str "own")) (aa (ab 1) af))) (aa (ag ak (ab 2) (fC (.int 2))) af)))) af)) (aa (ab 4) af)))) aO) (aw (bu (ay (ag oEq (ab 5) (fC (.str "twice")))) (aF (au tw (aa (ab 0) (aa (ab 1) (aa (ab 2) (aa (ab 3) (aa (ab 4) af))))))) aO) (aw (bu (ay (ag oEq (ab 5) (fC (.str "handed")))) (aF (au hp (aa (ab 0) (aa (ab 1) (aa (ab 2) (aa (ab 3) (aa (ab 4) af))))))) aO) (aw (bu (ay (ag oEq (ab 5) (fC (.str "signs")))) (aF bF) aO) (aF bF)))))
noncomputable def Ha (pX:Fn):FS:=aw (aC (au pX (aa (ab 0) af)) (gN 2)) (aw (bu (ay (ag oLt (au bN (aa (ab 1) af)) (au bN (aa (ab 2) af)))) (aF (aI aA (aa (fC (.str "read")) (aa (ag ak (ab 2) (au bN (aa (ab 1) af))) af)))) aO) (aF (aI aA (aa (fC (.str "told")) (aa (ab 1) af)))))
noncomputable def GX (num:Fn):FS:=aF (iY (ay (ag oEq (ag ak (ab 0) (fC (.int 0))) (fC (.str "handed")))) (au num (aa (ab 0) (aa (fC (.str "moves")) af))) (fC .aq))
inductive Mk where
 |once
 |twice (t:Nat)
 |handed (t m:Nat)
noncomputable def mD (n:Nat):Mk->D
 |.once=>.tup [.str "once",.int n]
 |.twice t=>.tup [.str "twice",.int n,.int t]
 |.handed t m=>.tup [.str "handed",.int n,.int t,.int m]
noncomputable def Mk.NK:Mk->Bool
 |.once=>true
 |_=>false
theorem Mk.no {M:Mk}(h:¬M = .once):M.NK=false:=by
 cases M with
 |once=>exact absurd rfl h
 |twice t=>rfl
 |handed t m=>rfl
noncomputable def Mk.mv:Mk->D
 |.handed _ m=>.int m
 |_=>.aq
noncomputable def Mk.turn:Mk->Nat
 |.twice t=>t
 |.handed t _=>t
 |_=>0
noncomputable abbrev lZ:Fn:=ao false 2 2 r_
noncomputable abbrev eH:Fn:=ao false 1 1 (lp lZ)
noncomputable abbrev ox:Fn:=ao false 1 1 (gG lZ eH)
noncomputable abbrev uv:Fn:=ao false 2 1 (jU ox)
noncomputable abbrev wQ:Fn:=ao false 1 1 (GX lZ)
noncomputable def d_ (n:Nat):Mk->D
 |.once=>.int 0
 |.twice _=>.tup [.int 0,.int 0]
 |.handed _ _=>.tup [.int 0,.int 0,zs n]
theorem uw {n:Nat}(M:Mk)(h:n<=5):Mn (mD n M) n n "own" (d_ n M) []:=by
 cases M with
 |once=>exact .once n h
 |twice t=>exact .twice n t h
 |handed t m=>exact .handed n t m h
theorem iE {n:Nat}(M:Mk)(h:n<=5)(g:G):eH [mD n M] g=some (.int n,g):=pV (uw M h)
theorem tM {n:Nat}(M:Mk)(h:n<=5)(g:G):ox [mD n M] g=some (.int n,g):=tG (uw M h)
theorem oy {n:Nat}(M:Mk)(h:n<=5)(g:G):uv [mD n M] g=some (.tup (keys "own" n),g):=Ag (λM=>tG M) (uw M h)
theorem pY {n:Nat}(M:Mk)(g:G):wQ [mD n M] g=some (M.mv,g):=by
 cases M with
 |once=>exact aQ (σ':=[some _]) rfl rfl rfl
 |twice t=>exact aQ (σ':=[some _]) rfl rfl rfl
 |handed t m =>
  have e:lZ [mD n (.handed t m),.str "moves"] g=some (.int m,g):=aQ (σ':=[some _,some _]) rfl rfl rfl
  have a:∀g,ak (mD n (.handed t m)) (.int 0) g=some (.str "handed",g):=λg=>rfl
  refine aQ (σ':=[some (mD n (.handed t m))]) rfl ?_ rfl
  generalize mD n (.handed t m)=M at *
  simp[GX,a,e,Mk.mv]
noncomputable def fT (a:Int)(t:Nat):Int:=if t=0 then a else a % t
theorem JG {n:Nat}(M:Mk)(hm:¬M = .once)(g:G):lZ [mD n M,.str "turn"] g=some (.int M.turn,g):=by
 cases M with
 |once=>exact absurd rfl hm
 |twice t=>exact aQ (σ':=[some _,some _]) rfl rfl rfl
 |handed t m=>exact aQ (σ':=[some _,some _]) rfl rfl rfl
theorem Hb {n h:Nat}{M:Mk}{a:Int}{ah:List D}{v:D}{g:G}(hm:¬M = .once)(ha:bJ ah (h:Int)=some (.int a)):ao false 5 3 (CM lZ) [mD n M,.tup [.str "put",.int h,v],.tup ah] g=some (.int (fT (a+1) M.turn),g):=by
 have b:=JG (n:=n) M hm g
 generalize mD n M=m at *
 generalize M.turn=t at *
 refine aQ (σ':=[some m,some (.tup [.str "put",.int h,v]),some (.tup ah),some (.int t),some (.int (a+1))]) rfl ?_ rfl
 by_cases ht:t=0
 . simp[CM,b,jV,ha,ht,fT]
 . have c:cj (a+1) (t:Int)=true:=fz (by omega)
   simp[CM,b,jV,ha,ht,fT,c]
theorem Am {x:D}{g:G}:ao false 2 2 yN [.lst [x],.tup []] g=some (x,g):=aQ (σ':=[some (.lst [x]),some (.tup [])]) rfl (by simp[yN,bQ]) rfl
theorem E5 {x:D}{rd:List D}{g:G}(h:1<=rd.length):ao false 2 2 yN [.lst [x],.tup rd] g=some ((bB.td .aq).d,g):=by
 refine aQ (σ':=[some (.lst [x]),some (.tup rd)]) rfl ?_ rfl
 have h0:¬rd = []:=λe=>by simp[e]at h
 have a:¬((rd.length:Int)<1):=by omega
 simp[yN,h0,a,z2,bB.d]
noncomputable abbrev pf:Fn:=ao false 2 2 yN
noncomputable abbrev R7:Fn:=ao false 5 3 (CM lZ)
noncomputable abbrev NL:Fn:=ao false 3 2 (Ha uv)
theorem m0 {n:Nat}{M:Mk}(g:G):∃w,ak (mD n M) (.int 0) g=some (.str w,g)/\(w == Zt "tables")=false/\(w == Zt "signs")=false/\(w == Zt "shared")=false/\(w == Zt "once")=M.NK/\((w == Zt "twice")=true ↔ ∃t,M = .twice t)/\((w == Zt "handed")=true ↔ ∃t m,M = .handed t m):=by
 cases M with
 |once=>exact⟨"once",rfl,by decide,by decide,by decide,rfl,⟨λh=>absurd h (by decide),λ⟨t,h⟩=>by cases h⟩,⟨λh=>absurd h (by decide),λ⟨t,m,h⟩=>by cases h⟩⟩
 |twice t=>exact⟨"twice",rfl,by decide,by decide,by decide,show(Zt "twice" == Zt "once")=false by decide,⟨λ_=>⟨t,rfl⟩,λ_=>by decide⟩,⟨λh=>absurd h (by decide),λ⟨t,m,h⟩=>by cases h⟩⟩
 |handed t m=>exact⟨"handed",rfl,by decide,by decide,by decide,show(Zt "handed" == Zt "once")=false by decide,⟨λh=>absurd h (by decide),λ⟨t,h⟩=>by cases h⟩,⟨λ_=>⟨t,m,rfl⟩,λ_=>by decide⟩⟩
section
variable {nl:Fn×Fn}{n h:Nat}{M:Mk}{ah reads:List D}{v:D}{g:G}
noncomputable abbrev R8 (nl:Fn):Fn:=ao false 7 5 (G4 nl pf R7)
noncomputable abbrev R9:Fn:=ao false 5 5 (NJ pf R7)
noncomputable abbrev R_ (nl:Fn):Fn:=ao false 4 3 (CO nl NL)
noncomputable abbrev Sa (nl:Fn):Fn:=ao false 6 5 (CP pf R9 (R8 nl))
noncomputable abbrev gI (nl:Fn×Fn):Fn:=ao false 5 5 (G_ (R_ nl.1) (Sa nl.2))
theorem sf {x:D}(e:R_ nl.1 [mD n M,.int h,.tup reads] g=some (x,g)):gI nl [mD n M,.int h,.tup [.str "look"],.tup ah,.tup reads] g=some (x,g):=by
 obtain⟨w,b,a,_⟩:=m0 (n:=n) (M:=M) g
 generalize mD n M=m at *
 exact aQ (σ':=[some m,some (.int h),some (.tup [.str "look"]),some (.tup ah),some (.tup reads)]) rfl (by simp[G_,b,a,bQ,e]) rfl
theorem wR {x:D}(e:Sa nl.2 [mD n M,.int h,.tup [.str "put",.int h,v],.tup ah,.tup reads] g=some (x,g)):gI nl [mD n M,.int h,.tup [.str "put",.int h,v],.tup ah,.tup reads] g=some (x,g):=by
 obtain⟨w,b,a,_⟩:=m0 (n:=n) (M:=M) g
 generalize mD n M=m at *
 exact aQ (σ':=[some m,some (.int h),some (.tup [.str "put",.int h,v]),some (.tup ah),some (.tup reads)]) rfl (by simp[G_,b,a,bQ,p1,e]) rfl
theorem CQ (hn:n<=5)(hl:reads.length<n):gI nl [mD n .once,.int h,.tup [.str "look"],.tup ah,.tup reads] g=some ((bB.rd ("own",[(reads.length:Int)])).d,g):=by
 refine sf ?_
 have a:NL [mD n .once,.tup reads] g=some ((bB.rd ("own",[(reads.length:Int)])).d,g):=by
  have a1:bJ (keys "own" n) (reads.length:Int)=some (kd ("own",[(reads.length:Int)])):=cu (by
   unfold keys
   rw[ZG,aac hl]
   rfl)
  have b:(keys "own" n).length=n:=by simp[keys]
  have c:(reads.length:Int)<((keys "own" n).length:Int):=by rw[b];omega
  have cc:=oy .once hn g
  generalize mD n .once=m at *
  generalize keys "own" n=K at *
  simp only[bB.d]
  generalize kd ("own",[(reads.length:Int)])=KK at *
  refine aQ (σ':=[some m,some (.tup reads),some (.tup K)]) rfl ?_ rfl
  simp[Ha,cc,c,a1,z2,show reads.length<K.length by omega]
 refine aQ (σ':=[some (mD n .once),some (.int h),some (.tup reads),some (.str "once")]) rfl ?_ rfl
 have e:∀g,ak (mD n .once) (.int 0) g=some (.str "once",g):=λg=>rfl
 generalize mD n .once=m at *
 simp[CO,e,a]
theorem CS (hn:n<=5)(hl:reads.length=n):gI nl [mD n .once,.int h,.tup [.str "look"],.tup ah,.tup reads] g=some ((bB.td (.tup reads)).d,g):=by
 refine sf ?_
 have a:NL [mD n .once,.tup reads] g=some ((bB.td (.tup reads)).d,g):=by
  have b:(keys "own" n).length=n:=by simp[keys]
  have c:¬(reads.length:Int)<((keys "own" n).length:Int):=by rw[b];omega
  have cc:=oy .once hn g
  generalize mD n .once=m at *
  generalize keys "own" n=K at *
  refine aQ (σ':=[some m,some (.tup reads),some (.tup K)]) rfl ?_ rfl
  simp[Ha,cc,c,z2,show ¬reads.length<K.length by omega,bB.d]
 refine aQ (σ':=[some (mD n .once),some (.int h),some (.tup reads),some (.str "once")]) rfl ?_ rfl
 have e:∀g,ak (mD n .once) (.int 0) g=some (.str "once",g):=λg=>rfl
 generalize mD n .once=m at *
 simp[CO,e,a]
theorem wU {x u:D}(hm:¬M = .once)(e:nl.1 [mD n M,.tup reads] g=some (.tup [x,u],g)):gI nl [mD n M,.int h,.tup [.str "look"],.tup ah,.tup reads] g=some (x,g):=by
 refine sf ?_
 obtain⟨w,b,_,f,c,a,_⟩:=m0 (n:=n) (M:=M) g
 rw[Mk.no hm]at a
 generalize mD n M=m at *
 exact aQ (σ':=[some m,some (.int h),some (.tup reads),some (.str w)]) rfl (by simp[CO,b,f,c,a,e,iM]) rfl
noncomputable def cont (M:Mk)(v:D)(a:Int)(w:D):D:=match M with
 |.once=>v
 |.twice t=>.tup [v,.int (fT (a+1) t)]
 |.handed t _=>.tup [v,.int (fT (a+1) t),w]
theorem wV {x:D}(e:pf [.lst [(bB.wr ("own",[(h:Int)]) v).d],.tup reads] g=some (x,g)):gI nl [mD n .once,.int h,.tup [.str "put",.int h,v],.tup ah,.tup reads] g=some (x,g):=by
 refine wR ?_
 refine aQ (σ':=[some (mD n .once),some (.int h),some (.tup [.str "put",.int h,v]),some (.tup ah),some (.tup reads),some (.str "once")]) rfl ?_ rfl
 have a:∀g,ak (mD n .once) (.int 0) g=some (.str "once",g):=λg=>rfl
 have b:pf [.lst [.tup [.str "write",.tup [.str "own",.int h],v]],.tup reads] g=some (x,g):=e
 generalize mD n .once=m at *
 simp[CP,a,nE,z1,z2,z3,b]
theorem tN {x:D}{t:Nat}{a:Int}(ha:bJ ah (h:Int)=some (.int a))(e:pf [.lst [(bB.wr ("own",[(h:Int)]) (cont (.twice t) v a .aq)).d],.tup reads] g=some (x,g)):gI nl [mD n (.twice t),.int h,.tup [.str "put",.int h,v],.tup ah,.tup reads] g=some (x,g):=by
 refine wR ?_
 have b:=Hb (n:=n) (h:=h) (M:=.twice t) (v:=v) (g:=g) (by intro z;cases z) ha
 have c:pf [.lst [.tup [.str "write",.tup [.str "own",.int h],.tup [v,.int (fT (a+1) t)]]],.tup reads] g=some (x,g):=e
 have i:R9 [mD n (.twice t),.int h,.tup [.str "put",.int h,v],.tup ah,.tup reads] g=some (x,g):=by
  generalize mD n (.twice t)=m at *
  simp only[Mk.turn]at b
  exact aQ (σ':=[some m,some (.int h),some (.tup [.str "put",.int h,v]),some (.tup ah),some (.tup reads)]) rfl (by simp[NJ,nE,z1,z2,z3,b,c]) rfl
 refine aQ (σ':=[some (mD n (.twice t)),some (.int h),some (.tup [.str "put",.int h,v]),some (.tup ah),some (.tup reads),some (.str "twice")]) rfl ?_ rfl
 have f:∀g,ak (mD n (.twice t)) (.int 0) g=some (.str "twice",g):=λg=>rfl
 have n1:(Zt "twice" == Zt "once")=false:=by decide
 generalize mD n (.twice t)=m at *
 simp[CP,f,n1,i]
theorem yO {x:D}{t m:Nat}(e2:R8 nl.2 [mD n (.handed t m),.int h,.tup [.str "put",.int h,v],.tup ah,.tup reads] g=some (x,g)):gI nl [mD n (.handed t m),.int h,.tup [.str "put",.int h,v],.tup ah,.tup reads] g=some (x,g):=by
 refine wR ?_
 refine aQ (σ':=[some (mD n (.handed t m)),some (.int h),some (.tup [.str "put",.int h,v]),some (.tup ah),some (.tup reads),some (.str "handed")]) rfl ?_ rfl
 have a:∀g,ak (mD n (.handed t m)) (.int 0) g=some (.str "handed",g):=λg=>rfl
 have n1:(Zt "handed" == Zt "once")=false:=by decide
 have n2:(Zt "handed" == Zt "twice")=false:=by decide
 generalize mD n (.handed t m)=m at *
 simp[CP,a,n1,n2,e2]
theorem t6 {t m:Nat}{k:Str×List Int}{u:D}(e:nl.2 [mD n (.handed t m),.tup reads] g=some (.tup [(bB.rd k).d,u],g)):gI nl [mD n (.handed t m),.int h,.tup [.str "put",.int h,v],.tup ah,.tup reads] g=some ((bB.rd k).d,g):=by
 refine yO ?_
 have f1:aB (.str "read") (.str "told")=false:=rfl
 refine aQ (σ':=[some (mD n (.handed t m)),some (.int h),some (.tup [.str "put",.int h,v]),some (.tup ah),some (.tup reads),some (.tup [(bB.rd k).d,u]),none]) rfl ?_ rfl
 have t0:∀g,ak (bB.rd k).d (.int 0) g=some (.str "read",g):=λg=>by simp[bB.d,bQ]
 generalize mD n (.handed t m)=m at *
 generalize (bB.rd k).d=S at *
 simp[G4,e,iM,t0,flat,dep,f1]
theorem wW {t m used:Nat}{d x:D}{a:Int}(ha:bJ ah (h:Int)=some (.int a))(hu:used<=reads.length)(e:nl.2 [mD n (.handed t m),.tup reads] g=some (.tup [(bB.td d).d,.int used],g))(e3:pf [.lst [(bB.wr ("own",[(h:Int)]) (cont (.handed t m) v a d)).d],.tup (reads.drop used)] g=some (x,g)):gI nl [mD n (.handed t m),.int h,.tup [.str "put",.int h,v],.tup ah,.tup reads] g=some (x,g):=by
 refine yO ?_
 have f1:aB (.str "told") (.str "told")=true:=rfl
 have b:=Hb (n:=n) (h:=h) (M:=.handed t m) (v:=v) (g:=g) (by intro z;cases z) ha
 simp only[Mk.turn]at b
 have t0:∀g,ak (bB.td d).d (.int 0) g=some (.str "told",g):=λg=>by simp[bB.d,bQ]
 have t1:∀g,ak (bB.td d).d (.int 1) g=some (d,g):=λg=>by simp[bB.d,jV]
 have f:=wJ (g:=g) hu
 have c:pf [.lst [.tup [.str "write",.tup [.str "own",.int h],.tup [v,.int (fT (a+1) t),d]]],.tup (reads.drop used)] g=some (x,g):=e3
 generalize mD n (.handed t m)=m at *
 refine aQ (σ':=[some m,some (.int h),some (.tup [.str "put",.int h,v]),some (.tup ah),some (.tup reads),some (.tup [(bB.td d).d,.int used]),some (.tup [v,.int (fT (a+1) t),d])]) rfl ?_ rfl
 generalize (bB.td d).d=S at *
 simp[G4,e,iM,iN,t0,t1,flat,dep,f1,nE,b,z1,z2,z3,f,c]
end
end Rm
namespace Rm
open PySem L3 L2 Pd RI Bx Dw Wd
def Vv (v:D):Prop:=flat v=true/\dep v<=3
noncomputable def cN:Mk->D->Prop
 |.once,c=>Vv c
 |.twice _,c=>∃v k,c = .tup [v,.int k]/\Vv v
 |.handed _ _,c=>∃v k ws,c = .tup [v,.int k,.tup ws]/\Vv v /\ ∀x∈ws,Vv x
theorem cN.ok {M:Mk}{c:D}(h:cN M c):flat c=true/\dep c<=5:=by
 cases M with
 |once=>exact⟨h.1,by have:=h.2;omega⟩
 |twice t =>
  obtain⟨v,k,rfl,a⟩:=h
  exact⟨by simp[flat,aN,a.1],by have:=a.2;simp[dep,bS];omega⟩
 |handed t m =>
  obtain⟨v,k,ws,rfl,a,hw⟩:=h
  have f1:aN ws=true:=bH λx b=>(hw x b).1
  have e:bS ws<=3:=d7 λx b=>(hw x b).2
  exact⟨by simp[flat,aN,a.1,f1],by have:=a.2;simp[dep,bS];omega⟩
theorem cN.h_ {M:Mk}{c:D}(hm:¬M = .once)(h:cN M c):h_ c:=by
 cases M with
 |once=>exact absurd rfl hm
 |twice t =>
  obtain⟨v,k,rfl,a⟩:=h
  exact⟨v,k,[],rfl⟩
 |handed t m =>
  obtain⟨v,k,ws,rfl,a,hw⟩:=h
  exact⟨v,k,_,rfl⟩
theorem cN.val {M:Mk}{c:D}(hm:¬M = .once)(h:cN M c):Vv (gz c):=by
 cases M with
 |once=>exact absurd rfl hm
 |twice t =>
  obtain⟨v,k,rfl,a⟩:=h
  exact a
 |handed t m =>
  obtain⟨v,k,ws,rfl,a,hw⟩:=h
  exact a
def pg (d:D):Prop:=∃xs:List D,d = .tup xs /\ ∀x∈xs,Vv x
theorem pg.ok {d:D}(h:pg d):flat d=true/\dep d<=4/\b8 d=false:=by
 obtain⟨xs,rfl,a⟩:=h
 have f1:aN xs=true:=bH λx h=>(a x h).1
 have b:bS xs<=3:=d7 λx h=>(a x h).2
 exact⟨by simpa[flat]using f1,by simp[dep];omega,rfl⟩
structure HS where
 told:List D
 cs:List (List D)
 rest:List D
 view:Option D
noncomputable def HS.reads (H:HS):List D:=H.cs.flatten++H.rest
noncomputable def fD:Mk->Bool
 |.handed _ _=>true
 |_=>false
def kq (M:Mk)(n:Nat)(cs:List (List D)):Prop:=∀c∈cs,c.length=n /\ ∀x∈c,cN M x
structure wX (M:Mk)(n:Nat)(cs:List (List D))(rest:List D):Prop where
 rl:rest.length<n
 rc:∀x∈rest,cN M x
 col:kq M n cs
 on:M = .once->cs = []
 go:∀i,i+1<cs.length->Goes M.mv cs i
structure End (M:Mk)(n:Nat)(cs:List (List D))(en:Option Nat):Prop where
 col:kq M n cs
 l2:2<=cs.length
 go:∀i,i+2<cs.length->Goes M.mv cs i
 en_:fB M.mv cs (cs.length-2) en
structure HI (M:Mk)(n h:Nat)(row:List D)(K:Nat)(H:HS):Prop where
 fit:Fits h row H.told
 tk:∀x∈H.told,x = .aq\/pg x
 ia:H.cs.length*n+H.rest.length<=K
 tl:H.told.length<=K
 at_:(H.view=none/\wX M n H.cs H.rest/\((fD M=false /\ ∃v,row[H.told.length]? = some (.tup [.str "put",.int h,v]))\/H.told.length=row.length->H.cs = []/\H.rest = [])) \/
  (∃w en v,H.view=some w/\fD M=true/\H.rest = []/\End M n H.cs en/\w=fZ (H.cs.getD (H.cs.length-1) []) en/\pg w/\row[H.told.length]? = some (.tup [.str "put",.int h,v]))
inductive S1 (M:Mk)(n h:Nat)(c:List D)(H:HS)(d:D):List D->HS->Prop
 |wr (v w:D):d = .tup [.str "put",.int h,v]->(fD M=false/\H.cs = []/\H.rest = []\/H.view=some w)->S1 M n h c H d (c.set h (cont M v (aR H.told) w)) ⟨H.told ++ [.aq],[],[],none⟩
 |go (x:D):H.view=none->(fD M=true\/d = .tup [.str "look"])->c[H.rest.length]? = some x->H.rest.length+1<n->S1 M n h c H d c ⟨H.told,H.cs,H.rest ++ [x],none⟩
 |full (x:D):H.view=none->(fD M=true\/d = .tup [.str "look"])->c[H.rest.length]? = some x->H.rest.length+1=n->¬M = .once->(∀i,i+1<(H.cs ++ [H.rest ++ [x]]).length->Goes M.mv (H.cs ++ [H.rest ++ [x]]) i)->S1 M n h c H d c ⟨H.told,H.cs ++ [H.rest ++ [x]],[],none⟩
 |E6 (x:D):H.view=none->d = .tup [.str "look"]->c[H.rest.length]? = some x->H.rest.length+1=n->M = .once->S1 M n h c H d c ⟨H.told ++ [.tup (H.rest ++ [x])],[],[],none⟩
 |E_ (x:D) (en:Option Nat):H.view=none->d = .tup [.str "look"]->c[H.rest.length]? = some x->H.rest.length+1=n->¬M = .once->End M n (H.cs ++ [H.rest ++ [x]]) en->S1 M n h c H d c ⟨H.told ++ [fZ (H.rest ++ [x]) en],[],[],none⟩
 |vw (v x:D) (en:Option Nat):H.view=none->fD M=true->d = .tup [.str "put",.int h,v]->c[H.rest.length]? = some x->H.rest.length+1=n->End M n (H.cs ++ [H.rest ++ [x]]) en->S1 M n h c H d c ⟨H.told,H.cs ++ [H.rest ++ [x]],[],some (fZ (H.rest ++ [x]) en)⟩
theorem yP {a:List D}:∀{cs:List (List D)} {k:Nat},k<cs.length->cnt (cs ++ [a]) k=cnt cs k:=by
 intro cs k
 induction k with
 |zero=>intro _;rfl
 |succ k ih =>
  intro h
  rw[<- gH,<- gH,ih (by omega)]
  have g1:∀j,j<cs.length->(cs ++ [a]).getD j []=cs.getD j []:=λj b=>by
   rw[ZC,ZC,Zx b]
  rw[g1 k (by omega),g1 (k+1) h]
theorem jZ {a:List D}{cs:List (List D)}{j:Nat}(hj:j<cs.length):(cs ++ [a]).getD j []=cs.getD j []:=by
 rw[ZC,ZC,Zx hj]
theorem getD_last {a:List D}{cs:List (List D)}:(cs ++ [a]).getD cs.length []=a:=by
 rw[ZC];simp
theorem wY {mv:D}{a:List D}{cs:List (List D)}{i:Nat}(h:i+1<cs.length):Goes mv (cs ++ [a]) i ↔ Goes mv cs i:=by
 unfold Goes
 rw[jZ (by omega),jZ h,yP h]
theorem CT {mv:D}{cs:List (List D)}{i:Nat}:Goes mv cs i \/ ∃en,fB mv cs i en:=by
 by_cases h0:aJ (cs.getD i []) (cs.getD (i+1) [])= []
 . exact .inr ⟨none,h0⟩
 . cases h1:d9 (cnt cs (i+1)) mv (aJ (cs.getD i []) (cs.getD (i+1) []))with
   |nil=>exact .inl ⟨h0,h1⟩
   |cons j r =>
    refine .inr ⟨some j,h0,by rw[h1];simp,λk a=>?_⟩
    have b:(d9 (cnt cs (i+1)) mv (aJ (cs.getD i []) (cs.getD (i+1) []))).Pairwise (· < ·):=by
      unfold d9 aJ
      exact ab8 _ (ab8 _ aes)
    rw[h1]at b a
    rcases ZI.mp a with rfl|a
    . exact ZA _
    . exact acX (adS b a)
theorem wZ {cs:List (List D)}{i j:Nat}{t:Nat}(h:fB (Mk.twice t).mv cs i (some j)):False:=by
 have:=h.2.1
 unfold d9 at this
 rw[aaE]at this
 have a:=this.2
 simp[Mk.mv,aB]at a
section
variable {M:Mk}{n h K:Nat}{row c:List D}{H:HS}{d:D}
theorem Fb (F:Fits h row H.told)(hd:row[H.told.length]? = some d){x:D}(hx:b8 x=true->∃v,d = .tup [.str "put",.int h,v]):Fits h row (H.told ++ [x]):=by
 have c:=(Zr.mp hd).1
 refine⟨by simp;omega,λi y a b=>?_⟩
 by_cases hi:i<H.told.length
 . rw[Zx hi]at a
   exact F.2 i y a b
 . have:i=H.told.length:=by have:=(Zr.mp a).1;simp at this;omega
   subst this
   simp at a
   subst a
   obtain⟨v,rfl⟩:=hx b
   exact⟨v,hd⟩
theorem NM (hn:1<=n):wX M n [] []:=⟨by simp;omega,by simp,λc b=>by simp at b,λ_=>rfl,λi a=>by simp at a⟩
theorem oz (I:HI M n h row K H)(hn:1<=n)(hd:row[H.told.length]? = some d){x:D}(hx:x = .aq/\(∃v,d = .tup [.str "put",.int h,v])\/pg x):HI M n h row (K+1) ⟨H.told ++ [x],[],[],none⟩:=by
 refine⟨Fb I.fit hd λb=>?_,λy a=>?_,by simp,by have:=I.tl;simp;omega,.inl ⟨rfl,NM hn,λ_=>⟨rfl,rfl⟩⟩⟩
 . rcases hx with⟨_,hv⟩|hs
   . exact hv
   . rw[hs.ok.2.2]at b;cases b
 . rcases ZN.mp a with a|a
   . exact I.tk y a
   . simp at a
     subst a
     rcases hx with⟨rfl,_⟩|hs
     . exact .inl rfl
     . exact .inr hs
theorem sj {cs:List (List D)}{a:List D}{en:Option Nat}(hm:¬M = .once)(ha:a.length=n)(hc:∀x∈a,cN M x)(he:fB M.mv (cs ++ [a]) (cs.length-1) en)(h0:0<cs.length)(col:kq M n cs):pg (fZ a en):=by
 cases en with
 |none =>
  refine⟨a.map gz,rfl,λx h=>?_⟩
  obtain⟨y,i,rfl⟩:=Z8.mp h
  exact(hc y i).val hm
 |some j =>
  cases M with
  |once=>exact absurd rfl hm
  |twice t=>exact(wZ he).elim
  |handed t m =>
   have b:=he.2.1
   unfold d9 at b
   have c:=lu (aaE.mp b).1
   rw[jZ (by omega)]at c
   have l:(cs.getD (cs.length-1) []).length=n:=by
    rw[ZC,Zs (by omega)]
    exact(col _ (Z2 _)).1
   rw[l]at c
   have f:a.getD j .aq∈a:=by
    rw[ZC,Zs (by omega)]
    exact Z2 _
   obtain⟨v,k,ws,e,_,hw⟩:=hc _ f
   refine⟨ws,?_,hw⟩
   show NG (a.getD j .aq)=_
   rw[e]
   rfl
theorem JH (I:HI M n h row K H)(hn:1<=n)(hh:h<n)(hd:row[H.told.length]? = some d)(hk:d = .tup [.str "look"] \/ ∃v,d = .tup [.str "put",.int h,v]/\Vv v)(cl:c.length=n)(cc:∀x∈c,cN M x):
   ∃c' H',S1 M n h c H d c' H'/\HI M n h row (K+1) H'/\c'.length=n /\ ∀x∈c',cN M x:=by
 have hl:=(Zr.mp hd).1
 have NN:∀{y:D},cN M y->(c.set h y).length=n /\ ∀x∈c.set h y,cN M x:=fun {y} e=>⟨by simp[cl],λx j=>by
   rcases acm j with z|z
   . exact cc x z
   . subst z;exact e⟩
 rcases I.at_ with⟨hv,O,h0⟩|⟨w,en,v,hv,f,b,E,hw,sw,hp⟩
 . -- no view
   have rd:(fD M=true\/d = .tup [.str "look"])->∃c' H',S1 M n h c H d c' H'/\HI M n h row (K+1) H'/\c'.length=n /\ ∀x∈c',cN M x:=by
     intro b
     obtain⟨x,j⟩:∃x,c[H.rest.length]? = some x:=⟨_,Zs (by rw[cl];exact O.rl)⟩
     have xc:=cc x (ZZ j)
     have q:∀y∈H.rest ++ [x],cN M y:=λy e=>by
       rcases ZN.mp e with e|e
       . exact O.rc y e
       . simp at e;subst e;exact xc
     have Sb:¬((fD M=false /\ ∃v,row[H.told.length]? = some (.tup [.str "put",.int h,v]))\/H.told.length=row.length):=by
       rintro(⟨s,v,h2⟩|s)
       . rcases b with b|rfl
         . rw[b]at s;cases s
         . rw[hd]at h2
           simp at h2
       . omega
     have fw:=I.ia
     by_cases bU:H.rest.length+1<n
     . refine⟨c,_,.go x hv b j bU,⟨I.fit,I.tk,by simp;omega,by have:=I.tl;simp;omega,.inl ⟨rfl,⟨by simp;omega,q,O.col,O.on,O.go⟩,λz=>absurd z Sb⟩⟩,cl,cc⟩
     . have hle:H.rest.length+1=n:=by have:=O.rl;omega
       have al:(H.rest ++ [x]).length=n:=by simp;omega
       by_cases hm:M = .once
       . have k:d = .tup [.str "look"]:=by
           rcases b with b|b
           . subst hm;cases b
           . exact b
         refine⟨c,_,.E6 x hv k j hle hm,oz I hn hd (.inr ⟨_,rfl,λy e=>?_⟩),cl,cc⟩
         have:=q y e
         subst hm
         exact this
       . have NO:kq M n (H.cs ++ [H.rest ++ [x]]):=λa o=>by
           rcases ZN.mp o with o|o
           . exact O.col a o
           . simp at o;subst o;exact⟨al,q⟩
         have NP:(H.cs ++ [H.rest ++ [x]]).length*n+0<=K+1:=by
           rw[ZE,aag,aaQ]
           omega
         have isFull:(∀i,i+1<(H.cs ++ [H.rest ++ [x]]).length->Goes M.mv (H.cs ++ [H.rest ++ [x]]) i)->∃c' H',S1 M n h c H d c' H'/\HI M n h row (K+1) H'/\c'.length=n /\ ∀x∈c',cN M x:=λp =>
           ⟨c,_,.full x hv b j hle hm p,⟨I.fit,I.tk,by simpa using NP,by have:=I.tl;simp;omega,.inl ⟨rfl,⟨by simp;omega,by simp,NO,λz=>absurd z hm,p⟩,λz=>absurd z Sb⟩⟩,cl,cc⟩
         by_cases L7:H.cs = []
         . exact isFull λi l=>by rw[L7]at l;simp at l
         . have U7:0<H.cs.length:=aaR.mpr L7
           rcases CT (mv:=M.mv) (cs:=H.cs ++ [H.rest ++ [x]]) (i:=H.cs.length-1)with p|⟨en,he⟩
           . refine isFull λi l=>?_
             simp at l
             by_cases Sd:i+1<H.cs.length
             . exact(wY Sd).mpr (O.go i Sd)
             . have:i=H.cs.length-1:=by omega
               subst this
               exact p
           . have E:End M n (H.cs ++ [H.rest ++ [x]]) en:=⟨NO,by simp;omega,λi l=>by
               simp at l
               exact(wY (by omega)).mpr (O.go i (by omega)),by
               rw[ZE,aag,show H.cs.length+1-2=H.cs.length-1 by omega]
               exact he⟩
             have u:=sj hm al q he U7 O.col
             rcases hk with k|⟨v,ly,_⟩
             . exact⟨c,_,.E_ x en hv k j hle hm E,oz I hn hd (.inr u),cl,cc⟩
             . have f:fD M=true:=by
                rcases b with b|b
                . exact b
                . rw[ly]at b;simp at b
               refine⟨c,_,.vw v x en hv f ly j hle E,⟨I.fit,I.tk,by simpa using NP,by have:=I.tl;simp;omega,.inr ⟨_,en,v,rfl,f,rfl,E,?_,u,by rw[hd,ly]⟩⟩,cl,cc⟩
               show fZ (H.rest ++ [x]) en=fZ ((H.cs ++ [H.rest ++ [x]]).getD ((H.cs ++ [H.rest ++ [x]]).length-1) []) en
               rw[ZE,aag,afj,getD_last]
   cases f:fD M with
   |true=>exact rd (.inl f)
   |false =>
     rcases hk with k|⟨v,ly,vv⟩
     . exact rd (.inr k)
     . obtain⟨c0,r0⟩:=h0 (.inl ⟨f,v,by rw[hd,ly]⟩)
       have r:cN M (cont M v (aR H.told) .aq):=by
         cases M with
         |once=>exact vv
         |twice t=>exact⟨v,_,rfl,vv⟩
         |handed t m=>cases f
       exact⟨_,_,.wr v .aq ly (.inl ⟨f,c0,r0⟩),oz I hn hd (.inl ⟨rfl,v,ly⟩),NN r⟩
 . rw[hd]at hp
   cases hp
   rcases hk with k|⟨v',ly,vv⟩
   . simp at k
   . simp only[D.tup.injEq,aef,and_true,true_and]at ly
     subst ly
     obtain⟨ws,rfl,Na⟩:=sw
     have r:cN M (cont M v (aR H.told) (.tup ws)):=by
       cases M with
       |once=>cases f
       |twice t=>cases f
       |handed t m=>exact⟨v,_,ws,rfl,vv,Na⟩
     exact⟨_,_,.wr v (.tup ws) rfl (.inr hv),oz I hn hd (.inl ⟨rfl,v,rfl⟩),NN r⟩
end
noncomputable def bx (cs:List D):Es:=cs.zipIdx.map λp=>(Zt "own",[(p.2:Int)],p.1)
theorem j2 {cs:List D}{j:Nat}:(bx cs)[j]? = (cs[j]?).map λx=>(Zt "own",[(j:Int)],x):=by
 unfold bx
 rw[ZG,aeK]
 cases cs[j]?<;>simp
theorem ib {cs:List D}:(bx cs).length=cs.length:=by simp[bx]
theorem w5 {cs:List D}{e:Str×List Int×D}(h:e∈bx cs):∃j:Nat,cs[j]? = some e.2.2/\e=(Zt "own",[(j:Int)],e.2.2):=by
 obtain⟨j,a⟩:=aah.mp h
 rw[j2]at a
 obtain⟨x,b,rfl⟩:=ZM.mp a
 exact⟨j,b,rfl⟩
theorem Hc {cs:List D}:(bx cs).map ky=(Zp cs.length).map λ(j:Nat)=>(Zt "own",[(j:Int)]):=by
 apply aav
 intro i
 rw[ZG,j2,ZG]
 by_cases h:i<cs.length
 . rw[Zs h,aac h]
   rfl
 . rw[Z6 (by omega),Z6 (by simp;omega)]
   rfl
theorem j3 {M:Mk}{cs:List D}(hl:cs.length<=9)(hc:∀x∈cs,cN M x):CB (bx cs):=by
 refine⟨?_,λe he=>?_,by rw[ib];omega⟩
 . rw[Hc]
   refine List.Pairwise.map _ ?_ (ad3 (n:=cs.length))
   intro a b f e
   simp only[Prod.mk.injEq,aef,and_true,true_and]at e
   exact f (by exact_mod_cast e)
 . obtain⟨j,c,_⟩:=w5 he
   exact(hc _ (ZZ c)).ok
theorem w6 {cs:List D}:R5 (bx cs) cs:=λj c h=>ZZ (i:=j) (by rw[j2,h];rfl)
theorem CU {cs:List D}{h:Nat}{y:D}:hV (bx cs) (Zt "own",[(h:Int)]) y=bx (cs.set h y):=by
 unfold hV
 apply aav
 intro i
 rw[ZG,j2,j2]
 by_cases e:h=i
 . subst e
   cases hc:cs[h]? with
   |none =>
    rw[Z6 (by rw[abM];exact adN.mp hc)]
    rfl
   |some x =>
    rw[ZL (Zr.mp hc).1]
    simp[ky]
 . rw[ZT e]
   cases cs[i]? with
   |none=>rfl
   |some x =>
    have:¬((i:Int)=h):=by omega
    simp[ky,this]
structure Fc (nl:Fn)(n:Nat)(M:Mk):Prop where
 j4:∀{cs:List (List D)} {rest:List D} {g:G},lx n cs->rest.length<n->Bd g->(∀i,i+1<cs.length->Goes M.mv cs i)->nl [mD n M,.tup (cs.flatten++rest)] g=some (.tup [(bB.rd (Zt "own",[(((cs.flatten++rest).length % n:Nat):Int)])).d,.int (cs.flatten++rest).length],g)
 end_:∀{cs:List (List D)} {rest:List D} {en:Option Nat} {g:G},lx n cs->Bd g->2<=cs.length->(∀i,i+2<cs.length->Goes M.mv cs i)->fB M.mv cs (cs.length-2) en->(en≠none->∀c∈cs,∀x∈c,∃v m w,x = .tup [v,.int m,w])->nl [mD n M,.tup (cs.flatten++rest)] g=some (.tup [(bB.td (fZ (cs.getD (cs.length-1) []) en)).d,.int (cs.length*n:Nat)],g)
def w8 (nl:Fn×Fn)(n:Nat)(M:Mk):Prop:=Fc nl.1 n M/\Fc nl.2 n M
section
variable {nl:Fn×Fn}{M:Mk}{n h:Nat}{cs:List (List D)}{rest ah:List D}{d:D}{g:G}
theorem rb (hm:¬M = .once)(hn:1<=n)(h5:n<=5)(col:kq M n cs)(ia:cs.length*n<=400):lx n cs:=⟨λc a=>(col c a).1,λc a x b=>((col c a).2 x b).h_ hm,hn,by omega,ia⟩
theorem An (col:kq M n cs):(cs.flatten++rest).length=cs.length*n+rest.length:=by
 rw[ZE,iD λc a=>(col c a).1]
theorem He {en:Option Nat}(hm:¬M = .once)(col:kq M n cs)(he:fB M.mv cs (cs.length-2) en):en≠none->∀c∈cs,∀x∈c,∃v m w,x = .tup [v,.int m,w]:=by
 intro h0 c b x a
 have:=(col c b).2 x a
 cases M with
 |once=>exact absurd rfl hm
 |twice t =>
  cases en with
  |none=>exact absurd rfl h0
  |some j=>exact(wZ he).elim
 |handed t m =>
  obtain⟨v,k,ws,rfl,_⟩:=this
  exact⟨v,k,_,rfl⟩
theorem iF (L:¬M = .once->w8 nl n M)(hn:1<=n)(h5:n<=5)(O:wX M n cs rest)(ia:cs.length*n<=400)(b:Bd g)(hd:d = .tup [.str "look"]\/fD M=true /\ ∃v,d = .tup [.str "put",.int h,v]):
   gI nl [mD n M,.int h,d,.tup ah,.tup (cs.flatten++rest)] g=some ((bB.rd (Zt "own",[(rest.length:Int)])).d,g):=by
 by_cases hm:M = .once
 . subst hm
   rw[O.on rfl]
   rcases hd with rfl|⟨z,_⟩
   . exact CQ h5 O.rl
   . cases z
 . have e:=(L hm).1.j4 (rb hm hn h5 O.col ia) O.rl b O.go
   have a:=(L hm).2.j4 (rb hm hn h5 O.col ia) O.rl b O.go
   have lm:(cs.flatten++rest).length % n=rest.length:=by
     rw[An O.col,ac_,Nat.mul_add_mod]
     exact Nat.mod_eq_of_lt O.rl
   rw[lm]at e a
   rcases hd with rfl|⟨z,v,rfl⟩
   . exact wU hm e
   . cases M with
     |once=>cases z
     |twice t=>cases z
     |handed t m=>exact t6 a
theorem NQ {en:Option Nat}(L:w8 nl n M)(hm:¬M = .once)(hn:1<=n)(h5:n<=5)(E:End M n cs en)(ia:cs.length*n<=400)(b:Bd g):gI nl [mD n M,.int h,.tup [.str "look"],.tup ah,.tup cs.flatten] g=some ((bB.td (fZ (cs.getD (cs.length-1) []) en)).d,g):=by
 have e:=L.1.end_ (rest:=[]) (rb hm hn h5 E.col ia) b E.l2 E.go E.en_ (He hm E.col E.en_)
 rw[aa6]at e
 exact wU hm e
theorem sk {en:Option Nat}{t m:Nat}{v:D}{a:Int}{x:D}(hM:M = .handed t m)(L:w8 nl n M)(hn:1<=n)(h5:n<=5)(E:End M n cs en)(ia:cs.length*n<=400)(b:Bd g)(ha:bJ ah (h:Int)=some (.int a))
  (e3:pf [.lst [(bB.wr (Zt "own",[(h:Int)]) (cont M v a (fZ (cs.getD (cs.length-1) []) en))).d],.tup rest] g=some (x,g)):gI nl [mD n M,.int h,.tup [.str "put",.int h,v],.tup ah,.tup (cs.flatten++rest)] g=some (x,g):=by
 subst hM
 have hm:¬Mk.handed t m = .once:=λz=>by cases z
 have e:=L.2.end_ (rest:=rest) (rb hm hn h5 E.col ia) b E.l2 E.go E.en_ (He hm E.col E.en_)
 refine wW ha (by rw[An E.col];omega) e ?_
 have:(cs.flatten++rest).drop (cs.length*n)=rest:=by
  have:=iD (cs:=cs) λc f=>(E.col c f).1
  rw[<- this]
  simp
 rw[this]
 exact e3
end
noncomputable abbrev NR:Fn:=ao false 4 4 (oq eH lV)
noncomputable abbrev Hf:Fn:=ao false 6 4 (qZ ox lV)
noncomputable abbrev Fd:Fn:=ao false 2 2 jA
noncomputable abbrev Ao:Fn:=ao false 4 2 (ou uv)
noncomputable abbrev U8:Fn:=ao false 2 2 (q_ Ao)
noncomputable abbrev Ap:Fn:=ao false 5 4 (jW U8)
noncomputable abbrev w9:Fn:=ao false 2 2 lT
noncomputable abbrev NS (nl:Fn×Fn):Fn:=ao false 9 6 (pW (gI nl) w9 Ap)
noncomputable abbrev Fe:Fn:=ao false 2 2 ot
noncomputable abbrev Se (nl:(Fn×Fn)×(Fn×Fn)):Fn:=ao false 12 5 (tv NR Hf (gI nl.1) Fd (NS nl.2) Ao Fe)
noncomputable abbrev i6 (nl:(Fn×Fn)×(Fn×Fn)):Fn:=ao false 4 4 (qd (Se nl))
def w_ (nl:(Fn×Fn)×(Fn×Fn))(n:Nat)(M:Mk):Prop:=w8 nl.1 n M/\w8 nl.2 n M
section
variable {nl:(Fn×Fn)×(Fn×Fn)}{M:Mk}{n h K:Nat}{row c c' js:List D}{H H':HS}{d:D}{g:G}{rs:List Row}{gD:List D}
theorem mw (M:Mk):∃w mr,mD n M = .tup (.str w::mr) /\ ¬w=Zt "tables" /\ (w=Zt "once" ↔ M = .once):=by
 cases M with
 |once=>exact⟨_,_,rfl,by decide,⟨λ_=>rfl,λ_=>rfl⟩⟩
 |twice t=>exact⟨_,_,rfl,by decide,⟨λh=>absurd h (by decide),λh=>by cases h⟩⟩
 |handed t m=>exact⟨_,_,rfl,by decide,⟨λh=>absurd h (by decide),λh=>by cases h⟩⟩
theorem CV (h5:n<=5)(cl:c.length=n)(cc:∀x∈c,cN M x)(b:Bd g):∃s,Ao [mD n M,.tup ((bx c).map ent)] g=some (s,g)/\pg s:=by
 obtain⟨w,j,e,_,f⟩:=mw (n:=n) M
 have h:=oy M h5
 rw[e]at h ⊢
 have:=E3 (g:=g) h (by omega) cl (j3 (M:=M) (by omega) cc) w6 (λhw x a=>(cc x a).h_ λz=>hw (f.mpr z)) (λx a=>(cc x a).ok.1) b
 refine⟨_,this,_,rfl,λx a=>?_⟩
 unfold GZ at a
 split at a
 . rename_i hw
   have:=cc x a
   rw[f.mp hw]at this
   exact this
 . rename_i hw
   obtain⟨y,i,rfl⟩:=Z8.mp a
   exact(cc y i).val λz=>hw (f.mpr z)
theorem pg.st {s:D}(h:pg s):se s:=⟨h.ok.1,by have:=h.ok.2.1;omega⟩
noncomputable def j5 (H':HS)(sc:List D):Row:=(H'.told,H'.reads,sc)
theorem QJ (L:¬M = .once->w_ nl n M)(hn:1<=n)(h5:n<=5)(hh:h<n)(I:HI M n h row K H)(hK:K<=300)(hd:row[H.told.length]? = some d)(hk:d = .tup [.str "look"] \/ ∃v,d = .tup [.str "put",.int h,v])(cl:c.length=n)(cc:∀x∈c,cN M x)(b:Bd g)(S:S1 M n h c H d c' H')(hr:rs[h]? = some (H.told,H.reads,gD)):
  ∃(st e:bB) (x:D),gI nl.1 [mD n M,.int h,d,.tup (hZ n h (aR H.told)),.tup H.reads] g=some (st.d,g)/\Fd [.tup ((bx c).map ent),st.d] g=some (.tup ((bx c').map ent),g)/\w9 [aM (bx c) rs,st.d] g=some (x,g)/\gI nl.2 [mD n M,.int h,d,.tup (hZ n h (aR H.told)),.tup (H.reads ++ [x])] g=some (e.d,g) /\ ∀sc,∃eV,aL (wO H.told H.reads sc x e)=aL (j5 H' eV)/\(eV = []\/eV=sc):=by
 have q:¬M = .once->w8 nl.1 n M:=λh=>(L h).1
 have L2:¬M = .once->w8 nl.2 n M:=λh=>(L h).2
 have l:=QI (k:=aR H.told) hh
 have fw:=I.ia
 have E0:=j3 (M:=M) (cs:=c) (by omega) cc
 have CW:∀{x:D},c[H.rest.length]? = some x->w9 [aM (bx c) rs,(bB.rd (Zt "own",[(H.rest.length:Int)])).d] g=some (x,g):=fun {x} i =>
  Nl (e:=(Zt "own",[(H.rest.length:Int)],x)) E0 (w6 _ _ i) b
 have j4:H.view=none->wX M n H.cs H.rest:=λf=>by
  rcases I.at_ with⟨_,O,_⟩|⟨w,en,v,fQ,_⟩
  . exact O
  . rw[f]at fQ;cases fQ
 have p:H.cs.length*n<=400:=by omega
 have dk:(fD M=true\/d = .tup [.str "look"])->(d = .tup [.str "look"] \/ ∃v,d = .tup [.str "put",.int h,v])->(d = .tup [.str "look"]\/fD M=true /\ ∃v,d = .tup [.str "put",.int h,v]):=by
  rintro(r|r) (u|u)
  . exact .inl u
  . exact .inr ⟨r,u⟩
  . exact .inl r
  . exact .inl r
 have Aq:∀x,(H.cs ++ [H.rest ++ [x]]).flatten=H.reads ++ [x]:=λx=>by simp[HS.reads]
 have Ff:∀x,H.rest.length+1=n->(H.cs ++ [H.rest ++ [x]]).length*n<=400:=λx hle=>by
  rw[ZE,aag,aaQ];omega
 have keep:∀(H1:HS) (x:D),H1.told=H.told->H1.reads=H.reads ++ [x]->∀sc:List D,∃eV,aL (H.told,H.reads ++ [x],sc)=aL (j5 H1 eV)/\(eV = []\/eV=sc):=λH1 x r u sc=>⟨sc,by unfold j5;rw[r,u],.inr rfl⟩
 have Ar:∀(v:D) (sc:List D),∃eV,aL (H.told ++ [v],[],[])=aL (j5 ⟨H.told ++ [v],[],[],none⟩ eV)/\(eV = []\/eV=sc):=λv sc=>⟨[],rfl,.inl rfl⟩
 cases S with
 |wr v w hp hw =>
  subst hp
  have bw:=ET (es:=bx c) (k:=(Zt "own",[(h:Int)])) (c:=cont M v (aR H.told) w) (g:=g) (by rw[ib];omega)
  rw[CU]at bw
  refine⟨.wr (Zt "own",[(h:Int)]) (cont M v (aR H.told) w),.td .aq,.aq,?_,bw,Nm,?_,λsc=>Ar .aq sc⟩
  . rcases hw with⟨hM,c0,r0⟩|f
    . have:H.reads = []:=by simp[HS.reads,c0,r0]
      rw[this]
      cases M with
      |once=>exact wV Am
      |twice t=>exact tN l Am
      |handed t m=>cases hM
    . rcases I.at_ with⟨fQ,_⟩|⟨w',en,v',fQ,hM,NT,E,Sf,_⟩
      . rw[f]at fQ;cases fQ
      . rw[f]at fQ
        cases fQ
        unfold HS.reads
        rw[NT,Sf]
        cases M with
        |once=>cases hM
        |twice t=>cases hM
        |handed t m=>exact sk rfl (q λz=>by cases z) hn h5 E p b l Am
  . rcases hw with⟨hM,c0,r0⟩|f
    . have:H.reads = []:=by simp[HS.reads,c0,r0]
      rw[this]
      cases M with
      |once=>exact wV (E5 (by simp))
      |twice t=>exact tN l (E5 (by simp))
      |handed t m=>cases hM
    . rcases I.at_ with⟨fQ,_⟩|⟨w',en,v',fQ,hM,NT,E,Sf,_⟩
      . rw[f]at fQ;cases fQ
      . rw[f]at fQ
        cases fQ
        unfold HS.reads
        rw[NT,aa6]
        cases M with
        |once=>cases hM
        |twice t=>cases hM
        |handed t m=>exact sk rfl (L2 λz=>by cases z) hn h5 E p b l (E5 (by simp))
 |go x f cC i bU =>
  have O:=j4 f
  have xc:=cc x (ZZ i)
  have O':wX M n H.cs (H.rest ++ [x]):=⟨by simp;omega,λy j=>by
    rcases ZN.mp j with j|j
    . exact O.rc y j
    . simp at j;subst j;exact xc,O.col,O.on,O.go⟩
  have o:=iF (nl:=nl.2) (h:=h) (ah:=hZ n h (aR H.told)) (g:=g) L2 hn h5 O' p b (dk cC hk)
  rw[<- aak]at o
  exact⟨_,_,x,iF q hn h5 O p b (dk cC hk),jX,CW i,o,keep _ x rfl (by simp[HS.reads])⟩
 |full x f cC i hle hm hg =>
  have O:=j4 f
  have xc:=cc x (ZZ i)
  have O':wX M n (H.cs ++ [H.rest ++ [x]]) []:=⟨by simp;omega,by simp,λa l=>by
    rcases ZN.mp l with l|l
    . exact O.col a l
    . simp at l
      subst l
      exact⟨by simp;omega,λy j=>by
        rcases ZN.mp j with j|j
        . exact O.rc y j
        . simp at j;subst j;exact xc⟩,λz=>absurd z hm,hg⟩
  have o:=iF (nl:=nl.2) (h:=h) (ah:=hZ n h (aR H.told)) (g:=g) L2 hn h5 O' (Ff x hle) b (dk cC hk)
  rw[aa6,Aq]at o
  exact⟨_,_,x,iF q hn h5 O p b (dk cC hk),jX,CW i,o,keep _ x rfl (by simp[HS.reads])⟩
 |E6 x f jT i hle hm =>
  have O:=j4 f
  have c0:=O.on hm
  have rr:H.reads=H.rest:=by simp[HS.reads,c0]
  have s:=iF (nl:=nl.1) (h:=h) (ah:=hZ n h (aR H.told)) (g:=g) q hn h5 O p b (.inl jT)
  have tJ:gI nl.1 [mD n M,.int h,d,.tup (hZ n h (aR H.told)),.tup H.reads] g=_:=s
  subst hm jT
  refine⟨_,.td (.tup (H.rest ++ [x])),x,tJ,jX,CW i,?_,λsc=>Ar _ sc⟩
  rw[rr]
  exact CS h5 (by simp;omega)
 |E_ x en f jT i hle hm E =>
  have O:=j4 f
  have s:=iF (nl:=nl.1) (h:=h) (ah:=hZ n h (aR H.told)) (g:=g) q hn h5 O p b (.inl jT)
  have o:=NQ (nl:=nl.2) (h:=h) (ah:=hZ n h (aR H.told)) (g:=g) (L2 hm) hm hn h5 E (Ff x hle) b
  rw[Aq,ZE,aag,afj,getD_last]at o
  subst jT
  exact⟨_,.td (fZ (H.rest ++ [x]) en),x,s,jX,CW i,o,λsc=>Ar _ sc⟩
 |vw v x en f hM ly i hle E =>
  have O:=j4 f
  have s:=iF (nl:=nl.1) (h:=h) (ah:=hZ n h (aR H.told)) (g:=g) q hn h5 O p b (.inr ⟨hM,v,ly⟩)
  subst ly
  cases M with
  |once=>cases hM
  |twice t=>cases hM
  |handed t m =>
    have o:=sk (nl:=nl.2) (rest:=[]) (v:=v) (g:=g) rfl (L2 λz=>by cases z) hn h5 E (Ff x hle) b l Am
    rw[aa6,Aq]at o
    exact⟨_,_,x,s,jX,CW i,o,keep _ x rfl (by simp[HS.reads])⟩
theorem prog (L:¬M = .once->w_ nl n M)(hn:1<=n)(h5:n<=5)(hh:h<n)(I:HI M n h row K H)(hK:K<=300)(hd:row[H.told.length]? = some d)(hk:d = .tup [.str "look"] \/ ∃v,d = .tup [.str "put",.int h,v])(cl:c.length=n)(cc:∀x∈c,cN M x)(CY:c'.length=n)(tO:∀x∈c',cN M x)(b:Bd g)(S:S1 M n h c H d c' H')(hj:js[h]? = some (cL row))(Zd:row.length<=50)(hr:rs[h]? = some (H.told,H.reads,gD))(rl:rs.length=n)(ro:∀r∈rs,lU (K+1) r):
   ∃eV s,pg s/\i6 nl [mD n M,.tup js,aM (bx c) rs,.int h] g=some (aM (bx c') ((rs.set h (j5 H' eV)).map (ws s)),g) /\ ∀r∈(rs.set h (j5 H' eV)).map (ws s),lU (K+2) r:=by
 obtain⟨st,e,x,p,e4,e5,e6,e7⟩:=QJ L hn h5 hh I hK hd hk cl cc b S hr
 obtain⟨s,es,ss⟩:=CV (M:=M) h5 CY tO b
 obtain⟨s0,XZ,X0⟩:=CV (M:=M) (g:=g) h5 cl cc b
 obtain⟨w,mr,em,q,_⟩:=mw (n:=n) M
 have rr:=hr
 have X1:lU (K+1) (H.told,H.reads,gD):=ro _ (ZZ hr)
 have sn:∃sc,Ap [mD n M,aM (bx c) rs,.int h,d] g=some (.tup sc,g)/\sc.length<=K+1 /\ ∀y∈sc,se y:=by
   rcases hk with rfl|⟨v,rfl⟩
   . have k:=E4 (rs:=rs) XZ
     rw[em]at k ⊢
     refine⟨_,Al q hr k,?_⟩
     dsimp only
     split
     . exact⟨by simp,λy a=>by simp at a;subst a;exact X0.st⟩
     . exact X1
   . exact⟨[],CL,by simp,by simp⟩
 obtain⟨sc,X2,X3,X4⟩:=sn
 obtain⟨eV,f1,f2⟩:=e7 sc
 have X5:H.reads.length<=500:=by
   have fw:=I.ia
   have:H.reads.length=H.cs.length*n+H.rest.length:=by
     unfold HS.reads
     rcases I.at_ with⟨_,O,_⟩|⟨_,_,_,_,_,_,E,_⟩
     . exact An O.col
     . exact An E.col
   omega
 have j:=NH (step:=gI nl.2) (read:=w9) (since:=Ap) (ah:=hZ n h (aR H.told)) (deed:=d) (m:=mD n M) (g:=g) hr ⟨by have:=I.tl;dsimp only;omega,X5⟩ e5 e6 X2
 rw[f1]at j
 have X6:lU (K+1) (j5 H' eV):=by
   rcases f2 with rfl|rfl
   . exact⟨by simp[j5],by simp[j5]⟩
   . exact⟨X3,X4⟩
 have l:∀r∈rs.set h (j5 H' eV),lU (K+1) r:=λr f=>by
   rcases acm f with z|z
   . exact ro r z
   . subst z;exact X6
 refine⟨eV,s,ss,?_,λr f=>?_⟩
 . have o:=JB (g:=g) (m:=mD n M) (tM M h5) (by omega) I.fit (by have:=I.fit.1;omega)
   have u:=Nq (es:=bx c) (g:=g) (iE M h5 g) hh hj hr hd
   rw[em]at o u p es j
   have main:=QH (pl:=.int 0) (wst:=Fe) q hr hj (by omega) (by rcases hk with rfl|⟨v,rfl⟩<;>rfl) u o p e4 j es λr f=>JA ss.st (l r f) (by omega)
   rw[em]
   generalize aM (bx c) rs=R at *
   generalize aM (bx c') ((rs.set h (j5 H' eV)).map (ws s))=R2 at *
   exact aQ (σ':=[some (.tup (.str w::mr)),some (.tup js),some R,some (.int h)]) rfl (by simp[qd,main]) rfl
 . obtain⟨r0,h0,rfl⟩:=Z8.mp f
   have i:=l r0 h0
   unfold ws
   split
   . exact⟨by have:=i.1;omega,i.2⟩
   . refine⟨by have:=i.1;simp;omega,λy a=>?_⟩
     rcases ZN.mp a with a|a
     . exact i.2 y a
     . simp at a;subst a;exact ss.st
end
abbrev CN:=Nat×Nat
noncomputable def up {α β:Type}[DecidableEq α](f:α->β)(x:α)(a:β):α->β:=λy=>if y=x then a else f y
theorem dH {α β:Type}[DecidableEq α]{f:α->β}{x:α}{a:β}:up f x a x=a:=by simp[up]
theorem bK {α β:Type}[DecidableEq α]{f:α->β}{x y:α}{a:β}(h:¬y=x):up f x a y=f y:=by simp[up,h]
structure Sep (V:CN->Prop)(ad:CN->Nat)(ct:CN->List D)(g:G):Prop where
 inj:∀x y,V x->V y->ad x=ad y->x=y
 at_:∀x,V x->g[ad x]? = some (ct x)
section
variable {V V':CN->Prop}{ad:CN->Nat}{ct Hh:CN->List D}{g g':G}
theorem Sep.lt (S:Sep V ad ct g){x:CN}(h:V x):ad x<g.length:=(Zr.mp (S.at_ x h)).1
theorem Sep.set (S:Sep V ad ct g){x0:CN}{xs:List D}(h:V x0):Sep V ad (up ct x0 xs) (g.set (ad x0) xs):=by
 refine⟨S.inj,λx a=>?_⟩
 by_cases e:x=x0
 . subst e
   rw[ZL (S.lt a),dH]
 . rw[ZT λz=>e (S.inj x0 x h a z).symm,bK e]
   exact S.at_ x a
theorem Sep.new (S:Sep V ad ct g){x0:CN}{xs:List D}:Sep (λx=>V x\/x=x0) (up ad x0 g.length) (up ct x0 xs) (g ++ [xs]):=by
 refine⟨λx y a c e=>?_,λx a=>?_⟩
 . by_cases e1:x=x0
   . by_cases e2:y=x0
     . rw[e1,e2]
     . subst e1
       rw[dH,bK e2]at e
       have:=S.lt (c.resolve_right e2)
       omega
   . by_cases e2:y=x0
     . subst e2
       rw[dH,bK e1]at e
       have:=S.lt (a.resolve_right e1)
       omega
     . rw[bK e1,bK e2]at e
       exact S.inj x y (a.resolve_right e1) (c.resolve_right e2) e
 . by_cases e1:x=x0
   . subst e1
     rw[dH,dH]
     simp
   . have b:=a.resolve_right e1
     rw[bK e1,bK e1,Zx (S.lt b)]
     exact S.at_ x b
theorem Sep.sub (S:Sep V ad ct g)(h:∀x,V' x->V x)(hc:∀x,V' x->ct x=Hh x):Sep V' ad Hh g:=⟨λx y a b=>S.inj x y (h x a) (h y b),λx a=>by rw[<- hc x a];exact S.at_ x (h x a)⟩
end
mutual
theorem NU {a b:Nat}(h:a<=b):∀d:D,b5 a d=true->b5 b d=true
 |.ref k,q=>by simp[b5]at q ⊢;omega
 |.ax k,q=>by simp[b5]at q ⊢;omega
 |.tup xs,q=>oA h xs q
 |.lst xs,q=>oA h xs q
 |.aq,_=>rfl
 |.bl _,_=>rfl
 |.int _,_=>rfl
 |.str _,_=>rfl
 |.de,_=>rfl
 |.fn _,_=>rfl
theorem oA {a b:Nat}(h:a<=b):∀xs:List D,aX a xs=true->aX b xs=true
 | [],_=>rfl
 |d::ds,q=>by
  simp only[aX,Zv]at q ⊢
  exact⟨NU h d q.1,oA h ds q.2⟩
end
theorem sm {a b:Nat}(h:a<=b){xs:List D}(q:aX a xs=true):aX b xs=true:=oA h xs q
theorem Bd.set {g:G}{i:Nat}{xs:List D}(b:Bd g)(h:aX g.length xs=true):Bd (g.set i xs):=by
 intro j c a
 rw[abM]
 by_cases e:i=j
 . subst e
   have:=(Zr.mp a).1
   rw[abM]at this
   rw[ZL this]at a
   cases a
   exact h
 . rw[ZT e]at a
   exact b j c a
theorem Bd.new {g:G}{xs:List D}(b:Bd g)(h:aX (g.length+1) xs=true):Bd (g ++ [xs]):=by
 intro j c a
 rw[ZE,aag]
 by_cases e:j<g.length
 . rw[Zx e]at a
   exact sm (by omega) (b j c a)
 . have:j=g.length:=by have:=(Zr.mp a).1;simp at this;omega
   subst this
   simp at a
   subst a
   exact h
theorem iX {α:Type}{f:Nat->α}{n h:Nat}{y:α}(hh:h<n):((Zp n).map f).set h y=(Zp n).map (up f h y):=by
 apply aav
 intro i
 by_cases e:h=i
 . subst e
   rw[ZL (by simpa using hh),ZG,aac hh]
   simp[up]
 . rw[ZT e,ZG,ZG]
   cases hr:(Zp n)[i]? with
   |none=>rfl
   |some j =>
    have a:=(Zr.mp hr).1
    rw[aac (by simpa using a)]at hr
    cases hr
    simp[up,show ¬i=h from λz=>e z.symm]
theorem dC {f:Nat->D}{n h:Nat}(hh:h<n):bJ ((Zp n).map f) (h:Int)=some (f h):=cu (by rw[ZG,aac hh];rfl)
theorem yQ {k:Str×List Int}{y:D}:∀{es:Es},(es.map ky).Nodup->k∈es.map ky->bj (bq es) (kd k) y=bq (hV es k y)
 | [],_,h=>by simp at h
 |e::es,nd,h=>by
  rw[Z9,aaS]at nd
  show bj (kd (ky e)::e.2.2::bq es) (kd k) y=_
  unfold bj
  rw[Cq]
  by_cases hk:ky e=k
  . rw[decide_eq_true hk,if_pos rfl]
    have ns:hV es k y=es:=by
     unfold hV
     conv=>rhs;rw[<- List.map_id es]
     refine aaZ λb a=>?_
     rw[if_neg]
     . rfl
     . intro z
       exact nd.1 (by rw[hk,<- z];exact aci a)
    show kd (ky e)::y::bq es=bq (hV (e::es) k y)
    unfold hV at ns ⊢
    rw[Z9,ns,if_pos hk]
    rfl
  . rw[decide_eq_false hk,if_neg (by simp)]
    have ih:=yQ (k:=k) (y:=y) nd.2 (by
     rcases ZI.mp h with z|z
     . exact absurd z.symm hk
     . exact z)
    rw[ih]
    unfold hV
    rw[Z9,if_neg hk]
    rfl
noncomputable def As:FS:=aF (iY (ay (ag dY (ab 9) (aI cx af))) (ag ak (ag ak (ab 6) (ag ak (ab 9) (fC (.int 0)))) (fC (.int 2))) (fC .aq))
noncomputable def NV:FS:=aw (aC (bP b4 (cW (ab 7)) [none,none,some 4,some 1] (gN 1) (il (ay (ag oEq (ag ak (ab 3) (fC (.int 0))) (fC (.str "handed")))) (ay (ag oEq (ag ak (ag ak (ab 2) (fC (.str "seen"))) (ab 1)) (ag ak (ab 3) (fC (.int 3)))))) (ab 1)) (gN 9)) (As)
noncomputable def Sj:FS:=aw (gr (cW (ab 7)) (gN 8) (aC (ag bC (ag ak (ag ak (ab 4) (fC (.str "seen"))) (ab 8)) (fC (.int 1))) (cX (ag ak (ab 4) (fC (.str "seen"))) (ab 8)))) (NV)
noncomputable def CZ:FS:=aw (bu (ay (ag oEq (ab 7) (aI cx af))) (aF (au dG (aa (iS b4 (rQ (ab 6)) [none,none] (gN 1) bp (ag ak (ab 1) (fC (.int 0)))) af))) aO) (Sj)
noncomputable def Sk:FS:=aw (aC (bP b4 (dB (aa (ab 3) af)) [none,none,some 6,some 5] (gN 1) (ay (ag dY (ag ak (ag ak (ab 3) (ab 1)) (fC (.int 1))) (ag ak (ag ak (ab 2) (ab 1)) (fC (.int 1))))) (ab 1)) (gN 7)) (CZ)
noncomputable def NW:FS:=aw (bu (ay (ag mY (ab 5) (fC .aq))) (aF (fC .aq)) aO) (Sk)
noncomputable def jJ:FS:=aw (bu (ay (ag oEq (ag ak (ab 1) (fC (.int 0))) (fC (.str "once")))) (aF (au dG (aa (ab 6) af))) aO) (NW)
noncomputable def Sl:FS:=aw (aC (aI aA (aa (ab 6) (aa (aI mkRef af) af))) (gT 2 (b9 (cX (ab 4) (fC (.str "old"))) (b9 (cX (ab 4) (fC (.str "now"))) gk)))) (jJ)
noncomputable def Sm:FS:=aw (aC (aI aA (aa (ag ak (ab 4) (fC (.str "old"))) (aa (ag ak (ab 4) (fC (.str "now"))) af))) (gT 2 (b9 (gN 5) (b9 (gN 6) gk)))) (Sl)
noncomputable def yR:FS:=aw (bu (ay (ag oLt (au bN (aa (ag ak (ab 4) (fC (.str "now"))) af)) (ab 3))) (aF (fC .aq)) aO) (Sm)
noncomputable def Sn:FS:=aw (fG (eA isRef dJ (ag ak (ab 4) (fC (.str "now"))) (aa (ag ak (ag ak (ab 0) (fC (.str "boxes"))) (aI aA (aa (fC (.str "own")) (aa (au bN (aa (ag ak (ab 4) (fC (.str "now"))) af)) af)))) af))) (yR)
noncomputable def yS:FS:=aw (aC (aI aA (aa (ag ak (ab 1) (fC (.int 1))) (aa (ag ak (ag ak (ab 0) (fC (.str "look"))) (ab 2)) af))) (gT 2 (b9 (gN 3) (b9 (gN 4) gk)))) (Sn)
noncomputable def So:FS:=fG (eA isRef dJ (ag ak (ag ak (ab 0) (fC (.str "told"))) (ab 2)) (aa (fC .aq) af))
noncomputable def Sq:FS:=aw (aC (fC .aq) (cX (ag ak (ab 0) (fC (.str "view"))) (ab 2))) (So)
noncomputable def Sr:FS:=aw (aC (ab 5) (cX (ag ak (ab 0) (fC (.str "boxes"))) (aI aA (aa (fC (.str "own")) (aa (ab 2) af))))) (Sq)
noncomputable def Ss:FS:=aw (aC (ag ak (dZ [(fC (.str "once"),ab 3),(fC (.str "twice"),aI aA (aa (ab 3) (aa (ab 4) af))),(fC (.str "handed"),aI aA (aa (ab 3) (aa (ab 4) (aa (ag ak (ag ak (ab 0) (fC (.str "view"))) (ab 2)) af))))]) (ag ak (ab 1) (fC (.int 0)))) (gN 5)) (Sr)
noncomputable def Su:FS:=aw (bu (il (ay (ag dY (ag ak (ab 1) (fC (.int 0))) (fC (.str "once")))) (ay (ag sR (ag ak (ab 1) (fC (.int 2))) (fC (.int 0))))) (aC (ag (cI cj (· % ·)) (ab 4) (ag ak (ab 1) (fC (.int 2)))) (gN 4)) aO) (Ss)
noncomputable def Sv:FS:=aw (aC (ag ak (ag ak (ab 0) (fC (.str "puts"))) (ab 2)) (gN 4)) (Su)
noncomputable def Hi:FS:=aw (aC (ag bC (ag ak (ag ak (ab 0) (fC (.str "puts"))) (ab 2)) (fC (.int 1))) (cX (ag ak (ab 0) (fC (.str "puts"))) (ab 2))) (Sv)
noncomputable def nK:FS:=aF (dZ [(fC (.str "old"),fC .aq),(fC (.str "now"),aI mkRef af),(fC (.str "seen"),ag gV (aI cx (aa (fC (.int 0)) af)) (ab 0))])
noncomputable def tP (fresh read write:Fn):FS:=bu (ay (ag jk (ab 4) (fC .aq))) (aw (aC (au fresh (aa (ag ak (ab 1) (fC (.int 1))) af)) (cX (ag ak (ab 0) (fC (.str "look"))) (ab 2))) (bu (ay (ag oEq (ag ak (ab 3) (fC (.int 0))) (fC (.str "put")))) (aC (ab 4) (cX (ag ak (ab 0) (fC (.str "view"))) (ab 2))) (fG (eA isRef dJ (ag ak (ag ak (ab 0) (fC (.str "told"))) (ab 2)) (aa (ab 4) af))))) aO
noncomputable def C0 (fresh read write:Fn):FS:=aw (aC (au read (aa (ab 0) (aa (ab 1) (aa (ab 2) af)))) (gN 4)) (tP fresh read write)
noncomputable def rg (fresh read write:Fn):FS:=aw (bu (il (ay (ag oEq (ag ak (ab 3) (fC (.int 0))) (fC (.str "put")))) (uZ (ay (ag dY (ag ak (ab 1) (fC (.int 0))) (fC (.str "handed")))) (ay (ag jk (ag ak (ag ak (ab 0) (fC (.str "view"))) (ab 2)) (fC .aq))))) (aw (fG (au write (aa (ab 0) (aa (ab 1) (aa (ab 2) (aa (ag ak (ab 3) (fC (.int 2))) af)))))) uc) aO) (C0 fresh read write)
noncomputable def lcs (H:HS):List (List D):=match H.view with
 |none=>H.cs
 |some _=>[]
noncomputable def fU (H:HS):List D:=match H.view with
 |none=>H.rest
 |some _=>[]
noncomputable def jq (n:Nat)(cs:List (List D)):List D:=(Zp n).map λ(j:Nat)=>D.int (cnt cs (cs.length-1) j:Nat)
noncomputable def aU (o:D)(nw sn:Nat):List D:=[.str "old",o,.str "now",.ref nw,.str "seen",.ref sn]
noncomputable def aP (n:Nat)(ad:CN->Nat)(c:List D)(tl:Nat->List D)(vw:Nat->D)(lc:Nat->List (List D))(lr lf:Nat->List D)(x:CN):List D:=match x.1 with
 | 0=>[.str "boxes",.ax (ad (1,0)),.str "puts",.ref (ad (2,0)),.str "told",.lst ((Zp n).map λ(h:Nat)=>D.ref (ad (6,h))),.str "view",.ref (ad (3,0)),.str "look",.ref (ad (4,0))]
 | 1=>bq (bx c)
 | 2=>(Zp n).map λ(h:Nat)=>D.int (aR (tl h):Nat)
 | 3=>(Zp n).map vw
 | 4=>(Zp n).map λ(h:Nat)=>D.ax (ad (7,h))
 | 5=>lf x.2
 | 6=>tl x.2
 | 7=>aU (if lc x.2 = []then .aq else .ref (ad (10,x.2))) (ad (8,x.2)) (ad (9,x.2))
 | 8=>lr x.2
 | 9=>jq n (lc x.2)
 |_=>(lc x.2).getD ((lc x.2).length-1) []
def VW (E:Nat->Prop)(n:Nat)(lc:Nat->List (List D))(x:CN):Prop:=(x.1<=5/\(x.2=0\/x.1=5/\E x.2))\/(6<=x.1/\x.1<=9/\x.2<n)\/(x.1=10/\x.2<n/\lc x.2 ≠ [])
abbrev Wc (E:Nat->Prop)(n:Nat)(ad:CN->Nat)(c:List D)(tl:Nat->List D)(vw:Nat->D)(lc:Nat->List (List D))(lr lf:Nat->List D)(g:G):Prop:=Sep (VW E n lc) ad (aP n ad c tl vw lc lr lf) g
theorem cw {x:Str}:aY 6 (.str x)=true:=rfl
theorem Hj {n:Nat}{M:Mk}{g:G}:ak (mD n M) (.int 1) g=some (.int n,g):=by cases M<;>rfl
theorem xa {n:Nat}{g:G}(hn:n<=5):ao true 1 1 nK [.int n] g=some (.ax g.length,g ++ [aU .aq (g.length+1) (g.length+2),[],Zo n (.int 0)]):=by
 have key:wp (ao true 1 1 nK [.int n] g) λq=>q=(.ax g.length,g ++ [aU .aq (g.length+1) (g.length+2),[],Zo n (.int 0)]):=by
  refine IT rfl ?_
  have cE:L3.cE (n:Int)=true:=by unfold L3.cE;simp;omega
  have zn:aD n=true:=aH (by omega)
  have c:(Zo n [D.int 0]).flatten=Zo n (.int 0):=by
   clear cE zn hn
   induction n with
   |zero=>rfl
   |succ n ih=>rw[aaq,aaj,ih];rfl
  have q1:aB (.str "old") (.str "now")=false:=rfl
  have f:∀a b:D,bj [.str "old",.aq,.str "now",a] (.str "seen") b = [.str "old",.aq,.str "now",a,.str "seen",b]:=λa b=>rfl
  have h:aD (4 / 2+1)=true:=rfl
  simp[nK,dZ,m9,cE,zn,z1,c,putAll,eN,cw,ij,bj,q1]
  simp[f,z3,aU]
  rfl
 obtain⟨q,e,rfl⟩:=key
 exact e
section
variable {E:Nat->Prop}{n h:Nat}{M:Mk}{ad:CN->Nat}{c:List D}{tl lr lf:Nat->List D}{vw:Nat->D}{lc:Nat->List (List D)}{g:G}{x:D}
theorem v0 {i:Nat}(hi:i<=5):VW E n lc (i,0):=.inl ⟨hi,.inl rfl⟩
theorem vh {i:Nat}(hh:h<n)(h1:6<=i)(h2:i<=9):VW E n lc (i,h):=.inr (.inl ⟨h1,h2,hh⟩)
noncomputable abbrev cz (w:Nat)(m:D)(h n k:Nat)(o5 o6 o7 o8 o9:Option D):Sg:=[some (.ax w),some m,some (.int h),some (.int n),some (.ax k),o5,o6,o7,o8,o9]
theorem C1 (W:Wc E n ad c tl vw lc lr lf g)(hh:h<n)(h5:n<=5)(cl:c.length=n)(cc:∀x∈c,cN M x)(hx:c[(lr h).length]? = some x)(hl:(lr h).length<n):
  yS [some (.ax (ad (0,0))),some (mD n M),some (.int h),none,none,none,none,none,none,none] g=yR (cz (ad (0,0)) (mD n M) h n (ad (7,h)) none none none none none) (g.set (ad (8,h)) (lr h ++ [x])):=by
 obtain⟨a,e,wl,m⟩:∃a,g[ad (0,0)]? = some a/\bg a (.str "look")=some (.ref (ad (4,0)))/\bg a (.str "boxes")=some (.ax (ad (1,0))):=⟨_,W.at_ (0,0) (v0 (by omega)),rfl,rfl⟩
 obtain⟨b,k,l⟩:∃b,g[ad (7,h)]? = some b/\bg b (.str "now")=some (.ref (ad (8,h))):=⟨_,W.at_ (7,h) (vh hh (by omega) (by omega)),rfl⟩
 have i:g[ad (4,0)]? = some ((Zp n).map λ(h:Nat)=>D.ax (ad (7,h))):=W.at_ (4,0) (v0 (by omega))
 have a1:bJ ((Zp n).map λ(h:Nat)=>D.ax (ad (7,h))) (h:Int)=some (.ax (ad (7,h))):=dC hh
 have n1:g[ad (8,h)]? = some (lr h):=W.at_ (8,h) (vh hh (by omega) (by omega))
 have q:g[ad (1,0)]? = some (bq (bx c)):=W.at_ (1,0) (v0 (by omega))
 have f:=nz (j3 (M:=M) (by omega) cc).nd (w6 _ _ hx)
 have j:bg (bq (bx c)) (.tup [.str "own",.int ((lr h).length:Int)])=some x:=f
 have p:aY 6 (.tup [.str "own",.int ((lr h).length:Int)])=true:=rZ (Zt "own",[((lr h).length:Int)])
 have o:aD ((lr h).length+1)=true:=aH (by omega)
 unfold yS
 rw[aK (σ1:=cz (ad (0,0)) (mD n M) h n (ad (7,h)) none none none none none) (g1:=g) (by simp[Hj,e,wl,cw,i,a1,z2])]
 unfold Sn
 rw[aK (σ1:=cz (ad (0,0)) (mD n M) h n (ad (7,h)) none none none none none) (g1:=g.set (ad (8,h)) (lr h ++ [x])) (by simp[k,l,cw,e,m,n1,z2,q,p,j,o])]
end
theorem NX {α:Type}{f h:α->D}{t:FG}{c:FT}{e:FE}{nn:Nat}{g:G}{xs:List α}(hg:g[nn]? = some (xs.map f))(I:Sg->Prop)(hh:∀x∈xs,∀σ,I σ->∃σ1,t (f x) σ g=some (σ1,g)/\c σ1 g=some (true,g)/\e σ1 g=some (h x,g)/\I σ1):
  ∀(k:Nat) (σ:Sg),k<=xs.length->I σ->gh nn xs.length t c e k σ g=some ((xs.drop (xs.length-k)).map h,g)
 | 0,σ,_,_=>by simp[gh,hg]
 |k+1,σ,hk,hi=>by
  have a:xs.length-(k+1)<xs.length:=by omega
  obtain⟨σ1,j,l,m,b⟩:=hh (xs[xs.length-(k+1)]) (Z2 a) σ hi
  have ih:=NX hg I hh k σ1 (by omega) b
  rw[aaT a,show xs.length-(k+1)+1=xs.length-k by omega]
  have i:(xs.map f)[xs.length-(k+1)]? = some (f xs[xs.length-(k+1)]):=by simp[a]
  simp only[gh,hg,Zw,Z3,if_true,i,j,l,m,ih,Z9]
theorem Au {α:Type}{f:α->D}{t:FG}{c:FT}{e:FE}{cB:α->Bool}(I:Sg->Prop):∀(xs:List α) (σ:Sg) (g:G),I σ->(∀x∈xs,∀σ,I σ->∃σ1,t (f x) σ g=some (σ1,g)/\c σ1 g=some (cB x,g)/\e σ1 g=some (f x,g)/\I σ1)->a_ t c e (xs.map f) σ g=some ((xs.filter cB).map f,g)
 | [],σ,g,_,_=>rfl
 |x::xs,σ,g,hI,hs=>by
  obtain⟨σ1,a,b,j,h⟩:=hs x (by simp) σ hI
  have ih:=Au I xs σ1 g h λy i=>hs y (by simp[i])
  cases hc:cB x with
  |true=>simp[a_,a,b,j,ih,hc]
  |false=>simp[a_,a,b,ih,hc]
noncomputable def bI (n:Nat)(f:Nat->Nat):List D:=(Zp n).map λ(j:Nat)=>D.int (f j:Nat)
theorem yT {n j:Nat}{f:Nat->Nat}(h:j<n):bJ (bI n f) (j:Int)=some (.int (f j:Nat)):=dC h
theorem Fh {n j:Nat}{f:Nat->Nat}{y:Nat}(h:j<n):(bI n f).set j (.int (y:Nat))=bI n (up f j y):=by
 unfold bI
 rw[iX h]
 refine aaZ λi _=>?_
 by_cases e:i=j
 . subst e;simp[up]
 . simp[up,e]
theorem set_set {g:G}{i:Nat}{x y:List D}:(g.set i x).set i y=g.set i y:=by simp
theorem Av {xs:List D}{g:G}(f:aN xs=true)(d:bS xs<=0):oEq (.lst xs) (.lst []) g=some (.bl xs.isEmpty,g)/\dY (.lst xs) (.lst []) g=some (.bl (!xs.isEmpty),g):=by
 have f1:flat (.lst xs)=true:=by simpa[flat]using f
 have f2:dep (.lst xs)<=60:=by simp[dep];omega
 have a:flat (.lst [])=true:=rfl
 have e:aB (.lst xs) (.lst [])=xs.isEmpty:=by cases xs<;>rfl
 unfold oEq dY
 rw[f1,a,decide_eq_true f2,e]
 exact⟨rfl,rfl⟩
theorem jB {l:List Nat}:aN (dN l)=true/\bS (dN l)<=0:=⟨bH λx a=>by obtain⟨i,_,rfl⟩:=Z8.mp a;rfl,d7 λx a=>by obtain⟨i,_,rfl⟩:=Z8.mp a;simp[dep]⟩
section
variable {n h w k nw sn od q:Nat}{M:Mk}{a b:List D}{f:Nat->Nat}{g:G}{o:D}
noncomputable def fL:FS:=aC (ag bC (ag ak (ag ak (ab 4) (fC (.str "seen"))) (ab 8)) (fC (.int 1))) (cX (ag ak (ab 4) (fC (.str "seen"))) (ab 8))
theorem xb {o5 o6 o7 o9:Option D}(k0:g[k]? = some (aU o q sn))(C2:k≠sn)(vH:sn<g.length):∀(l:List Nat) (f:Nat->Nat) (o8:Option D),l.Nodup->(∀j∈l,j<n)->∃p8,forL (gN 8) fL (dN l) (cz w (mD n M) h n k o5 o6 o7 o8 o9) (g.set sn (bI n f))=some (.nx,cz w (mD n M) h n k o5 o6 o7 p8 o9,g.set sn (bI n (bD f l)))
 | [],f,o8,_,_=>⟨o8,by
   have:bD f []=f:=by funext i;simp[bD]
   rw[this]
   rfl⟩
 |j::l,f,o8,nd,hl=>by
  have a:=hl j (by simp)
  rw[aaS]at nd
  obtain⟨p8,e⟩:=xb (o5:=o5) (o6:=o6) (o7:=o7) (o9:=o9) k0 C2 vH l (up f j (f j+1)) (some (.int j)) nd.2 λi b=>hl i (by simp[b])
  have p:bD (up f j (f j+1)) l=bD f (j::l):=by
   funext i
   unfold bD up
   by_cases e1:i=j
   . subst e1
     simp[nd.1]
   . simp[e1]
  rw[p]at e
  refine⟨p8,?_⟩
  have s:(g.set sn (bI n f))[k]? = some (aU o q sn):=by rw[ZT (λz=>C2 z.symm)];exact k0
  have s1:(g.set sn (bI n f))[sn]? = some (bI n f):=ZL vH
  have r:bg (aU o q sn) (.str "seen")=some (.ref sn):=rfl
  have a1:=yT (f:=f) a
  have pt:putD (.ref sn) (.int j) (.int ((f j:Nat)+1:Int)) (g.set sn (bI n f))=some (g.set sn (bI n (up f j (f j+1)))):=by
   rw[nC s1 (by simp[bI];exact a)]
   have:D.int ((f j:Nat)+1:Int)= .int ((f j+1:Nat):Int):=by simp
   rw[this,Fh a,set_set]
  have st:fL (cz w (mD n M) h n k o5 o6 o7 (some (.int j)) o9) (g.set sn (bI n f))=some (.nx,cz w (mD n M) h n k o5 o6 o7 (some (.int j)) o9,g.set sn (bI n (up f j (f j+1)))):=by
   generalize g.set sn (bI n f)=g1 at *
   generalize mD n M=m at *
   generalize bI n f=F at *
   generalize g.set sn (bI n (up f j (f j+1)))=g2 at *
   simp[fL,s,cw,r,s1,a1,pt]
  show forL (gN 8) fL (.int j::dN l) _ _=_
  have c:gN 8 (.int j) (cz w (mD n M) h n k o5 o6 o7 o8 o9) (g.set sn (bI n f))=some (cz w (mD n M) h n k o5 o6 o7 (some (.int j)) o9,g.set sn (bI n f)):=rfl
  simp only[forL,c,Zw,st,e]
end
section
variable {n h w k nw sn od q:Nat}{M:Mk}{a b:List D}{f:Nat->Nat}{g:G}{o m:D}
theorem QK (k0:g[k]? = some (aU o nw sn))(n0:g[nw]? = some a)(hl:a.length<n):yR (cz w m h n k none none none none none) g=some (.rt .aq,cz w m h n k none none none none none,g):=by
 have c:bg (aU o nw sn) (.str "now")=some (.ref nw):=rfl
 have b:(a.length:Int)<n:=by omega
 simp[yR,k0,cw,c,n0,b]
theorem NY (k0:g[k]? = some (aU o nw sn))(n0:g[nw]? = some a)(hl:a.length=n):yR (cz w m h n k none none none none none) g=jJ (cz w m h n k (some o) (some (.ref nw)) none none none) ((g ++ [[]]).set k (aU (.ref nw) g.length sn)):=by
 have c:bg (aU o nw sn) (.str "now")=some (.ref nw):=rfl
 have b:bg (aU o nw sn) (.str "old")=some o:=rfl
 have f:=(Zr.mp k0).1
 have q:¬(a.length:Int)<n:=by omega
 have e:(g ++ [[]])[k]? = some (aU o nw sn):=by rw[Zx f];exact k0
 have p1:bj (aU o nw sn) (.str "old") (.ref nw)=aU (.ref nw) nw sn:=rfl
 have l:bj (aU (.ref nw) nw sn) (.str "now") (.ref g.length)=aU (.ref nw) g.length sn:=rfl
 have j:((g ++ [[]]).set k (aU (.ref nw) nw sn))[k]? = some (aU (.ref nw) nw sn):=ZL (by simp;omega)
 have p:∀x y z,(aU x y z).length=6:=λ_ _ _=>rfl
 have r:∀x y z,ij (aU x y z)=true:=λ_ _ _=>by unfold ij;exact aH (by simp[aU])
 unfold yR
 rw[aK (σ1:=cz w m h n k none none none none none) (g1:=g) (by simp[k0,cw,c,n0,q])]
 unfold Sm
 rw[aK (σ1:=cz w m h n k (some o) (some (.ref nw)) none none none) (g1:=g) (by simp[k0,cw,c,b,z2])]
 unfold Sl
 rw[aK (σ1:=cz w m h n k (some o) (some (.ref nw)) none none none) (g1:=(g ++ [[]]).set k (aU (.ref nw) g.length sn))]
 generalize i:g ++ [[]]=G at *
 simp[i,cw,z2,e,j,p1,l,p,r,putD,eN]
theorem C3 {g:G}:cx [] g=some (.lst [],g):=if_pos (aH (by simp))
theorem yU (g:G):∃w:Str,ak (mD n M) (.int 0) g=some (.str w,g)/\(w == Zt "once")=M.NK/\(w == Zt "handed")=fD M:=by
 cases M with
 |once=>exact⟨_,rfl,by decide,by decide⟩
 |twice t=>exact⟨"twice",rfl,show(Zt "twice" == Zt "once")=false by decide,show(Zt "twice" == Zt "handed")=false by decide⟩
 |handed t m=>exact⟨"handed",rfl,show(Zt "handed" == Zt "once")=false by decide,show(Zt "handed" == Zt "handed")=true by decide⟩
theorem C4 {a:List D}{j:Nat}(hc:∀x∈a,h_ x)(hj:j<a.length):∃v m r,bJ a (j:Int)=some (.tup (v :: .int m::r))/\num (a.getD j .aq)=m:=by
 obtain⟨v,m,r,e⟩:=hc a[j] (Z2 hj)
 exact⟨v,m,r,cu (by rw[Zs hj,e]),by rw[ZC,Zs hj,e];rfl⟩
theorem xf:((Zp (n:Int).toNat).map λ(k:Nat)=>D.int (0+k))=dN (Zp n):=by
 unfold dN
 rw[abr]
 exact aaZ λi _=>by simp
theorem NZ (hs:n<=20)(a0:g[nw]? = some a)(b0:g[q]? = some b)(al:a.length=n)(bl:b.length=n)(ac:∀x∈a,h_ x)(bc:∀x∈b,h_ x):
  a_ (gN 1) (ay (ag dY (ag ak (ag ak (ab 3) (ab 1)) (fC (.int 1))) (ag ak (ag ak (ab 2) (ab 1)) (fC (.int 1))))) (ab 1) (dN (Zp n)) [none,none,some (.ref nw),some (.ref q)] g=some (dN (aJ b a),g):=by
 have:=Au (f:=λ(j:Nat)=>D.int j) (t:=gN 1) (c:=ay (ag dY (ag ak (ag ak (ab 3) (ab 1)) (fC (.int 1))) (ag ak (ag ak (ab 2) (ab 1)) (fC (.int 1))))) (e:=ab 1) (cB:=tI b a) (λσ=>∃i,σ = [none,i,some (.ref nw),some (.ref q)]) (Zp n) [none,none,some (.ref nw),some (.ref q)] g ⟨none,rfl⟩ (by
  rintro j l σ ⟨i,rfl⟩
  have sO:=Z_.mp l
  obtain⟨v,m,r,k,s⟩:=C4 (j:=j) ac (by omega)
  obtain⟨y,h,z,o,p⟩:=C4 (j:=j) bc (by omega)
  refine⟨[none,some (.int j),some (.ref nw),some (.ref q)],rfl,?_,rfl,⟨_,rfl⟩⟩
  have u:tI b a j = !(h == m):=by unfold tI;rw[s,p]
  simp[a0,b0,k,o,Nw,flat,dep,Wd.GR,u]
  by_cases hm:h=m<;>simp[hm])
 rw[show aJ b a=(Zp n).filter (tI b a) by unfold aJ;rw[bl]]
 exact this
theorem JI (zl:aD a.length=true)(a0:g[nw]? = some a)(hm:M = .once):jJ (cz w (mD n M) h n k (some o) (some (.ref nw)) none none none) g=some (.rt (.tup a),cz w (mD n M) h n k (some o) (some (.ref nw)) none none none,g):=by
 subst hm
 have e:ak (mD n .once) (.int 0) g=some (.str "once",g):=rfl
 have b:(Zt "once" == Zt "once")=true:=by decide
 generalize mD n .once=m at *
 simp[jJ,e,flat,dep,aB,b,a0,zl]
theorem Fi (hm:¬M = .once):jJ (cz w (mD n M) h n k (some .aq) (some (.ref nw)) none none none) g=some (.rt .aq,cz w (mD n M) h n k (some .aq) (some (.ref nw)) none none none,g):=by
 obtain⟨c,e,a,b⟩:=yU (n:=n) (M:=M) g
 rw[Mk.no hm]at a
 generalize mD n M=m at *
 simp[jJ,NW,e,flat,dep,aB,a,b8]
theorem JJ (hm:¬M = .once)(hs:n<=20)(a0:g[nw]? = some a)(b0:g[q]? = some b)(s0:g[sn]? = some (bI n f))(k0:g[k]? = some (aU o od sn))(C2:k≠sn)(al:a.length=n)(bl:b.length=n)(ac:∀x∈a,h_ x)(bc:∀x∈b,h_ x)(xQ:nw≠sn):
   (aJ b a = []->∃σ',jJ (cz w (mD n M) h n k (some (.ref q)) (some (.ref nw)) none none none) g=some (.rt (.tup (a.map gz)),σ',g)) /\
   (aJ b a ≠ []->d9 (bD f (aJ b a)) M.mv (aJ b a)= []->∃σ',jJ (cz w (mD n M) h n k (some (.ref q)) (some (.ref nw)) none none none) g=some (.rt .aq,σ',g.set sn (bI n (bD f (aJ b a))))) /\
   (aJ b a ≠ []->∀j r,d9 (bD f (aJ b a)) M.mv (aJ b a)=j::r->(∃v m u,a.getD j .aq = .tup [v,m,u])->∃σ',jJ (cz w (mD n M) h n k (some (.ref q)) (some (.ref nw)) none none none) g=some (.rt (NG (a.getD j .aq)),σ',g.set sn (bI n (bD f (aJ b a))))):=by
 obtain⟨w0,e,e1,e2⟩:=yU (n:=n) (M:=M) g
 rw[Mk.no hm]at e1
 have zn:aD (dN (Zp n)).length=true:=aH (by simp[dN];omega)
 have oR:L3.cE (n:Int)=true:=by unfold L3.cE;simp;omega
 have mo:=NZ hs a0 b0 al bl ac bc
 have c7:∀t:FS,jJ (cz w (mD n M) h n k (some (.ref q)) (some (.ref nw)) none none none) g=CZ (cz w (mD n M) h n k (some (.ref q)) (some (.ref nw)) (some (.lst (dN (aJ b a)))) none none) g:=by
   intro _
   unfold jJ
   rw[aK (σ1:=cz w (mD n M) h n k (some (.ref q)) (some (.ref nw)) none none none) (g1:=g) (by
     generalize mD n M=m at *
     simp[e,flat,dep,aB,e1])]
   unfold NW
   rw[aK (σ1:=cz w (mD n M) h n k (some (.ref q)) (some (.ref nw)) none none none) (g1:=g) (by simp[b8])]
   unfold Sk
   rw[aK (σ1:=cz w (mD n M) h n k (some (.ref q)) (some (.ref nw)) (some (.lst (dN (aJ b a)))) none none) (g1:=g)]
   have ir:dB (aa (ab 3) af) (cz w (mD n M) h n k (some (.ref q)) (some (.ref nw)) none none none) g=some (dN (Zp n),g):=by
     rw[<- xf]
     simp only[dB,cD,b6,ck,ZK,ZJ,Zw]
     rw[if_pos oR]
   rw[dI,er,ir]
   simp only[Zw]
   rw[if_pos zn]
   have sb:bZ [none,none,some 6,some 5] (cz w (mD n M) h n k (some (.ref q)) (some (.ref nw)) none none none)= [none,none,some (.ref nw),some (.ref q)]:=rfl
   rw[sb,mo]
   rfl
 have ne:=Av (g:=g) (jB (l:=aJ b a)).1 jB.2
 have vH:=(Zr.mp s0).1
 have ie:(dN (aJ b a)).isEmpty=(aJ b a).isEmpty:=by cases aJ b a<;>rfl
 rw[c7 aO]
 have c9:aJ b a ≠ []->∃p,CZ (cz w (mD n M) h n k (some (.ref q)) (some (.ref nw)) (some (.lst (dN (aJ b a)))) none none) g=As (cz w (mD n M) h n k (some (.ref q)) (some (.ref nw)) (some (.lst (dN (aJ b a)))) p (some (.lst (dN (d9 (bD f (aJ b a)) M.mv (aJ b a)))))) (g.set sn (bI n (bD f (aJ b a)))):=by
   intro cS
   have C5:(dN (aJ b a)).isEmpty=false:=by rw[ie];cases hq:aJ b a with
     |nil=>exact absurd hq cS
     |cons _ _=>rfl
   unfold CZ
   rw[aK (σ1:=cz w (mD n M) h n k (some (.ref q)) (some (.ref nw)) (some (.lst (dN (aJ b a)))) none none) (g1:=g) (by
     have n1:=ne.1
     rw[C5]at n1
     generalize dN (aJ b a)=l at *
     generalize mD n M=m at *
     simp only[eF,iu,dX,b6,gU,ck,ZK,ZJ,Zw,C3,n1]
     rfl)]
   have sg:g.set sn (bI n f)=g:=by
     apply aav
     intro i
     by_cases hi:sn=i
     . subst hi;rw[ZL vH,s0]
     . rw[ZT hi]
   obtain⟨p,fe⟩:=xb (n:=n) (h:=h) (w:=w) (M:=M) (o5:=some (.ref q)) (o6:=some (.ref nw)) (o7:=some (.lst (dN (aJ b a)))) (o9:=none) k0 C2 vH (aJ b a) f none CF λj hj=>by have:=lu hj;omega
   rw[sg]at fe
   refine⟨p,?_⟩
   unfold Sj
   rw[aK (σ1:=cz w (mD n M) h n k (some (.ref q)) (some (.ref nw)) (some (.lst (dN (aJ b a)))) p none) (g1:=g.set sn (bI n (bD f (aJ b a))))]
   rotate_left
   . rw[nV]
     exact fe
   have k1:(g.set sn (bI n (bD f (aJ b a))))[k]? = some (aU o od sn):=by rw[ZT (λz=>C2 z.symm)];exact k0
   have s1:(g.set sn (bI n (bD f (aJ b a))))[sn]? = some (bI n (bD f (aJ b a))):=ZL vH
   generalize g.set sn (bI n (bD f (aJ b a)))=G at *
   obtain⟨w1,E,_,E2⟩:=yU (n:=n) (M:=M) G
   have dg:bg (aU o od sn) (.str "seen")=some (.ref sn):=rfl
   have cf:=Au (f:=λ(j:Nat)=>D.int j) (t:=gN 1) (c:=il (ay (ag oEq (ag ak (ab 3) (fC (.int 0))) (fC (.str "handed")))) (ay (ag oEq (ag ak (ag ak (ab 2) (fC (.str "seen"))) (ab 1)) (ag ak (ab 3) (fC (.int 3)))))) (e:=ab 1) (cB:=λj=>aB (.int (bD f (aJ b a) j:Nat)) M.mv) (λσ=>∃y,σ = [none,y,some (.ax k),some (mD n M)]) (aJ b a) [none,none,some (.ax k),some (mD n M)] G ⟨none,rfl⟩ (by
     rintro j hj σ ⟨y,rfl⟩
     have pe:j<n:=by have:=lu hj;omega
     refine⟨[none,some (.int j),some (.ax k),some (mD n M)],rfl,?_,rfl,⟨_,rfl⟩⟩
     have sa:=yT (f:=bD f (aJ b a)) pe
     cases M with
     |once=>exact absurd rfl hm
     |twice t =>
       have s:(w1 == Zt "handed")=false:=E2
       have:aB (.int (bD f (aJ b a) j:Nat)) (Mk.twice t).mv=false:=rfl
       rw[this]
       generalize mD n (.twice t)=m at *
       simp[E,flat,dep,aB,s]
     |handed t m =>
       have s:(w1 == Zt "handed")=true:=E2
       have e3:ak (mD n (.handed t m)) (.int 3) G=some (.int m,G):=rfl
       have hv:(Mk.handed t m).mv = .int m:=rfl
       rw[hv]
       generalize mD n (.handed t m)=m' at *
       generalize bD f (aJ b a)=F at *
       simp[E,flat,dep,Wd.GR,s,k1,cw,dg,s1,sa,e3]
       rw[ade]
       simp)
   unfold NV
   rw[aK (σ1:=cz w (mD n M) h n k (some (.ref q)) (some (.ref nw)) (some (.lst (dN (aJ b a)))) p (some (.lst (dN (d9 (bD f (aJ b a)) M.mv (aJ b a)))))) (g1:=G)]
   have zm:aD (dN (aJ b a)).length=true:=aH (by
     have:(aJ b a).length<=b.length:=by unfold aJ;exact aaJ (abX _ _) (by simp)
     rw[nG];omega)
   have sb:bZ [none,none,some 4,some 1] (cz w (mD n M) h n k (some (.ref q)) (some (.ref nw)) (some (.lst (dN (aJ b a)))) p none)= [none,none,some (.ax k),some (mD n M)]:=rfl
   have is:cW (ab 7) (cz w (mD n M) h n k (some (.ref q)) (some (.ref nw)) (some (.lst (dN (aJ b a)))) p none) G=some (dN (aJ b a),G):=rfl
   rw[dI,er,is]
   simp only[Zw]
   rw[if_pos zm,sb]
   unfold dN at cf ⊢
   rw[cf]
   rfl
 refine⟨λhz=>?_,λcS ho=>?_,λcS j r ho h3=>?_⟩
 . have n1:=ne.1
   rw[ie,hz]at n1
   have zl:aD a.length=true:=aH (by omega)
   have cr:=NX (f:=id) (h:=gz) (t:=gN 1) (c:=bp) (e:=ag ak (ab 1) (fC (.int 0))) (xs:=a) (nn:=nw) (g:=g) (by simpa using a0) (λσ=>∃y:Option D,σ = [none,y]) (by
     rintro x hx σ ⟨y,rfl⟩
     obtain⟨v,m,r,rfl⟩:=ac x hx
     exact⟨[none,some (.tup (v :: .int m::r))],rfl,rfl,by simp[gz,bQ],⟨_,rfl⟩⟩) a.length [none,none] (ZA _) ⟨none,rfl⟩
   rw[ac7,aex]at cr
   refine⟨cz w (mD n M) h n k (some (.ref q)) (some (.ref nw)) (some (.lst (dN (aJ b a)))) none none,?_⟩
   unfold CZ
   rw[qV (d:=.tup (a.map gz)) (σ1:=cz w (mD n M) h n k (some (.ref q)) (some (.ref nw)) (some (.lst (dN (aJ b a)))) none none) (g1:=g)]
   have ir:rQ (ab 6) (cz w (mD n M) h n k (some (.ref q)) (some (.ref nw)) (some (.lst (dN (aJ b a)))) none none) g=some (nw,a.length,g):=by
     simp only[IZ,b6,ZK,ZJ,Zw,a0]
   have cc:iS b4 (rQ (ab 6)) [none,none] (gN 1) bp (ag ak (ab 1) (fC (.int 0))) (cz w (mD n M) h n k (some (.ref q)) (some (.ref nw)) (some (.lst (dN (aJ b a)))) none none) g=some (.lst (a.map gz),g):=by
     rw[BI,ir]
     simp only[Zw]
     rw[if_pos zl,show bZ [none,none] (cz w (mD n M) h n k (some (.ref q)) (some (.ref nw)) (some (.lst (dN (aJ b a)))) none none)= [none,none] from rfl,cr]
     rfl
   rw[hz]at cc ⊢
   have X_:oEq (.lst (dN [])) (.lst []) g=some (.bl true,g):=n1
   simp only[eF,iu,dX,b6,gU,ck,ZK,ZJ,Zw,C3,X_,kW,gw,cD,cc,gR]
   have Mu:aD (a.map gz).length=true:=by rw[Z3];exact zl
   simp[zl]
 . obtain⟨p,e9⟩:=c9 cS
   rw[e9,ho]
   exact⟨_,by
     unfold As
     simp[dN,flat,aN,dep,bS,aB]
     rfl⟩
 . obtain⟨p,e9⟩:=c9 cS
   rw[e9]
   have hj:j∈d9 (bD f (aJ b a)) M.mv (aJ b a):=by rw[ho];simp
   have pe:j<a.length:=by have:=lu (aaE.mp hj).1;omega
   obtain⟨v,m,u,e3⟩:=h3
   have ga:bJ a (j:Int)=some (.tup [v,m,u]):=cu (by rw[<- e3,ZC,Zs pe];rfl)
   have a1:(g.set sn (bI n (bD f (aJ b a))))[nw]? = some a:=by rw[ZT (λz=>xQ z.symm)];exact a0
   have n2:=(Av (g:=g.set sn (bI n (bD f (aJ b a)))) (jB (l:=d9 (bD f (aJ b a)) M.mv (aJ b a))).1 jB.2).2
   rw[ho]at n2 ⊢
   have Ya:dY (.lst (dN (j::r))) (.lst []) (g.set sn (bI n (bD f (aJ b a))))=some (.bl true,g.set sn (bI n (bD f (aJ b a)))):=n2
   rw[e3]
   generalize g.set sn (bI n (bD f (aJ b a)))=G at *
   have h0:ak (.lst (dN (j::r))) (.int 0) G=some (.int j,G):=by simp[dN,bQ]
   have h1:ak (.ref nw) (.int j) G=some (.tup [v,m,u],G):=by simp[a1,ga]
   have h2:ak (.tup [v,m,u]) (.int 2) G=some (u,G):=rfl
   generalize mD n M=m' at *
   exact⟨_,by
     unfold As
     simp only[IJ,iu,dX,b6,gU,ck,iH,ZK,ZJ,Zw,C3,Ya,kW,gR,h0,h1,h2,if_true]
     rfl⟩
end
section
variable {V V':CN->Prop}{ad:CN->Nat}{ct Hh:CN->List D}{g g':G}
theorem Sep.app (S:Sep V ad ct g){ys:G}:Sep V ad ct (g++ys):=⟨S.inj,λx a=>by rw[Zx (S.lt a)];exact S.at_ x a⟩
theorem Sep.Yb (S:Sep V ad ct g){ρ:CN->CN}(h:∀x,V' x->V (ρ x))(hi:∀x y,V' x->V' y->ρ x = ρ y->x=y):Sep V' (λx=>ad (ρ x)) (λx=>ct (ρ x)) g :=
 ⟨λx y a b e=>hi x y a b (S.inj _ _ (h x a) (h y b) e),λx a=>S.at_ _ (h x a)⟩
theorem N0 {i:Nat}{xs:List D}(h:g[i]? = some xs):g.set i xs=g:=by
 apply aav
 intro j
 by_cases hj:i=j
 . subst hj;rw[ZL (Zr.mp h).1,h]
 . rw[ZT hj]
end
section
variable {E:Nat->Prop}{n h:Nat}{ad:CN->Nat}{c:List D}{tl lr lf:Nat->List D}{vw:Nat->D}{lc:Nat->List (List D)}{g:G}{x y:D}{a:List D}
theorem U_ (W:Wc E n ad c tl vw lc lr lf g)(hh:h<n):Wc E n ad c tl vw lc (up lr h a) lf (g.set (ad (8,h)) a):=by
 refine(W.set (x0:=(8,h)) (xs:=a) (vh hh (by omega) (by omega))).sub (λx b=>b) ?_
 rintro⟨i,j⟩ b
 match i with
 | 0=>simp[up,aP]
 | 1=>simp[up,aP]
 | 2=>simp[up,aP]
 | 3=>simp[up,aP]
 | 4=>simp[up,aP]
 | 5=>simp[up,aP]
 | 6=>simp[up,aP]
 | 7=>simp[up,aP]
 | 8=>simp[up,aP]
 | 9=>simp[up,aP]
 |i+10=>simp[up,aP]
noncomputable def fE (ad:CN->Nat)(h L:Nat):CN->Nat:=up (λx=>ad (if x=(10,h)then(8,h)else x)) (8,h) L
theorem C6 (W:Wc E n ad c tl vw lc lr lf g)(hh:h<n):Wc E n (fE ad h g.length) c tl vw (up lc h (lc h ++ [a])) (up lr h []) lf ((((g.set (ad (8,h)) a) ++ [[]]).set (ad (7,h)) (aU (.ref (ad (8,h))) g.length (ad (9,h)))).set (ad (9,h)) (jq n (lc h ++ [a]))):=by
 have S1:=W.set (x0:=(8,h)) (xs:=a) (vh hh (by omega) (by omega))
 have v:=S1.Yb (V':=λx=>VW E n (up lc h (lc h ++ [a])) x/\x≠(8,h)) (ρ:=λx=>if x=(10,h)then(8,h)else x) (by
   rintro⟨i,j⟩ ⟨b,hn⟩
   by_cases e:(i,j)=(10,h)
   . rw[if_pos e];exact vh hh (by omega) (by omega)
   . rw[if_neg e]
     rcases b with z|z|⟨z1,z2,z3⟩
     . exact .inl z
     . exact .inr (.inl z)
     . refine .inr (.inr ⟨z1,z2,?_⟩)
       have:¬j=h:=λq=>e (by rw[q];dsimp only at z1;rw[z1])
       dsimp only at z3 ⊢
       rwa[bK this]at z3) (by
   rintro x y ⟨b,m⟩ ⟨hy,l⟩ e
   by_cases e1:x=(10,h)
   . by_cases e2:y=(10,h)
     . rw[e1,e2]
     . rw[if_pos e1,if_neg e2]at e;exact absurd e.symm l
   . by_cases e2:y=(10,h)
     . rw[if_neg e1,if_pos e2]at e;exact absurd e m
     . rwa[if_neg e1,if_neg e2]at e)
 have o:=v.new (x0:=(8,h)) (xs:=[])
 have s:(λx=>(VW E n (up lc h (lc h ++ [a])) x/\x≠(8,h))\/x=(8,h)) (7,h):=.inl ⟨vh hh (by omega) (by omega),by simp⟩
 have k:(λx=>(VW E n (up lc h (lc h ++ [a])) x/\x≠(8,h))\/x=(8,h)) (9,h):=.inl ⟨vh hh (by omega) (by omega),by simp⟩
 have f:=(o.set (xs:=aU (.ref (ad (8,h))) g.length (ad (9,h))) s).set (xs:=jq n (lc h ++ [a])) k
 have p:up (λx=>ad (if x=(10,h)then(8,h)else x)) (8,h) (g.set (ad (8,h)) a).length (7,h)=ad (7,h):=by simp[up]
 have u:up (λx=>ad (if x=(10,h)then(8,h)else x)) (8,h) (g.set (ad (8,h)) a).length (9,h)=ad (9,h):=by simp[up]
 rw[p,u]at f
 have r:up (λx=>ad (if x=(10,h)then(8,h)else x)) (8,h) (g.set (ad (8,h)) a).length=fE ad h g.length:=by rw[abM];rfl
 rw[r]at f
 refine f.sub (λx b=>?_) ?_
 . by_cases e:x=(8,h)
   . exact .inr e
   . exact .inl ⟨b,e⟩
 rintro⟨i,j⟩ b
 match i with
 | 0=>simp[up,aP,fE]
 | 1=>simp[up,aP,fE]
 | 2=>simp[up,aP,fE]
 | 3=>simp[up,aP,fE]
 | 4=>simp[up,aP,fE]
 | 5=>simp[up,aP,fE]
 | 6=>simp[up,aP,fE]
 | 7 =>
   by_cases e:j=h
   . subst e;simp[up,aP,fE]
   . simp[up,aP,fE,e]
 | 8=>by_cases e:j=h<;>simp[up,aP,fE,e]
 | 9 =>
   by_cases e:j=h
   . subst e;simp[up,aP,fE]
   . simp[up,aP,fE,e]
 | 10 =>
   by_cases e:j=h
   . subst e;simp[up,aP,fE,ZC]
   . simp[up,aP,fE,e]
 |i+11 =>
   simp[VW]at b
def VL (E:Nat->Prop)(n:Nat)(lc:Nat->List (List D))(h:Nat)(x:CN):Prop:=VW E n lc x /\ ¬(7<=x.1/\x.2=h)
noncomputable def cO (ad:CN->Nat)(h L:Nat):CN->Nat:=up (up (up ad (7,h) L) (8,h) (L+1)) (9,h) (L+2)
theorem Hk:jq n []=Zo n (.int 0):=by
 apply aav
 intro i
 unfold jq
 rw[ZG,abd]
 by_cases hi:i<n
 . rw[aac hi,if_pos hi];rfl
 . rw[Z6 (by simpa using hi),if_neg hi];rfl
theorem QL (W:Sep (VL E n lc h) ad (aP n ad c tl vw lc lr lf) g)(hh:h<n):Wc E n (cO ad h g.length) c tl vw (up lc h []) (up lr h []) lf ((g ++ [aU .aq (g.length+1) (g.length+2),[],Zo n (.int 0)]).set (ad (4,0)) ((Zp n).map λ(j:Nat)=>D.ax (cO ad h g.length (7,j)))):=by
 have S1:=((W.new (x0:=(7,h)) (xs:=aU .aq (g.length+1) (g.length+2))).new (x0:=(8,h)) (xs:=[])).new (x0:=(9,h)) (xs:=Zo n (.int 0))
 have k:(g ++ [aU .aq (g.length+1) (g.length+2)]).length=g.length+1:=by simp
 have m:(g ++ [aU .aq (g.length+1) (g.length+2)] ++ [[]]).length=g.length+2:=by simp
 rw[k,m,aak,aak]at S1
 have f:=S1.set (x0:=(4,0)) (xs:=(Zp n).map λ(j:Nat)=>D.ax (cO ad h g.length (7,j))) (.inl (.inl (.inl ⟨v0 (by omega),by simp⟩)))
 have l:up (up (up ad (7,h) g.length) (8,h) (g.length+1)) (9,h) (g.length+2) (4,0)=ad (4,0):=by simp[up]
 rw[l]at f
 refine Sep.sub f ?_ ?_
 . rintro⟨i,j⟩ a
   by_cases e9:(i,j)=(9,h)
   . exact .inr e9
   by_cases e8:(i,j)=(8,h)
   . exact .inl (.inr e8)
   by_cases e7:(i,j)=(7,h)
   . exact .inl (.inl (.inr e7))
   refine .inl (.inl (.inl ⟨?_,?_⟩))
   . rcases a with z|z|⟨z1,z2,z3⟩
     . exact .inl z
     . exact .inr (.inl z)
     . refine .inr (.inr ⟨z1,z2,?_⟩)
       dsimp only at z3 ⊢
       by_cases q:j=h
       . subst q;rw[dH]at z3;exact absurd rfl z3
       . rwa[bK q]at z3
   . rintro⟨q1,b⟩
     dsimp only at q1 b
     subst b
     rcases a with z|⟨z1,z2,_⟩|⟨z1,z2,z3⟩
     . dsimp only at z;omega
     . dsimp only at z1 z2
       rcases (show i=7\/i=8\/i=9 by omega)with q|q|q
       . subst q;exact e7 rfl
       . subst q;exact e8 rfl
       . subst q;exact e9 rfl
     . dsimp only at z3
       rw[dH]at z3
       exact z3 rfl
 rintro⟨i,j⟩ a
 match i with
 | 0=>simp[up,aP,cO]
 | 1=>simp[up,aP,cO]
 | 2=>simp[up,aP,cO]
 | 3=>simp[up,aP,cO]
 | 4 =>
   have:j=0:=by simp[VW]at a;omega
   subst this
   simp[up,aP,cO]
 | 5=>simp[up,aP,cO]
 | 6=>simp[up,aP,cO]
 | 7 =>
   by_cases e:j=h
   . subst e;simp[up,aP,cO]
   . simp[up,aP,cO,e]
 | 8 =>
   by_cases e:j=h
   . subst e;simp[up,aP,cO]
   . simp[up,aP,cO,e]
 | 9 =>
   by_cases e:j=h
   . subst e;simp[up,aP,cO,Hk]
   . simp[up,aP,cO,e]
 | 10 =>
   by_cases e:j=h
   . subst e;simp[VW,up]at a
   . simp[up,aP,cO,e]
 |i+11 =>
   simp[VW]at a
theorem N1 (W:Wc E n ad c tl vw lc lr lf g)(hh:h<n)(hy:aR (tl h ++ [y])=aR (tl h)):Wc E n ad c (up tl h (tl h ++ [y])) vw lc lr lf (g.set (ad (6,h)) (tl h ++ [y])):=by
 refine(W.set (x0:=(6,h)) (xs:=tl h ++ [y]) (vh hh (by omega) (by omega))).sub (λx a=>a) ?_
 rintro⟨i,j⟩ a
 match i with
 | 2 =>
  simp[up,aP]
  intro k b
  by_cases e:k=h
  . subst e;simp[hy]
  . simp[e]
 | 0=>simp[up,aP]
 | 1=>simp[up,aP]
 | 3=>simp[up,aP]
 | 4=>simp[up,aP]
 | 5=>simp[up,aP]
 | 6=>simp[up,aP]
 | 7=>simp[up,aP]
 | 8=>simp[up,aP]
 | 9=>simp[up,aP]
 |i+10=>simp[up,aP]
theorem N2 (W:Wc E n ad c tl vw lc lr lf g):Wc E n ad c tl (up vw h y) lc lr lf (g.set (ad (3,0)) ((Zp n).map (up vw h y))):=by
 refine(W.set (x0:=(3,0)) (xs:=(Zp n).map (up vw h y)) (v0 (by omega))).sub (λx a=>a) ?_
 rintro⟨i,j⟩ a
 match i with
 | 3 =>
  have:j=0:=by simp[VW]at a;omega
  subst this
  simp[up,aP]
 | 0=>simp[up,aP]
 | 1=>simp[up,aP]
 | 2=>simp[up,aP]
 | 4=>simp[up,aP]
 | 5=>simp[up,aP]
 | 6=>simp[up,aP]
 | 7=>simp[up,aP]
 | 8=>simp[up,aP]
 | 9=>simp[up,aP]
 |i+10=>simp[up,aP]
theorem Va {c':List D}(W:Wc E n ad c tl vw lc lr lf g)(hh:h<n)(hy:aR (tl h ++ [y])=aR (tl h)+1):Wc E n ad c' (up tl h (tl h ++ [y])) (up vw h x) lc lr lf ((((g.set (ad (2,0)) ((Zp n).map λ(j:Nat)=>D.int (aR (up tl h (tl h ++ [y]) j):Nat))).set (ad (1,0)) (bq (bx c'))).set (ad (3,0)) ((Zp n).map (up vw h x))).set (ad (6,h)) (tl h ++ [y])):=by
 refine Sep.sub ((((W.set (x0:=(2,0)) (xs:=(Zp n).map λ(j:Nat)=>D.int (aR (up tl h (tl h ++ [y]) j):Nat)) (v0 (by omega))).set (x0:=(1,0)) (xs:=bq (bx c')) (v0 (by omega))).set (x0:=(3,0)) (xs:=(Zp n).map (up vw h x)) (v0 (by omega))).set (x0:=(6,h)) (xs:=tl h ++ [y]) (vh hh (by omega) (by omega))) (λx a=>a) ?_
 rintro⟨i,j⟩ a
 by_cases i3:i<=3
 . by_cases i0:i=0
   . subst i0;simp[up,aP]
   have:j=0:=by simp[VW]at a;omega
   subst this
   match i with
   | 0=>simp[up,aP]
   | 1=>simp[up,aP]
   | 2=>simp[up,aP]
   | 3=>simp[up,aP]
   |i+4=>omega
 match i with
 | 0| 1| 2| 3=>omega
 | 4=>simp[up,aP]
 | 5=>simp[up,aP]
 | 6=>simp[up,aP]
 | 7=>simp[up,aP]
 | 8=>simp[up,aP]
 | 9=>simp[up,aP]
 |i+10=>simp[up,aP]
theorem N3 {k:Nat}(W:Wc E n ad c tl vw lc lr lf g)(hk:k=0\/E k):Wc E n ad c tl vw lc lr (up lf k a) (g.set (ad (5,k)) a):=by
 refine(W.set (x0:=(5,k)) (xs:=a) (.inl ⟨by simp,hk.imp id λh=>⟨rfl,h⟩⟩)).sub (λx b=>b) ?_
 rintro⟨i,j⟩ b
 match i with
 | 0=>simp[up,aP]
 | 1=>simp[up,aP]
 | 2=>simp[up,aP]
 | 3=>simp[up,aP]
 | 4=>simp[up,aP]
 | 5=>simp[up,aP]
 | 6=>simp[up,aP]
 | 7=>simp[up,aP]
 | 8=>simp[up,aP]
 | 9=>simp[up,aP]
 |i+10=>simp[up,aP]
end
noncomputable abbrev cP:Fn:=ao true 1 1 nK
noncomputable abbrev cA:Fn:=ao true 10 3 yS
def eE (ad eg:CN->Nat):Prop:=∀i j,i<=6->eg (i,j)=ad (i,j)
theorem eE.refl {ad:CN->Nat}:eE ad ad:=λ_ _ _=>rfl
theorem eE.trans {a b c:CN->Nat}(h1:eE a b)(h2:eE b c):eE a c:=λi j h=>(h2 i j h).trans (h1 i j h)
theorem QM {ad:CN->Nat}{h L:Nat}:eE ad (fE ad h L):=λi j c=>by
 have a:¬i=8:=by omega
 have b:¬i=10:=by omega
 simp[fE,up,a,b]
theorem rh {ad:CN->Nat}{h L:Nat}:eE ad (cO ad h L):=λi j e=>by
 have a:¬i=8:=by omega
 have c:¬i=7:=by omega
 have b:¬i=9:=by omega
 simp[cO,up,a,c,b]
section
variable {E:Nat->Prop}{n h:Nat}{M:Mk}{ad:CN->Nat}{c:List D}{tl lr lf:Nat->List D}{vw:Nat->D}{lc:Nat->List (List D)}{g:G}{x y:D}{a:List D}
theorem Hl {w:Nat}{r m:D}{σ':Sg}{G:G}(e:yS [some (.ax w),some m,some (.int h),none,none,none,none,none,none,none] g=some (.rt r,σ',G)):cA [.ax w,m,.int h] g=some (r,G):=kX rfl e
noncomputable def gM (g:G)(ad:CN->Nat)(h:Nat)(a:List D):G:=((g.set (ad (8,h)) a) ++ [[]]).set (ad (7,h)) (aU (.ref (ad (8,h))) g.length (ad (9,h)))
theorem Fj (W:Wc E n ad c tl vw lc lr lf g)(hh:h<n):Sep (VW E n lc) ad (up (up (aP n ad c tl vw lc lr lf) (8,h) a) (7,h) (aU (.ref (ad (8,h))) g.length (ad (9,h)))) (gM g ad h a):=
 ((W.set (x0:=(8,h)) (xs:=a) (vh hh (by omega) (by omega))).app (ys:=[[]])).set (x0:=(7,h)) (vh hh (by omega) (by omega))
theorem N4 (W:Wc E n ad c tl vw lc lr lf g)(hh:h<n)(b:Bd g)(fa:aN a=true):Bd (gM g ad h a):=by
 have f:=W.lt (x:=(8,h)) (vh hh (by omega) (by omega))
 have i:=W.lt (x:=(9,h)) (vh hh (by omega) (by omega))
 have e:Bd (g.set (ad (8,h)) a ++ [[]]):=Bd.new (Bd.set b (Bx.cG a fa)) rfl
 refine Bd.set e ?_
 simp[aU,aX,b5]
 omega
theorem Sw {G:G}{i:Nat}{f:Nat->Nat}(b:Bd G):Bd (G.set i (bI n f)):=Bd.set b (iC λx a=>by
 obtain⟨j,_,rfl⟩:=Z8.mp a
 rfl)
theorem xg (W:Wc E n ad c tl vw lc lr lf g)(hh:h<n)(h5:n<=5)(cl:c.length=n)(cc:∀x∈c,cN M x)(hx:c[(lr h).length]? = some x)(hl:(lr h).length+1=n):
  yS [some (.ax (ad (0,0))),some (mD n M),some (.int h),none,none,none,none,none,none,none] g=jJ (cz (ad (0,0)) (mD n M) h n (ad (7,h)) (some (if lc h = []then .aq else .ref (ad (10,h)))) (some (.ref (ad (8,h)))) none none none) (gM g ad h (lr h ++ [x])):=by
 have S:=W.set (x0:=(8,h)) (xs:=lr h ++ [x]) (vh hh (by omega) (by omega))
 have a:=S.at_ (7,h) (vh hh (by omega) (by omega))
 have b:=S.at_ (8,h) (vh hh (by omega) (by omega))
 rw[dH]at b
 rw[bK (by simp)]at a
 rw[C1 W hh h5 cl cc hx (by omega),NY a b (by simp;omega),abM]
 rfl
theorem JK (W:Wc E n ad c tl vw lc lr lf g)(hh:h<n)(h5:n<=5)(cl:c.length=n)(cc:∀x∈c,cN M x)(hx:c[(lr h).length]? = some x)(hl:(lr h).length+1<n):cA [.ax (ad (0,0)),mD n M,.int h] g=some (.aq,g.set (ad (8,h)) (lr h ++ [x])):=by
 have S:=W.set (x0:=(8,h)) (xs:=lr h ++ [x]) (vh hh (by omega) (by omega))
 have a:=S.at_ (7,h) (vh hh (by omega) (by omega))
 have b:=S.at_ (8,h) (vh hh (by omega) (by omega))
 rw[dH]at b
 rw[bK (by simp)]at a
 exact Hl ((C1 W hh h5 cl cc hx (by omega)).trans (QK a b (by simp;omega)))
theorem Fl (S:Sep (VW E n lc) ad (up (up (aP n ad c tl vw lc lr lf) (8,h) a) (7,h) y') g):Sep (VL E n lc h) ad (aP n ad c tl vw lc lr lf) g:=S.sub (λx b=>b.1) λx b=>by
 have e:x≠(7,h):=λz=>b.2 (by rw[z];exact⟨ZA _,rfl⟩)
 have f:x≠(8,h):=λz=>b.2 (by rw[z];exact⟨by simp,rfl⟩)
 rw[bK e,bK f]
theorem QN {xs:List D}(S:Sep (VL E n lc h) ad (aP n ad c tl vw lc lr lf) g)(S0:Sep (VW E n lc) ad Hh g)(hh:h<n):Sep (VL E n lc h) ad (aP n ad c tl vw lc lr lf) (g.set (ad (9,h)) xs):=⟨S.inj,λx a=>by
 rw[ZT λz=>a.2 (by rw[<- S0.inj (9,h) x (vh hh (by omega) (by omega)) a.1 z];exact⟨by simp,rfl⟩)]
 exact S.at_ x a⟩
theorem C7 (W:Wc E n ad c tl vw lc lr lf g)(b:Bd g)(hh:h<n)(h5:n<=5)(cl:c.length=n)(cc:∀x∈c,cN M x)(hx:c[(lr h).length]? = some x)(hl:(lr h).length+1=n)(hm:M = .once)(fa:aN (lr h ++ [x])=true):
  ∃G,cA [.ax (ad (0,0)),mD n M,.int h] g=some (.tup (lr h ++ [x]),G)/\Sep (VL E n lc h) ad (aP n ad c tl vw lc lr lf) G/\Bd G:=by
 have S:=Fj (a:=lr h ++ [x]) W hh
 have e:=S.at_ (8,h) (vh hh (by omega) (by omega))
 rw[bK (by simp),dH]at e
 refine⟨gM g ad h (lr h ++ [x]),?_,Fl S,N4 W hh b fa⟩
 exact Hl ((xg W hh h5 cl cc hx hl).trans (JI (aH (by simp;omega)) e hm))
theorem Aw (W:Wc E n ad c tl vw lc lr lf g)(b:Bd g)(hh:h<n)(h5:n<=5)(cl:c.length=n)(cc:∀x∈c,cN M x)(hx:c[(lr h).length]? = some x)(hl:(lr h).length+1=n)(hm:¬M = .once)(fa:aN (lr h ++ [x])=true)(h0:lc h = []):
  ∃G,cA [.ax (ad (0,0)),mD n M,.int h] g=some (.aq,G)/\Wc E n (fE ad h g.length) c tl vw (up lc h (lc h ++ [lr h ++ [x]])) (up lr h []) lf G/\Bd G:=by
 have S:=Fj (a:=lr h ++ [x]) W hh
 have s0:=S.at_ (9,h) (vh hh (by omega) (by omega))
 rw[bK (by simp),bK (by simp)]at s0
 have F:=C6 (a:=lr h ++ [x]) W hh
 have e:jq n (lc h ++ [lr h ++ [x]])=aP n ad c tl vw lc lr lf (9,h):=by
  show _=jq n (lc h)
  rw[h0]
  rfl
 rw[e]at F
 have f:Wc E n (fE ad h g.length) c tl vw (up lc h (lc h ++ [lr h ++ [x]])) (up lr h []) lf ((gM g ad h (lr h ++ [x])).set (ad (9,h)) (aP n ad c tl vw lc lr lf (9,h))):=F
 rw[N0 s0]at f
 refine⟨gM g ad h (lr h ++ [x]),?_,f,N4 W hh b fa⟩
 have mid:=xg W hh h5 cl cc hx hl
 rw[if_pos h0]at mid
 exact Hl (mid.trans (Fi hm))
theorem nL (W:Wc E n ad c tl vw lc lr lf g)(bd:Bd g)(hh:h<n)(h5:n<=5)(cl:c.length=n)(cc:∀x∈c,cN M x)(hx:c[(lr h).length]? = some x)(hl:(lr h).length+1=n)(hm:¬M = .once)(ha:∀y∈lr h ++ [x],cN M y)(col:kq M n (lc h))(h0:lc h ≠ []):
   (Goes M.mv (lc h ++ [lr h ++ [x]]) ((lc h).length-1)->∃G,cA [.ax (ad (0,0)),mD n M,.int h] g=some (.aq,G)/\Wc E n (fE ad h g.length) c tl vw (up lc h (lc h ++ [lr h ++ [x]])) (up lr h []) lf G/\Bd G) /\
   (∀en,fB M.mv (lc h ++ [lr h ++ [x]]) ((lc h).length-1) en->∃G,cA [.ax (ad (0,0)),mD n M,.int h] g=some (fZ (lr h ++ [x]) en,G)/\Sep (VL E n lc h) ad (aP n ad c tl vw lc lr lf) G/\Bd G):=by
 have fa:aN (lr h ++ [x])=true:=bH λy i=>(ha y i).ok.1
 have S:=Fj (a:=lr h ++ [x]) W hh
 have s0:=S.at_ (9,h) (vh hh (by omega) (by omega))
 rw[bK (by simp),bK (by simp)]at s0
 have n0:=S.at_ (8,h) (vh hh (by omega) (by omega))
 rw[bK (by simp),dH]at n0
 have k0:=S.at_ (7,h) (vh hh (by omega) (by omega))
 rw[dH]at k0
 have q0:=S.at_ (10,h) (.inr (.inr ⟨rfl,hh,h0⟩))
 rw[bK (by simp),bK (by simp)]at q0
 have ip:=aaR.mpr h0
 have bin:(lc h).getD ((lc h).length-1) []∈lc h:=by
   rw[ZC,Zs (by omega)]
   exact Z2 _
 have T:=JJ (n:=n) (h:=h) (w:=ad (0,0)) (M:=M) (f:=cnt (lc h) ((lc h).length-1)) hm (by omega) n0 q0 s0 k0
   (λz=>by have:=W.inj (7,h) (9,h) (vh hh (by omega) (by omega)) (vh hh (by omega) (by omega)) z;simp at this) (by simp;omega) (col _ bin).1 (λy i=>(ha y i).h_ hm) (λy i=>((col _ bin).2 y i).h_ hm)
   (λz=>by have:=W.inj (8,h) (9,h) (vh hh (by omega) (by omega)) (vh hh (by omega) (by omega)) z;simp at this)
 have eb:aP n ad c tl vw lc lr lf (10,h)=(lc h ++ [lr h ++ [x]]).getD ((lc h).length-1) []:=by rw[jZ (by omega)];rfl
 have o:(lc h ++ [lr h ++ [x]]).getD ((lc h).length-1+1) []=lr h ++ [x]:=by
   rw[show(lc h).length-1+1=(lc h).length by omega,getD_last]
 have ef:bD (cnt (lc h) ((lc h).length-1)) (aJ ((lc h ++ [lr h ++ [x]]).getD ((lc h).length-1) []) (lr h ++ [x]))=cnt (lc h ++ [lr h ++ [x]]) ((lc h).length-1+1):=by
   rw[<- gH,o,yP (by omega)]
 have e9:jq n (lc h ++ [lr h ++ [x]])=bI n (cnt (lc h ++ [lr h ++ [x]]) ((lc h).length-1+1)):=by
   unfold jq bI
   rw[ZE,aag,show(lc h).length+1-1=(lc h).length-1+1 by omega]
 rw[eb,ef]at T
 obtain⟨T1,T2,T3⟩:=T
 have mid:=xg W hh h5 cl cc hx hl
 rw[if_neg h0]at mid
 have s:∀{r:D} {p:Sg} {G:G},jJ (cz (ad (0,0)) (mD n M) h n (ad (7,h)) (some (.ref (ad (10,h)))) (some (.ref (ad (8,h)))) none none none) (gM g ad h (lr h ++ [x]))=some (.rt r,p,G)->cA [.ax (ad (0,0)),mD n M,.int h] g=some (r,G):=λe=>Hl (mid.trans e)
 have q:=N4 W hh bd fa
 refine⟨λl=>?_,λen he=>?_⟩
 . unfold Goes at l
   rw[o]at l
   obtain⟨p,e⟩:=T2 l.1 l.2
   have F:=C6 (a:=lr h ++ [x]) W hh
   rw[e9]at F
   exact⟨_,s e,F,Sw q⟩
 . cases en with
   |none =>
    have sU:aJ _ _ = []:=he
    rw[o]at sU
    obtain⟨p,e⟩:=T1 sU
    exact⟨_,s e,Fl S,q⟩
   |some j =>
    unfold fB at he
    rw[o]at he
    obtain⟨Yc,b,Sx⟩:=he
    cases hq:d9 (cnt (lc h ++ [lr h ++ [x]]) ((lc h).length-1+1)) M.mv (aJ ((lc h ++ [lr h ++ [x]]).getD ((lc h).length-1) []) (lr h ++ [x]))with
    |nil=>rw[hq]at b;simp at b
    |cons j' r =>
     have pw:(d9 (cnt (lc h ++ [lr h ++ [x]]) ((lc h).length-1+1)) M.mv (aJ ((lc h ++ [lr h ++ [x]]).getD ((lc h).length-1) []) (lr h ++ [x]))).Pairwise (· < ·):=by
      unfold d9 aJ
      exact ab8 _ (ab8 _ aes)
     have jj:j=j':=by
      rw[hq]at b Sx pw
      have h1:=Sx j' (by simp)
      rcases ZI.mp b with z|z
      . exact z
      . have:=adS pw z
        omega
     subst jj
     have pe:j<(lr h ++ [x]).length:=by
      have:=lu (aaE.mp b).1
      rw[jZ (by omega),(col _ bin).1]at this
      simp;omega
     have h3:∃v m u,(lr h ++ [x]).getD j .aq = .tup [v,m,u]:=by
      have cF:(lr h ++ [x]).getD j .aq∈lr h ++ [x]:=by
        rw[ZC,Zs pe]
        exact Z2 _
      have:=ha _ cF
      cases M with
      |once=>exact absurd rfl hm
      |twice t =>
        have h2:=(aaE.mp b).2
        simp[Mk.mv,aB]at h2
      |handed t m =>
        obtain⟨v,k,ws,e,_⟩:=this
        exact⟨v,_,_,e⟩
     obtain⟨p,e⟩:=T3 Yc j r hq h3
     exact⟨_,s e,QN (Fl S) S hh,Sw q⟩
end
noncomputable abbrev cQ:Fn:=ao false 6 4 Hi
section
variable {E:Nat->Prop}{n h:Nat}{M:Mk}{ad:CN->Nat}{c:List D}{tl lr lf:Nat->List D}{vw:Nat->D}{lc:Nat->List (List D)}{g:G}{x y v w:D}{a:List D}
noncomputable abbrev pq (w:Nat)(m:D)(h:Nat)(v:D)(o4 o5:Option D):Sg:=[some (.ax w),some m,some (.int h),some v,o4,o5]
noncomputable def gp (v:D)(k:Int)(u:D):List D:=[.str "once",v,.str "twice",.tup [v,.int k],.str "handed",.tup [v,.int k,u]]
noncomputable def Ax (v:D)(k:Int)(w:D):Mk->D
 |.once=>v
 |.twice _=>.tup [v,.int k]
 |.handed _ _=>.tup [v,.int k,w]
theorem N5 {a:Int}:cont M v a w=Ax v (fT (a+1) M.turn) w M:=by cases M<;>rfl
theorem xh {k:Int}{u:D}(hu:fD M=true->u=w):∃s:Str,(∀g,ak (mD n M) (.int 0) g=some (.str s,g))/\bg (gp v k u) (.str s)=some (Ax v k w M):=by
 cases M with
 |once=>exact⟨"once",λ_=>rfl,rfl⟩
 |twice t=>exact⟨"twice",λ_=>rfl,rfl⟩
 |handed t m=>exact⟨"handed",λ_=>rfl,by rw[hu rfl];rfl⟩
theorem JL {W:Nat}{m:D}{k:Int}{WL VL:List D}{q:Nat}{u:D}(w0:g[W]? = some WL)(wv:bg WL (.str "view")=some (.ref q))(q0:g[q]? = some VL)(hu:bJ VL (h:Int)=some u)(o5:Option D):
  dZ [(fC (.str "once"),ab 3),(fC (.str "twice"),aI aA (aa (ab 3) (aa (ab 4) af))),(fC (.str "handed"),aI aA (aa (ab 3) (aa (ab 4) (aa (ag ak (ag ak (ab 0) (fC (.str "view"))) (ab 2)) af))))] (pq W m h v (some (.int k)) o5) g=some (.ax g.length,g ++ [gp v k u]):=by
 have q1:aB (.str "once") (.str "twice")=false:=rfl
 have f:∀a b:D,bj [.str "once",v,.str "twice",a] (.str "handed") b = [.str "once",v,.str "twice",a,.str "handed",b]:=λa b=>rfl
 have c:(g ++ [[]])[W]? = some WL:=by rw[Zx (Zr.mp w0).1];exact w0
 have e:(g ++ [[]])[q]? = some VL:=by rw[Zx (Zr.mp q0).1];exact q0
 simp[dZ,m9,z1,z2,putAll,eN,cw,ij,bj,q1,c,wv,e,hu,z3]
 simp[f,z3,gp]
 rfl
noncomputable def gJ (ad:CN->Nat)(n:Nat):List D:=[.str "boxes",.ax (ad (1,0)),.str "puts",.ref (ad (2,0)),.str "told",.lst ((Zp n).map λ(h:Nat)=>D.ref (ad (6,h))),.str "view",.ref (ad (3,0)),.str "look",.ref (ad (4,0))]
theorem N6:bg (gJ ad n) (.str "puts")=some (.ref (ad (2,0))):=rfl
theorem Fm:bg (gJ ad n) (.str "boxes")=some (.ax (ad (1,0))):=rfl
theorem pZ:bg (gJ ad n) (.str "told")=some (.lst ((Zp n).map λ(h:Nat)=>D.ref (ad (6,h)))):=rfl
theorem xk:bg (gJ ad n) (.str "view")=some (.ref (ad (3,0))):=rfl
theorem Vb:bg (gJ ad n) (.str "look")=some (.ref (ad (4,0))):=rfl
theorem Fo {t:List D}:aR (t ++ [.aq])=aR t+1:=by simp[aR];rfl
theorem N7 {W:Nat}{k:Nat}(hk:0<=k):bu (il (ay (ag dY (ag ak (ab 1) (fC (.int 0))) (fC (.str "once")))) (ay (ag sR (ag ak (ab 1) (fC (.int 2))) (fC (.int 0))))) (aC (ag (cI cj (· % ·)) (ab 4) (ag ak (ab 1) (fC (.int 2)))) (gN 4)) aO (pq W (mD n M) h v (some (.int ((k:Int)+1))) none) g=some (.nx,pq W (mD n M) h v (some (.int (fT ((k:Int)+1) M.turn))) none,g):=by
 obtain⟨e,E,i,_⟩:=yU (n:=n) (M:=M) g
 cases M with
 |once =>
  have a:(e == Zt "once")=true:=i
  generalize mD n .once=m at *
  simp[E,flat,dep,aB,a,fT,Mk.turn]
 |twice t =>
  have a:(e == Zt "once")=false:=i
  have b:ak (mD n (.twice t)) (.int 2) g=some (.int t,g):=rfl
  generalize mD n (.twice t)=m at *
  by_cases c:t=0
  . subst c
    simp[E,flat,dep,aB,a,b,fT,Mk.turn]
  . have:0<t:=by omega
    have f:cj ((k:Int)+1) t=true:=by unfold cj;simp;omega
    simp[E,flat,dep,aB,a,b,fT,Mk.turn,c,this,f]
 |handed t m0 =>
  have a:(e == Zt "once")=false:=i
  have b:ak (mD n (.handed t m0)) (.int 2) g=some (.int t,g):=rfl
  generalize mD n (.handed t m0)=m at *
  by_cases c:t=0
  . subst c
    simp[E,flat,dep,aB,a,b,fT,Mk.turn]
  . have:0<t:=by omega
    have f:cj ((k:Int)+1) t=true:=by unfold cj;simp;omega
    simp[E,flat,dep,aB,a,b,fT,Mk.turn,c,this,f]
theorem C8 {m:Nat}:∀{es:Es},(∀e∈es,flat e.2.2=true)->aX m (bq es)=true
 | [],_=>rfl
 |e::es,h=>by
  have a:b5 m (kd (ky e))=true:=Bx.fA _ (og (ky e))
  show(b5 m (kd (ky e))&&(b5 m e.2.2&&aX m (bq es)))=true
  rw[a,Bx.fA _ (h e (by simp)),C8 λx b=>h x (by simp[b])]
  rfl
theorem C9 {m:Nat}(cc:∀x∈c,flat x=true):aX m (bq (bx c))=true:=C8 λe he=>by
 obtain⟨j,a,_⟩:=w5 he
 exact cc _ (ZZ a)
theorem lz {m:Nat}{f:Nat->D}(h:∀j,j<n->b5 m (f j)=true):aX m ((Zp n).map f)=true:=iC λx b=>by
 obtain⟨j,a,rfl⟩:=Z8.mp b
 exact h j (Z_.mp a)
theorem Fp (W:Wc E n ad c tl vw lc lr lf g)(bd:Bd g)(hh:h<n)(h5:n<=5)(cl:c.length=n)(cc:∀x∈c,cN M x)(hv:fD M=true->vw h=w)(fv:flat v=true)(fw:flat (cont M v (aR (tl h)) w)=true)(ft:aN (tl h)=true)(xl:∀j,j<n->flat (vw j)=true)(tk:(tl h).length<=400):
  ∃g',cQ [.ax (ad (0,0)),mD n M,.int h,v] g=some (.aq,g')/\Wc E n ad (c.set h (cont M v (aR (tl h)) w)) (up tl h (tl h ++ [.aq])) (up vw h .aq) lc lr lf g'/\Bd g':=by
 have F:=Va (x:=.aq) (y:=.aq) (c':=c.set h (cont M v (aR (tl h)) w)) W hh Fo
 have B:Bd ((((g.set (ad (2,0)) ((Zp n).map λ(j:Nat)=>D.int (aR (up tl h (tl h ++ [.aq]) j):Nat))).set (ad (1,0)) (bq (bx (c.set h (cont M v (aR (tl h)) w))))).set (ad (3,0)) ((Zp n).map (up vw h .aq))).set (ad (6,h)) (tl h ++ [.aq])):=by
  refine Bd.set (Bd.set (Bd.set (Bd.set bd ?_) ?_) ?_) ?_
  . exact lz λj _=>rfl
  . refine C9 λx hx=>?_
    rcases acm hx with z|z
    . exact(cc x z).ok.1
    . rw[z];exact fw
  . refine lz λj hj=>?_
    by_cases e:j=h
    . rw[e,dH];rfl
    . rw[bK e];exact Bx.fA _ (xl j hj)
  . exact Bx.cG _ (bH λx hx=>by
      rcases ZN.mp hx with z|z
      . exact nu ft x z
      . simp at z;subst z;rfl)
 refine⟨_,?_,F,B⟩
 have key:wp (cQ [.ax (ad (0,0)),mD n M,.int h,v] g) λq=>q=(.aq,(((g.set (ad (2,0)) ((Zp n).map λ(j:Nat)=>D.int (aR (up tl h (tl h ++ [.aq]) j):Nat))).set (ad (1,0)) (bq (bx (c.set h (cont M v (aR (tl h)) w))))).set (ad (3,0)) ((Zp n).map (up vw h .aq))).set (ad (6,h)) (tl h ++ [.aq])):=by
  have p:=W
  have S1:=p.set (x0:=(2,0)) (xs:=(Zp n).map λ(j:Nat)=>D.int (aR (up tl h (tl h ++ [.aq]) j):Nat)) (v0 (by omega))
  have r:=S1.set (x0:=(1,0)) (xs:=bq (bx (c.set h (cont M v (aR (tl h)) w)))) (v0 (by omega))
  have S3:=r.set (x0:=(3,0)) (xs:=(Zp n).map (up vw h .aq)) (v0 (by omega))
  have w0:g[ad (0,0)]? = some (gJ ad n):=p.at_ (0,0) (v0 (by omega))
  have b:=S1.at_ (0,0) (v0 (by omega))
  rw[bK (by simp)]at b
  have w2:=r.at_ (0,0) (v0 (by omega))
  rw[bK (by simp),bK (by simp)]at w2
  have w3:=S3.at_ (0,0) (v0 (by omega))
  rw[bK (by simp),bK (by simp),bK (by simp)]at w3
  have p0:g[ad (2,0)]? = some ((Zp n).map λ(j:Nat)=>D.int (aR (tl j):Nat)):=p.at_ (2,0) (v0 (by omega))
  have p1:=S1.at_ (2,0) (v0 (by omega))
  rw[dH]at p1
  have v1:=S1.at_ (3,0) (v0 (by omega))
  rw[bK (by simp)]at v1
  have v2:=r.at_ (3,0) (v0 (by omega))
  rw[bK (by simp),bK (by simp)]at v2
  have f:=S1.at_ (1,0) (v0 (by omega))
  rw[bK (by simp)]at f
  have t3:=S3.at_ (6,h) (vh hh (by omega) (by omega))
  rw[bK (by simp),bK (by simp),bK (by simp)]at t3
  have pa:bJ ((Zp n).map λ(j:Nat)=>D.int (aR (tl j):Nat)) (h:Int)=some (.int (aR (tl h):Nat)):=dC hh
  have Yd:bJ ((Zp n).map λ(j:Nat)=>D.int (aR (up tl h (tl h ++ [.aq]) j):Nat)) (h:Int)=some (.int ((aR (tl h):Int)+1)):=by
    rw[dC hh,dH,Fo];simp
  have va:bJ ((Zp n).map vw) (h:Int)=some (vw h):=dC hh
  have ta:bJ ((Zp n).map λ(h:Nat)=>D.ref (ad (6,h))) (h:Int)=some (.ref (ad (6,h))):=dC hh
  have pt:putD (.ref (ad (2,0))) (.int h) (.int ((aR (tl h):Int)+1)) g=some (g.set (ad (2,0)) ((Zp n).map λ(j:Nat)=>D.int (aR (up tl h (tl h ++ [.aq]) j):Nat))):=by
    rw[nC p0 (by simpa using hh),iX hh]
    congr 2
    refine aaZ λj _=>?_
    by_cases e:j=h
    . rw[e,dH,dH,Fo];simp
    . rw[bK e,bK e]
  generalize jS:g.set (ad (2,0)) ((Zp n).map λ(j:Nat)=>D.int (aR (up tl h (tl h ++ [.aq]) j):Nat))=g1 at *
  generalize Ze:((Zp n).map λ(j:Nat)=>D.int (aR (up tl h (tl h ++ [.aq]) j):Nat))=P1 at *
  generalize Zf:((Zp n).map λ(j:Nat)=>D.int (aR (tl j):Nat))=P0 at *
  have l1:g1.length=g.length:=by rw[<- jS];simp
  obtain⟨s,hs,oK⟩:=xh (n:=n) (M:=M) (v:=v) (w:=w) (k:=fT ((aR (tl h):Int)+1) M.turn) (u:=vw h) hv
  have dk:=JL (g:=g1) (W:=ad (0,0)) (m:=mD n M) (v:=v) (h:=h) (k:=fT ((aR (tl h):Int)+1) M.turn) b xk v1 va none
  rw[<- N5]at oK
  generalize Sy:gp v (fT ((aR (tl h):Int)+1) M.turn) (vw h)=dw at *
  generalize Zg:cont M v (aR (tl h)) w=a at *
  have lw:(g1 ++ [dw])[ad (0,0)]? = some (gJ ad n):=by rw[Zx (Zr.mp b).1];exact b
  have lb:(g1 ++ [dw])[ad (1,0)]? = some (bq (bx c)):=by rw[Zx (Zr.mp f).1];exact f
  have cF:(Zt "own",[(h:Int)])∈(bx c).map ky:=by
    rw[Hc]
    exact Z8.mpr ⟨h,Z_.mpr (by omega),rfl⟩
  have po:=yQ (y:=a) (j3 (M:=M) (by omega) cc).nd cF
  rw[CU]at po
  have Ye:bj (bq (bx c)) (.tup [.str "own",.int h]) a=bq (bx (c.set h a)):=po
  have kk:aY 6 (.tup [.str "own",.int (h:Int)])=true:=rZ (Zt "own",[(h:Int)])
  have zb:ij (bq (bx c))=true:=aH (by
    have:(bq (bx c)).length=2*(bx c).length:=r6 _
    rw[this,ib];omega)
  have ap:∀{G:G} {i:Nat} {xs:List D},G[i]? = some xs->(G ++ [dw])[i]? = some xs:=fun {G i xs} h=>by rw[Zx (Zr.mp h).1];exact h
  have st:∀{G:L3.G} {i:Nat} {xs l:List D},G[i]? = some xs->(G ++ [dw]).set i l=G.set i l ++ [dw]:=fun {G i xs l} h=>List.set_append_left _ _ (Zr.mp h).1
  have s2:(g1 ++ [dw]).set (ad (1,0)) (bq (bx (c.set h a)))=g1.set (ad (1,0)) (bq (bx (c.set h a))) ++ [dw]:=st f
  generalize Ck:g1.set (ad (1,0)) (bq (bx (c.set h a)))=g2 at *
  have l2:g2.length=g.length:=by rw[<- Ck,<- l1];simp
  have pv:putD (.ref (ad (3,0))) (.int h) .aq (g2 ++ [dw])=some (g2.set (ad (3,0)) ((Zp n).map (up vw h .aq)) ++ [dw]):=by
    rw[nC (ap v2) (by simpa[aP]using hh),st v2]
    show some (g2.set (ad (3,0)) (((Zp n).map vw).set h .aq) ++ [dw])=_
    rw[iX hh]
  generalize Yf:g2.set (ad (3,0)) ((Zp n).map (up vw h .aq))=g3 at *
  have l3:g3.length=g.length:=by rw[<- Yf,<- l2];simp
  have o:(g3.set (ad (6,h)) (tl h ++ [.aq])).length=g.length:=by rw[<- l3];simp
  have s4:(g3 ++ [dw]).set (ad (6,h)) (tl h ++ [.aq])=g3.set (ad (6,h)) (tl h ++ [.aq]) ++ [dw]:=st t3
  have zt:aD ((tl h).length+1)=true:=aH (by omega)
  have Yg:=ap w2
  have Yh:=ap w3
  have Yi:(g3 ++ [dw])[ad (6,h)]? = some (tl h):=ap t3
  have d2:(g1 ++ [dw])[g1.length]? = some dw:=by simp
  have body:Hi (pq (ad (0,0)) (mD n M) h v none none) g=some (.nx,pq (ad (0,0)) (mD n M) h v (some (.int (fT ((aR (tl h):Int)+1) M.turn))) (some a),g3.set (ad (6,h)) (tl h ++ [.aq]) ++ [dw]):=by
    unfold Hi
    rw[aK (σ1:=pq (ad (0,0)) (mD n M) h v none none) (g1:=g1) (by simp[w0,N6,cw,p0,pa,pt])]
    unfold Sv
    rw[aK (σ1:=pq (ad (0,0)) (mD n M) h v (some (.int ((aR (tl h):Int)+1))) none) (g1:=g1) (by
      have Yj:g1[ad (0,0)]? = some (gJ ad n):=b
      simp[Yj,N6,cw,p1,Yd])]
    unfold Su
    rw[aK (N7 (k:=aR (tl h)) (aab _))]
    unfold Ss
    rw[aK (σ1:=pq (ad (0,0)) (mD n M) h v (some (.int (fT ((aR (tl h):Int)+1) M.turn))) (some a)) (g1:=g1 ++ [dw]) (by
      rw[dI,dX,dk]
      generalize mD n M=m at *
      simp[hs,cw,oK])]
    unfold Sr
    rw[aK (σ1:=pq (ad (0,0)) (mD n M) h v (some (.int (fT ((aR (tl h):Int)+1) M.turn))) (some a)) (g1:=g2 ++ [dw]) (by
      generalize mD n M=m at *
      generalize bq (bx c)=fb at *
      generalize bq (bx (c.set h a))=Zh at *
      generalize g1 ++ [dw]=G1 at *
      simp[lw,Fm,cw,z2,lb,kk,zb,Ye,s2])]
    unfold Sq
    rw[aK (σ1:=pq (ad (0,0)) (mD n M) h v (some (.int (fT ((aR (tl h):Int)+1) M.turn))) (some a)) (g1:=g3 ++ [dw]) (by
      have Vc:(g2 ++ [dw])[ad (0,0)]? = some (gJ ad n):=Yg
      generalize mD n M=m at *
      generalize g2 ++ [dw]=G2 at *
      generalize g3 ++ [dw]=G3 at *
      simp[Vc,xk,cw,pv])]
    unfold So
    have Vd:(g3 ++ [dw])[ad (0,0)]? = some (gJ ad n):=Yh
    generalize mD n M=m at *
    rw[<- s4]
    generalize g3 ++ [dw]=G3 at *
    simp[Vd,pZ,cw,ta,Yi,zt]
  refine fI rfl ?_
  refine⟨_,body,?_⟩
  dsimp only
  have qz:(g3.set (ad (6,h)) (tl h ++ [.aq]) ++ [dw]).take g.length=g3.set (ad (6,h)) (tl h ++ [.aq]):=by rw[<- o,List.take_left]
  rw[qz]
  refine⟨?_,by rw[ZE,o];omega,rfl⟩
  rw[ZY]
  intro xs mR
  have:=wI B xs mR
  rwa[o]at this
 obtain⟨q,e,rfl⟩:=key
 exact e
end
noncomputable abbrev dM:Fn:=ao true 5 4 (rg cP cA cQ)
section
variable {E:Nat->Prop}{n h:Nat}{M:Mk}{ad:CN->Nat}{c:List D}{tl lr lf:Nat->List D}{vw:Nat->D}{lc:Nat->List (List D)}{g:G}{x y v w d r:D}{a:List D}
noncomputable abbrev eW (w:Nat)(m:D)(h:Nat)(d:D)(o4:Option D):Sg:=[some (.ax w),some m,some (.int h),some d,o4]
theorem xm:(Zt "look" == Zt "put")=false:=by decide
theorem oB:(Zt "put" == Zt "put")=true:=by decide
theorem C_ (S:Sep (VL E n lc h) ad (aP n ad c tl vw lc lr lf) g)(bd:Bd g)(hh:h<n)(h5:n<=5)(fr:flat r=true)(nr:b8 r=false)(ft:aN (tl h)=true)(xl:∀j,j<n->flat (vw j)=true)(tk:(tl h).length<=400):
   (∃g',tP cP cA cQ (eW (ad (0,0)) (mD n M) h (.tup [.str "look"]) (some r)) g=some (.nx,eW (ad (0,0)) (mD n M) h (.tup [.str "look"]) (some r),g')/\Wc E n (cO ad h g.length) c (up tl h (tl h ++ [r])) vw (up lc h []) (up lr h []) lf g'/\Bd g') /\
   (∃g',tP cP cA cQ (eW (ad (0,0)) (mD n M) h (.tup [.str "put",.int h,v]) (some r)) g=some (.nx,eW (ad (0,0)) (mD n M) h (.tup [.str "put",.int h,v]) (some r),g')/\Wc E n (cO ad h g.length) c tl (up vw h r) (up lc h []) (up lr h []) lf g'/\Bd g'):=by
 have F:=QL S hh
 have fo:=xa (g:=g) h5
 have L:=S.app (ys:=[aU .aq (g.length+1) (g.length+2),[],Zo n (.int 0)])
 have l0:=L.at_ (4,0) ⟨v0 (by omega),by simp⟩
 have w0:=L.at_ (0,0) ⟨v0 (by omega),by simp⟩
 have l6:=S.lt (x:=(6,h)) ⟨vh hh (by omega) (by omega),by simp⟩
 have l7:∀j,j<n->j≠h->ad (7,j)<g.length:=λj a hn=>S.lt (x:=(7,j)) ⟨vh a (by omega) (by omega),λz=>hn z.2⟩
 have pt:putD (.ref (ad (4,0))) (.int h) (.ax g.length) (g ++ [aU .aq (g.length+1) (g.length+2),[],Zo n (.int 0)])=some ((g ++ [aU .aq (g.length+1) (g.length+2),[],Zo n (.int 0)]).set (ad (4,0)) ((Zp n).map λ(j:Nat)=>D.ax (cO ad h g.length (7,j)))):=by
   rw[nC l0 (by simpa[aP]using hh)]
   show some (List.set _ _ (((Zp n).map λ(h:Nat)=>D.ax (ad (7,h))).set h _))=_
   rw[iX hh]
   congr 2
   refine aaZ λj _=>?_
   by_cases e:j=h
   . subst e;simp[up,cO]
   . simp[up,cO,e]
 have B1:Bd ((g ++ [aU .aq (g.length+1) (g.length+2),[],Zo n (.int 0)]).set (ad (4,0)) ((Zp n).map λ(j:Nat)=>D.ax (cO ad h g.length (7,j)))):=by
   have b3:Bd (g ++ [aU .aq (g.length+1) (g.length+2),[],Zo n (.int 0)]):=by
     intro j ys a
     rw[ZE]
     by_cases e:j<g.length
     . rw[Zx e]at a
       exact sm (by simp) (bd j ys a)
     . rw[ZS (by omega)]at a
       have hl:=(Zr.mp a).1
       simp at hl
       match hk:j-g.length,a with
       | 0,a=>simp[hk]at a;subst a;simp[aU,aX,b5]
       | 1,a=>simp[hk]at a;subst a;rfl
       | 2,a =>
        simp[hk]at a;subst a
        exact iC λx i=>by rw[(aa5.mp i).2];rfl
       |k+3,_=>omega
   refine Bd.set b3 (lz λj a=>?_)
   by_cases e:j=h
   . subst e
     simp[cO,up,b5]
   . have:=l7 j a e
     simp[cO,up,e,b5]
     omega
 have q:=F.at_ (0,0) (v0 (by omega))
 have k0:cO ad h g.length (0,0)=ad (0,0):=rh 0 0 (by omega)
 rw[k0]at q
 have u:=F.at_ (6,h) (vh hh (by omega) (by omega))
 have p:cO ad h g.length (6,h)=ad (6,h):=rh 6 h (by omega)
 have s:cO ad h g.length (3,0)=ad (3,0):=rh 3 0 (by omega)
 have F3:=F.at_ (3,0) (v0 (by omega))
 have ta:bJ ((Zp n).map λ(j:Nat)=>D.ref (cO ad h g.length (6,j))) (h:Int)=some (.ref (ad (6,h))):=by rw[dC hh,p]
 have zt:aD ((tl h).length+1)=true:=aH (by omega)
 generalize hG:g ++ [aU .aq (g.length+1) (g.length+2),[],Zo n (.int 0)]=G at *
 have Yk:G[ad (0,0)]? = some (gJ ad n):=w0
 have pv:∀{f:L3.G},f[ad (3,0)]? = some ((Zp n).map vw)->putD (.ref (ad (3,0))) (.int h) r f=some (f.set (ad (3,0)) ((Zp n).map (up vw h r))):=λe=>by
   rw[nC e (by simpa using hh),iX hh]
 generalize hL:((Zp n).map λ(j:Nat)=>D.ax (cO ad h g.length (7,j)))=LL at *
 rw[s]at F3
 rw[p]at u
 have Yl:=pv F3
 have mo:∀g,ak (mD n M) (.int 1) g=some (.int n,g):=λg=>Hj
 have s1:∀d o,aC (au cP (aa (ag ak (ab 1) (fC (.int 1))) af)) (cX (ag ak (ab 0) (fC (.str "look"))) (ab 2)) (eW (ad (0,0)) (mD n M) h d (some o)) g=some (.nx,eW (ad (0,0)) (mD n M) h d (some o),G.set (ad (4,0)) LL):=λd o=>by
   generalize mD n M=m at *
   simp[mo,fo,Yk,Vb,cw,pt]
 constructor
 . have T:=N1 (y:=r) F hh (by simp[aR,nr])
   rw[p]at T
   refine⟨_,?_,T,Bd.set B1 (Bx.cG _ (bH λx i=>by
     rcases ZN.mp i with z|z
     . exact nu ft x z
     . simp at z;subst z;exact fr))⟩
   have b:(G.set (ad (4,0)) LL)[ad (0,0)]? = some (gJ (cO ad h g.length) n):=q
   have l:(G.set (ad (4,0)) LL)[ad (6,h)]? = some (tl h):=u
   unfold tP
   generalize mD n M=m at *
   generalize G.set (ad (4,0)) LL=f at *
   rw[eF,show ay (ag jk (ab 4) (fC .aq)) (eW (ad (0,0)) m h (.tup [.str "look"]) (some r)) g=some (true,g) by simp[nr]]
   simp only[Zw,if_true]
   rw[aK (s1 _ _)]
   simp[flat,dep,aB,bQ,xm,b,pZ,cw,ta,l,zt]
 . have T:=N2 (h:=h) (y:=r) F
   rw[s]at T
   refine⟨_,?_,T,Bd.set B1 (lz λj a=>?_)⟩
   . have b:(G.set (ad (4,0)) LL)[ad (0,0)]? = some (gJ (cO ad h g.length) n):=q
     have wv:bg (gJ (cO ad h g.length) n) (.str "view")=some (.ref (ad (3,0))):=by rw[xk,s]
     unfold tP
     generalize mD n M=m at *
     generalize G.set (ad (4,0)) LL=f at *
     generalize f.set (ad (3,0)) ((Zp n).map (up vw h r))=G3 at *
     rw[eF,show ay (ag jk (ab 4) (fC .aq)) (eW (ad (0,0)) m h (.tup [.str "put",.int h,v]) (some r)) g=some (true,g) by simp[nr]]
     simp only[Zw,if_true]
     rw[aK (s1 _ _)]
     simp[flat,dep,aB,bQ,oB,b,wv,cw,Yl]
   . by_cases e:j=h
     . rw[e,dH];exact Bx.fA _ fr
     . rw[bK e];exact Bx.fA _ (xl j a)
end
abbrev Wo (E:Nat->Prop)(n:Nat)(ad:CN->Nat)(c:List D)(hf:Nat->HS)(lf:Nat->List D)(g:G):Prop:=Wc E n ad c (λj=>(hf j).told) (λj=>(hf j).view.getD .aq) (λj=>lcs (hf j)) (λj=>fU (hf j)) lf g
theorem oC {α β:Type}{F:α->β}{hf:Nat->α}{h:Nat}{H:α}:(λj=>F (up hf h H j))=up (λj=>F (hf j)) h (F H):=by
 funext j
 unfold up
 split<;>rfl
theorem eM {β:Type}{f:Nat->β}{h:Nat}{y:β}(e:y=f h):up f h y=f:=by
 funext j
 unfold up
 split
 . rename_i q;rw[q,e]
 . rfl
section
variable {E:Nat->Prop}{n h K:Nat}{M:Mk}{ad:CN->Nat}{c c' row:List D}{tl lr lf:Nat->List D}{vw:Nat->D}{lc:Nat->List (List D)}{g:G}{x y v w d r:D}{a:List D}{hf:Nat->HS}{H':HS}
theorem N8 {g':G}(w0:g[ad (0,0)]? = some (gJ ad n))(v0:g[ad (3,0)]? = some ((Zp n).map vw))(hh:h<n)(hc:fD M=false\/b8 (vw h)=false)(e:cQ [.ax (ad (0,0)),mD n M,.int h,v] g=some (.aq,g')):rg cP cA cQ (eW (ad (0,0)) (mD n M) h (.tup [.str "put",.int h,v]) none) g=some (.rt .aq,eW (ad (0,0)) (mD n M) h (.tup [.str "put",.int h,v]) none,g'):=by
 have f:bJ ((Zp n).map vw) (h:Int)=some (vw h):=dC hh
 obtain⟨l,E,_,a⟩:=yU (n:=n) (M:=M) g
 have a2:ak (.tup [.str "put",.int h,v]) (.int 2) g=some (v,g):=rfl
 have c:ak (.tup [.str "put",.int h,v]) (.int 0) g=some (.str "put",g):=rfl
 generalize mD n M=m at *
 generalize D.tup [.str "put",.int h,v]=i at *
 generalize cQ=k at *
 unfold rg
 rw[qV (d:=.aq) (σ1:=eW (ad (0,0)) m h i none) (g1:=g')]
 cases b:fD M with
 |true =>
  have j:b8 (vw h)=false:=hc.resolve_left (by rw[b];simp)
  rw[b]at a
  simp[c,flat,dep,aB,oB,E,a,w0,xk,cw,v0,f,j,a2,e]
 |false =>
  rw[b]at a
  simp[c,flat,dep,aB,oB,E,a,a2,e]
theorem QO (w0:g[ad (0,0)]? = some (gJ ad n))(v0:g[ad (3,0)]? = some ((Zp n).map vw))(hh:h<n)(hd:d = .tup [.str "look"]\/(∃v,d = .tup [.str "put",.int h,v])/\fD M=true/\vw h = .aq):rg cP cA cQ (eW (ad (0,0)) (mD n M) h d none) g=C0 cP cA cQ (eW (ad (0,0)) (mD n M) h d none) g:=by
 have a:bJ ((Zp n).map vw) (h:Int)=some (vw h):=dC hh
 obtain⟨i,E,_,b⟩:=yU (n:=n) (M:=M) g
 generalize hm:mD n M=m at *
 generalize cQ=f at *
 unfold rg
 rw[aK (σ1:=eW (ad (0,0)) m h d none) (g1:=g)]
 rcases hd with rfl|⟨⟨v,rfl⟩,c,e⟩
 . simp[flat,dep,aB,xm,bQ]
 . rw[c]at b
   rw[e]at a
   simp[flat,dep,aB,oB,bQ,E,b,w0,xk,cw,v0,a,b8]
theorem N9 {W:Nat}{m:D}{σ':Sg}{g':G}(e:rg cP cA cQ (eW W m h d none) g=some (.nx,σ',g')):dM [.ax W,m,.int h,d] g=some (.aq,g'):=by
 have:dM [.ax W,m,.int h,d] g=(rg cP cA cQ (eW W m h d none) g).bind λr=>match r.1 with
  |.rt d=>some (d,r.2.2)
  |.nx=>some (.aq,r.2.2)
  |_=>none:=rfl
 rw[this,e]
 rfl
theorem xn {W:Nat}{m:D}{g':G}(e:cA [.ax W,m,.int h] g=some (r,g')):C0 cP cA cQ (eW W m h d none) g=tP cP cA cQ (eW W m h d (some r)) g':=by
 unfold C0
 rw[aK (σ1:=eW W m h d (some r)) (g1:=g')]
 generalize cA=a at *
 simp[e]
theorem JM {W:Nat}{m:D}:tP cP cA cQ (eW W m h d (some .aq)) g=some (.nx,eW W m h d (some .aq),g):=by
 unfold tP
 rw[eF,show ay (ag jk (ab 4) (fC .aq)) (eW W m h d (some .aq)) g=some (false,g) by simp[b8]]
 rfl
theorem QP {rows:Nat->List D}(W:Wo E n ad c hf lf g)(bd:Bd g)(hn:1<=n)(hh:h<n)(h5:n<=5)(I:∀j,j<n->HI M n j (rows j) K (hf j))(hK:K<=300)(cl:c.length=n)(cc:∀x∈c,cN M x)(S:S1 M n h c (hf h) d c' H')(hk:d = .tup [.str "look"] \/ ∃v,d = .tup [.str "put",.int h,v]/\Vv v)(tO:∀x∈c',cN M x):
  ∃eg g',dM [.ax (ad (0,0)),mD n M,.int h,d] g=some (.aq,g')/\Wo E n eg c' (up hf h H') lf g'/\eE ad eg/\Bd g':=by
 have Ih:=I h hh
 have w0:g[ad (0,0)]? = some (gJ ad n):=W.at_ (0,0) (v0 (by omega))
 have Sz:g[ad (3,0)]? = some ((Zp n).map λj=>(hf j).view.getD .aq):=W.at_ (3,0) (v0 (by omega))
 have xl:∀j,j<n->flat ((hf j).view.getD .aq)=true:=λj hj=>by
  rcases (I j hj).at_ with⟨q,_⟩|⟨w,en,v,q,_,_,_,_,sw,_⟩
  . rw[q];rfl
  . rw[q];exact sw.ok.1
 have ft:∀j,j<n->aN (hf j).told=true:=λj hj=>bH λx m=>by
  rcases (I j hj).tk x m with rfl|z
  . rfl
  . exact z.ok.1
 have tk:(hf h).told.length<=400:=by have:=Ih.tl;omega
 have j4:(hf h).view=none->wX M n (hf h).cs (hf h).rest:=λb=>by
  rcases Ih.at_ with⟨_,O,_⟩|⟨w,en,v,fQ,_⟩
  . exact O
  . rw[b]at fQ;cases fQ
 have s:(hf h).view=none->lcs (hf h)=(hf h).cs:=λb=>by unfold lcs;rw[b]
 have i:(hf h).view=none->fU (hf h)=(hf h).rest:=λb=>by unfold fU;rw[b]
 have conv:∀{eg:CN->Nat} {c2:List D} {g':G},Wc E n eg c2 (up (λj=>(hf j).told) h H'.told) (up (λj=>(hf j).view.getD .aq) h (H'.view.getD .aq)) (up (λj=>lcs (hf j)) h (lcs H')) (up (λj=>fU (hf j)) h (fU H')) lf g'->Wo E n eg c2 (up hf h H') lf g':=λq=>by
  unfold Wo
  have l:(λj=>(up hf h H' j).told)=up (λj=>(hf j).told) h H'.told:=oC (F:=λH:HS=>H.told)
  have k:(λj=>(up hf h H' j).view.getD .aq)=up (λj=>(hf j).view.getD .aq) h (H'.view.getD .aq):=oC (F:=λH:HS=>H.view.getD .aq)
  rw[l,k,oC (F:=lcs),oC (F:=fU)]
  exact q
 have sn:(hf h).view=none->(fD M=true\/d = .tup [.str "look"])->rg cP cA cQ (eW (ad (0,0)) (mD n M) h d none) g=C0 cP cA cQ (eW (ad (0,0)) (mD n M) h d none) g:=λb hd=>by
  refine QO w0 Sz hh ?_
  rcases hk with z|⟨v,z,_⟩
  . exact .inl z
  . rcases hd with q|q
    . exact .inr ⟨⟨v,z⟩,q,by rw[b];rfl⟩
    . exact .inl q
 have SA:∀{G:L3.G},(hf h).view=none->(fD M=true\/d = .tup [.str "look"])->cA [.ax (ad (0,0)),mD n M,.int h] g=some (.aq,G)->dM [.ax (ad (0,0)),mD n M,.int h,d] g=some (.aq,G):=fun {G} b hd e =>
  N9 (by rw[sn b hd,xn e];exact JM)
 have SE:∀{G:L3.G} {r:D},(hf h).view=none->d = .tup [.str "look"]->flat r=true->b8 r=false->cA [.ax (ad (0,0)),mD n M,.int h] g=some (r,G)->Sep (VL E n (λj=>lcs (hf j)) h) ad (aP n ad c (λj=>(hf j).told) (λj=>(hf j).view.getD .aq) (λj=>lcs (hf j)) (λj=>fU (hf j)) lf) G->Bd G->H'=⟨(hf h).told ++ [r],[],[],none⟩ ->
    ∃eg g',dM [.ax (ad (0,0)),mD n M,.int h,d] g=some (.aq,g')/\Wo E n eg c (up hf h H') lf g'/\eE ad eg/\Bd g':=fun {G r} b hd fr nr e S1 B1 hH=>by
  obtain⟨⟨g',l,k,o⟩,_⟩:=C_ (M:=M) (v:=.aq) S1 B1 hh h5 fr nr (ft h hh) xl tk
  refine⟨cO ad h G.length,g',N9 (by rw[sn b (.inr hd),xn e,hd];exact l),conv ?_,rh,o⟩
  subst hH
  rw[eM (f:=λj=>(hf j).view.getD .aq) (y:=Option.getD none .aq) (by rw[b])]
  exact k
 have nw:∀{f:Nat->List D},up f h (f h)=f:=fun {f}=>eM rfl
 have ph:∀{x:D},(hf h).view=none->c[(hf h).rest.length]? = some x->∀y∈fU (hf h) ++ [x],cN M y:=fun {x} b m y u=>by
  rw[i b]at u
  rcases ZN.mp u with z|z
  . exact(j4 b).rc y z
  . simp at z;subst z;exact cc _ (ZZ m)
 cases S with
 |wr v w hd hw =>
  have b:fD M=true->(λj=>(hf j).view.getD .aq) h=w:=λhM=>by
    rcases hw with⟨q,_⟩|q
    . rw[q]at hM;cases hM
    . dsimp only;rw[q];rfl
  have vv:Vv v:=by
    rcases hk with z|⟨v',z,q⟩
    . rw[hd]at z;simp at z
    . rw[hd]at z;simp at z;rw[z];exact q
  have hc:fD M=false\/b8 ((λj=>(hf j).view.getD .aq) h)=false:=by
    rcases hw with⟨q,_⟩|q
    . exact .inl q
    . refine .inr ?_
      rcases Ih.at_ with⟨q',_⟩|⟨w',en,v',q',_,_,_,_,sw,_⟩
      . rw[q]at q';cases q'
      . rw[q]at q';cases q'
        dsimp only
        rw[q]
        exact sw.ok.2.2
  have cF:h<c.length:=by omega
  have fw:flat (cont M v (aR (hf h).told) w)=true:=(tO _ (aah.mpr ⟨h,ZL cF⟩)).ok.1
  obtain⟨g',l,k,o⟩:=Fp (M:=M) (w:=w) W bd hh h5 cl cc b vv.1 fw (ft h hh) xl tk
  have sp:=N8 w0 Sz hh hc l
  refine⟨ad,g',?_,conv ?_,eE.refl,o⟩
  . rw[hd]
    exact kX rfl sp
  . have l1:lcs (hf h)= []:=by
      unfold lcs
      rcases hw with⟨_,q,_⟩|q
      . split
        . exact q
        . rfl
      . rw[q]
    have l2:fU (hf h)= []:=by
      unfold fU
      rcases hw with⟨_,_,q⟩|q
      . split
        . exact q
        . rfl
      . rw[q]
    show Wc E n ad _ _ _ (up (λj=>lcs (hf j)) h []) (up (λj=>fU (hf j)) h []) lf g'
    rw[eM (f:=λj=>lcs (hf j)) l1.symm,eM (f:=λj=>fU (hf j)) l2.symm]
    exact k
 |go x b hd m bU =>
  have p:=m
  rw[<- i b]at p
  have e:=JK (M:=M) W hh h5 cl cc p (by rw[i b];exact bU)
  refine⟨ad,_,SA b hd e,conv ?_,eE.refl,Bd.set bd (Bx.cG _ (bH λy u=>(ph b m y u).ok.1))⟩
  have F:=U_ (a:=fU (hf h) ++ [x]) W hh
  rw[eM (f:=λj=>(hf j).told) rfl,eM (f:=λj=>(hf j).view.getD .aq) (by dsimp only;rw[b]),eM (f:=λj=>lcs (hf j)) (by rw[s b];rfl)]
  have k:fU ⟨(hf h).told,(hf h).cs,(hf h).rest ++ [x],none⟩=fU (hf h) ++ [x]:=by rw[i b];rfl
  rw[k]
  exact F
 |full x b hd m hle hm hg =>
  have p:=m
  rw[<- i b]at p
  have ra:=ph b m
  have fin:∀{G:L3.G},cA [.ax (ad (0,0)),mD n M,.int h] g=some (.aq,G)->Wc E n (fE ad h g.length) c (λj=>(hf j).told) (λj=>(hf j).view.getD .aq) (up (λj=>lcs (hf j)) h (lcs (hf h) ++ [fU (hf h) ++ [x]])) (up (λj=>fU (hf j)) h []) lf G->Bd G->∃eg g',dM [.ax (ad (0,0)),mD n M,.int h,d] g=some (.aq,g')/\Wo E n eg c (up hf h ⟨(hf h).told,(hf h).cs ++ [(hf h).rest ++ [x]],[],none⟩) lf g'/\eE ad eg/\Bd g':=λl k o=>by
    refine⟨fE ad h g.length,_,SA b hd l,conv ?_,QM,o⟩
    rw[eM (f:=λj=>(hf j).told) rfl,eM (f:=λj=>(hf j).view.getD .aq) (by dsimp only;rw[b])]
    rw[i b,s b]at k
    exact k
  have nM:(fU (hf h)).length+1=n:=by rw[i b];exact hle
  by_cases h0:(hf h).cs = []
  . obtain⟨G,l,k,o⟩:=Aw (M:=M) W bd hh h5 cl cc p nM hm (bH λy u=>(ra y u).ok.1) ((s b).trans h0)
    exact fin l k o
  . have ip:=aaR.mpr h0
    have Ym:=hg ((hf h).cs.length-1) (by simp;omega)
    have T:=(nL (M:=M) W bd hh h5 cl cc p nM hm ra (by rw[s b];exact(j4 b).col) (by rw[s b];exact h0)).1
    obtain⟨G,l,k,o⟩:=T (by rw[s b,i b];exact Ym)
    exact fin l k o
 |E6 x b hd m hle hm =>
  have p:=m
  rw[<- i b]at p
  have ra:=ph b m
  have nM:(fU (hf h)).length+1=n:=by rw[i b];exact hle
  have fl:aN (fU (hf h) ++ [x])=true:=bH λy u=>(ra y u).ok.1
  obtain⟨G,l,k,o⟩:=C7 (M:=M) W bd hh h5 cl cc p nM hm fl
  exact SE b hd (by simpa[flat]using fl) rfl l k o (by rw[i b])
 |E_ x en b hd m hle hm E =>
  have p:=m
  rw[<- i b]at p
  have ra:=ph b m
  have nM:(fU (hf h)).length+1=n:=by rw[i b];exact hle
  have ec:(hf h).cs ≠ []:=λz=>by have:=E.l2;rw[z]at this;simp at this
  have ip:=aaR.mpr ec
  have he:=E.en_
  rw[ZE,aag,show(hf h).cs.length+1-2=(hf h).cs.length-1 by omega]at he
  have sd:=sj hm (by simp;omega) (λy u=>ra y (by rw[i b];exact u)) he ip (j4 b).col
  have T:=(nL (M:=M) W bd hh h5 cl cc p nM hm ra (by rw[s b];exact(j4 b).col) (by rw[s b];exact ec)).2 en (by rw[s b,i b];exact he)
  obtain⟨G,l,k,o⟩:=T
  refine SE b hd ?_ ?_ l k o (by rw[i b])
  . rw[i b];exact sd.ok.1
  . rw[i b];exact sd.ok.2.2
 |vw v x en b hM hd m hle E =>
  have p:=m
  rw[<- i b]at p
  have ra:=ph b m
  have hm:¬M = .once:=λz=>by rw[z]at hM;cases hM
  have nM:(fU (hf h)).length+1=n:=by rw[i b];exact hle
  have ec:(hf h).cs ≠ []:=λz=>by have:=E.l2;rw[z]at this;simp at this
  have ip:=aaR.mpr ec
  have he:=E.en_
  rw[ZE,aag,show(hf h).cs.length+1-2=(hf h).cs.length-1 by omega]at he
  have sd:=sj hm (by simp;omega) (λy u=>ra y (by rw[i b];exact u)) he ip (j4 b).col
  have T:=(nL (M:=M) W bd hh h5 cl cc p nM hm ra (by rw[s b];exact(j4 b).col) (by rw[s b];exact ec)).2 en (by rw[s b,i b];exact he)
  obtain⟨G,l,k,o⟩:=T
  rw[i b]at l
  obtain⟨_,g',f1,f2,f3⟩:=C_ (M:=M) (v:=v) k o hh h5 sd.ok.1 sd.ok.2.2 (ft h hh) xl tk
  refine⟨cO ad h G.length,g',N9 (by rw[sn b (.inl hM),xn l,hd];exact f1),conv ?_,rh,f3⟩
  rw[eM (f:=λj=>(hf j).told) rfl]
  exact f2
end
noncomputable def Hm:FS:=aw (bu (ay (ag dY (bP b4 (cW (ag ak (ab 0) (fC (.int 1)))) [none,none] (gN 1) bp (ag ak (ab 1) (fC (.int 0)))) (bP b4 (cW (ag ak (ab 1) (fC (.str "told")))) [none,none] (gN 1) bp (au dG (aa (ab 1) af))))) (aF (fC (.bl false))) aO) (aF (ag oEq (ag ak (ab 0) (fC (.int 0))) (au dG (aa (bP b4 (cW (au iV (aa (ag ak (ab 1) (fC (.str "boxes"))) af))) [none,none,some 1] (gN 1) bp (aI aA (aa (ab 1) (aa (ag ak (ag ak (ab 2) (fC (.str "boxes"))) (ab 1)) af)))) af))))
noncomputable abbrev mC:Fn:=ao false 2 2 Hm
theorem De (x:D):ltB x .aq=false/\ltB .aq x=false:=by cases x<;>exact⟨rfl,rfl⟩
theorem Fq:∀n ∈ [2,3,4,5],(TL.v_ (λi j=>decide (i<j/\j<n)) (abG n)).toList=Zp n:=by decide +kernel
theorem yW {xs:List D}(h5:xs.length<=5)(hi:∀(i j:Nat) x y,xs[i]? = some x->xs[j]? = some y->ltB x y=decide (i<j)):fN xs=xs:=by
 unfold fN
 by_cases h2:xs.length<2
 . rw[if_pos h2]
 rw[if_neg h2]
 have f:(λi j=>ltB (xs.getD i .aq) (xs.getD j .aq))=λi j=>decide (i<j/\j<xs.length):=by
   funext i j
   rw[ZC,ZC]
   by_cases hj:j<xs.length
   . by_cases SF:i<xs.length
     . rw[Zs SF,Zs hj]
       show ltB xs[i] xs[j]=_
       rw[hi i j _ _ (Zs SF) (Zs hj)]
       simp[hj]
     . rw[Z6 (by omega)]
       show ltB .aq _=_
       rw[(De _).2]
       exact(decide_eq_false (by omega)).symm
   . rw[Z6 (show xs.length<=j by omega)]
     show ltB _ .aq=_
     rw[(De _).1]
     exact(decide_eq_false (by omega)).symm
 unfold fM
 rw[f,Fq xs.length (by simp;omega)]
 exact Aa xs .aq
theorem Ay:(Zt "own" == Zt "own")=true:=by decide
theorem SG (a b:Str):aB (.str a) (.str b)=(a == b):=by simp[aB]
theorem yX:∀es:Es,bL (bq es)=es.map λe=>kd (ky e)
 | []=>rfl
 |e::es=>by simp[bq,bL,yX es]
section
variable {E:Nat->Prop}{n h:Nat}{M:Mk}{c:List D}{g:G}
theorem Df {i j:Int}:ltB (.tup [.str "own",.int i]) (.tup [.str "own",.int j])=decide (i<j):=by
 by_cases hi:i=j
 . subst hi
   simp[ltB,ltN,d5,SG,Ay,aB]
 . simp[ltB,ltN,d5,SG,Ay,aB,hi]
theorem rn {F:Str×List Int×D->D}{i:Nat}{x:D}(h:((bx c).map F)[i]? = some x):∃y,c[i]? = some y/\x=F (Zt "own",[(i:Int)],y):=by
 rw[ZG,j2]at h
 cases hc:c[i]? with
 |none=>rw[hc]at h;cases h
 |some y=>rw[hc]at h;cases h;exact⟨y,rfl,rfl⟩
theorem Fs (h5:c.length<=5):fN ((bx c).map λe=>kd (ky e))=(bx c).map λe=>kd (ky e):=by
 refine yW (by rw[Z3,ib];exact h5) λi j x y a b=>?_
 obtain⟨_,_,rfl⟩:=rn a
 obtain⟨_,_,rfl⟩:=rn b
 refine Df.trans ?_
 simp
theorem Ft (h5:c.length<=5)(cc:∀x∈c,flat x=true):fN ((bx c).map ent)=(bx c).map ent:=by
 refine yW (by rw[Z3,ib];exact h5) λi j x y k m=>?_
 obtain⟨a,f,rfl⟩:=rn k
 obtain⟨b,h,rfl⟩:=rn m
 show ltB (.tup [.tup [.str "own",.int i],a]) (.tup [.tup [.str "own",.int j],b])=decide (i<j)
 have e:aB (.tup [.str "own",.int i]) (.tup [.str "own",.int j])=decide ((i:Int)=j):=by
   simp[aB,eh,Ay]
   by_cases q:(i:Int)=j<;>simp[q]
 by_cases q:(i:Int)=j
 . have n:i=j:=by omega
   subst n
   rw[f]at h
   cases h
   simp[ltB,ltN,d5,e,gv _ (cc _ (ZZ f))]
 . have:=Df (i:=i) (j:=j)
   have l:decide ((i:Int)<j)=decide (i<j):=by simp
   rw[<- l,<- this]
   simp[ltB,ltN,d5,e,q]
theorem Fu (hl:c.length<=9):qN ((bx c).map λe=>kd (ky e))=true:=by
 have f:∀x∈(bx c).map λe=>kd (ky e),∃i:Int,x = .tup [.str "own",.int i]:=λx b=>by
  obtain⟨a,m,rfl⟩:=Z8.mp b
  obtain⟨i,_,h⟩:=w5 m
  exact⟨i,by rw[h];rfl⟩
 generalize p:((bx c).map λe=>kd (ky e))=L at *
 have l:L.length<64:=by rw[<- p,Z3,ib];omega
 have f1:aN L=true:=bH λx b=>by obtain⟨i,rfl⟩:=f x b;rfl
 have o:bS L<=50:=aaJ (d7 (k:=1) λx b=>by obtain⟨i,rfl⟩:=f x b;simp[dep,bS]) (by omega)
 have t1:(L.all λx=>i4 x == some 2)=true:=ZY.mpr λx b=>by obtain⟨i,rfl⟩:=f x b;rfl
 have s1:(L.all λx=>L.all λy=>(ltN x y).isSome)=true:=ZY.mpr λx b=>ZY.mpr λy n=>by
  obtain⟨i,rfl⟩:=f x b
  obtain⟨j,rfl⟩:=f y n
  exact yB ("own",[i]) ("own",[j])
 unfold qN
 rw[decide_eq_true l,f1,decide_eq_true o,t1,s1]
 simp
theorem xo {α:Type}{f h:α->D}{t:FG}{e:FE}(I:Sg->Prop):∀(xs:List α) (σ:Sg) (g:G),I σ->(∀x∈xs,∀σ,I σ->∃σ1,t (f x) σ g=some (σ1,g)/\e σ1 g=some (h x,g)/\I σ1)->a_ t bp e (xs.map f) σ g=some (xs.map h,g)
 | [],σ,g,_,_=>rfl
 |x::xs,σ,g,hI,hs=>by
  obtain⟨σ1,b,i,a⟩:=hs x (by simp) σ hI
  have ih:=xo I xs σ1 g a λy c=>hs y (by simp[c])
  simp[a_,b,i,ih]
theorem QR {ad:CN->Nat}{tl lr lf:Nat->List D}{vw:Nat->D}{lc:Nat->List (List D)}{rs:List Row}(W:Wc E n ad c tl vw lc lr lf g)(h5:n<=5)(cl:c.length=n)(cc:∀x∈c,cN M x)(rl:rs.length=n)(rt:∀j,j<n->∃r,rs[j]? = some r/\r.1=tl j)(ft:∀j,j<n->aN (tl j)=true/\bS (tl j)<=20/\(tl j).length<=400):
   mC [aM (bx c) rs,.ax (ad (0,0))] g=some (.bl true,g):=by
 have f:g[ad (0,0)]? = some (gJ ad n):=W.at_ (0,0) (v0 (by omega))
 have l:g[ad (1,0)]? = some (bq (bx c)):=W.at_ (1,0) (v0 (by omega))
 have E:=j3 (M:=M) (by omega) cc
 have eq1:rs.map (λr=>D.tup r.1)=(Zp n).map λj=>D.tup (tl j):=by
   apply aav
   intro j
   rw[ZG,ZG]
   by_cases a:j<n
   . obtain⟨r,p,e2⟩:=rt j a
     rw[p,aac a]
     simp[e2]
   . rw[Z6 (by omega),Z6 (by simpa using a)]
     rfl
 have i:a_ (gN 1) bp (ag ak (ab 1) (fC (.int 0))) (rs.map aL) [none,none] g=some (rs.map λr=>D.tup r.1,g):=xo (λσ=>∃o,σ = [none,o]) rs _ g ⟨none,rfl⟩ (by
   rintro r hr σ ⟨o,rfl⟩
   exact⟨[none,some (aL r)],rfl,by simp[aL,bQ],⟨_,rfl⟩⟩)
 have u:a_ (gN 1) bp (au dG (aa (ab 1) af)) ((Zp n).map λ(h:Nat)=>D.ref (ad (6,h))) [none,none] g=some ((Zp n).map λj=>D.tup (tl j),g):=xo (λσ=>∃o,σ = [none,o]) _ _ g ⟨none,rfl⟩ (by
   rintro j a σ ⟨o,rfl⟩
   have m:=Z_.mp a
   have t0:g[ad (6,j)]? = some (tl j):=W.at_ (6,j) (vh m (by omega) (by omega))
   have z:aD (tl j).length=true:=aH (by have:=(ft j m).2.2;omega)
   exact⟨[none,some (.ref (ad (6,j)))],rfl,by simp[t0,z],⟨_,rfl⟩⟩)
 have c3:a_ (gN 1) bp (aI aA (aa (ab 1) (aa (ag ak (ag ak (ab 2) (fC (.str "boxes"))) (ab 1)) af))) ((bx c).map λe=>kd (ky e)) [none,none,some (.ax (ad (0,0)))] g=some ((bx c).map ent,g):=xo (λσ=>∃o,σ = [none,o,some (.ax (ad (0,0)))]) _ _ g ⟨none,rfl⟩ (by
   rintro e he σ ⟨o,rfl⟩
   have ge:=nz E.nd he
   have kk:=rZ (ky e)
   refine⟨[none,some (kd (ky e)),some (.ax (ad (0,0)))],rfl,?_,⟨_,rfl⟩⟩
   have y:ent e = .tup [kd (ky e),e.2.2]:=rfl
   rw[y]
   generalize kd (ky e)=k at *
   simp[f,Fm,cw,l,kk,ge,z2])
 have zn:aD (rs.map aL).length=true:=aH (by simp;omega)
 have Yn:aD ((Zp n).map λ(h:Nat)=>D.ref (ad (6,h))).length=true:=aH (by simp;omega)
 have zb:aD ((bx c).map λe=>kd (ky e)).length=true:=aH (by rw[Z3,ib];omega)
 have q:aD ((bx c).map ent).length=true:=aH (by rw[Z3,ib];omega)
 have fl:aN ((Zp n).map λj=>D.tup (tl j))=true:=bH λx b=>by
   obtain⟨j,a,rfl⟩:=Z8.mp b
   simpa[flat]using (ft j (Z_.mp a)).1
 have dl:bS ((Zp n).map λj=>D.tup (tl j))<=21:=d7 λx b=>by
   obtain⟨j,a,rfl⟩:=Z8.mp b
   have:=(ft j (Z_.mp a)).2.1
   simp[dep];omega
 have ne1:dY (.lst ((Zp n).map λj=>D.tup (tl j))) (.lst ((Zp n).map λj=>D.tup (tl j))) g=some (.bl false,g):=by
   have f1:flat (.lst ((Zp n).map λj=>D.tup (tl j)))=true:=by simpa[flat]using fl
   unfold dY
   rw[f1,gv _ f1,decide_eq_true (by simp only[dep];omega)]
   rfl
 have ef:=wC E.ct
 have ed:=yz E.ct
 have eq2:oEq (.tup ((bx c).map ent)) (.tup ((bx c).map ent)) g=some (.bl true,g):=by
   have f1:flat (.tup ((bx c).map ent))=true:=by simpa[flat]using ef
   unfold oEq
   rw[f1,gv _ f1,decide_eq_true (by simp only[dep];omega)]
   rfl
 have so:iV [.ax (ad (1,0))] g=some (.lst ((bx c).map λe=>kd (ky e)),g):=by
   simp only[iV,l,Zw]
   rw[yX,if_pos (Fu (by omega)),Fs (by omega)]
 rw[eq1]at i
 refine aQ (σ':=[some (aM (bx c) rs),some (.ax (ad (0,0)))]) rfl ?_ rfl
 have r1:ak (aM (bx c) rs) (.int 1) g=some (.tup (rs.map aL),g):=rfl
 have r0:ak (aM (bx c) rs) (.int 0) g=some (.tup ((bx c).map ent),g):=rfl
 generalize aM (bx c) rs=R at *
 generalize rs.map aL=RR at *
 generalize ((Zp n).map λj=>D.tup (tl j))=TT at *
 generalize hK:((bx c).map λe=>kd (ky e))=KK at *
 generalize (bx c).map ent=EE at *
 have s:ak (.ax (ad (0,0))) (.str "told") g=some (.lst ((Zp n).map λ(h:Nat)=>D.ref (ad (6,h))),g):=by simp[f,pZ,cw]
 have wb:ak (.ax (ad (0,0))) (.str "boxes") g=some (.ax (ad (1,0)),g):=by simp[f,Fm,cw]
 generalize ((Zp n).map λ(h:Nat)=>D.ref (ad (6,h)))=QQ at *
 have bt:dG [.lst EE] g=some (.tup EE,g):=by simp[q]
 have sb:bZ [none,none,some 1] [some R,some (.ax (ad (0,0)))]= [none,none,some (.ax (ad (0,0)))]:=rfl
 have v:bZ [none,none] [some R,some (.ax (ad (0,0)))]= [none,none]:=rfl
 show Hm [some R,some (.ax (ad (0,0)))] g=_
 unfold Hm
 rw[aK (σ1:=[some R,some (.ax (ad (0,0)))]) (g1:=g)]
 . simp only[kW,dX,b6,iH,ZJ,ZK,Zw,r0,gw,cD,ck,er,x8,wb,so,zb,if_true,sb,c3,b4,bt,eq2]
 . simp only[eF,iu,dX,b6,iH,ZJ,ZK,Zw,r1,er,x8,zn,if_true,v,i,b4,s,Yn,u,ne1,gR]
   rfl
end
noncomputable def ux (num hd sg ow:Fn):FS:=aw (aC (ag ak (ab 0) (fC (.int 0))) (gN 1)) (aw (bu (ay (ag oEq (ab 1) (fC (.str "tables")))) (aF (au sg (aa (fC (.str "box")) (aa (au num (aa (ab 0) (aa (fC (.str "boxes")) af))) (aa (fC (.int 0)) af))))) aO) (aw (bu (ay (ag oEq (ab 1) (fC (.str "shared")))) (aF bF) aO) (aw (aC (au sg (aa (fC (.str "own")) (aa (au hd (aa (ab 0) af)) (aa (au ow (aa (ab 0) af)) af)))) (gN 2)) (aw (bu (ay (ag oEq (ab 1) (fC (.str "signs")))) (aF (ag bC (ab 2) bF)) aO) (aF (ab 2))))))
noncomputable def nA (ls:Fn):FS:=aF (au dG (aa (au iV (aa (au ls (aa (ab 0) af)) af)) af))
noncomputable def rq (fst hd:Fn):FS:=aF (aI aA (aa (au fst (aa (ab 0) af)) (aa (ag dq (aI aA (aa (aI aA (aa (aI aA af) (aa (aI aA af) (aa (aI aA af) af)))) af)) (au hd (aa (ab 0) af))) af)))
noncomputable abbrev Ve:Fn:=ao false 1 1 qX
noncomputable abbrev Az:Fn:=ao false 3 1 (nB eH Ve)
noncomputable abbrev AA:Fn:=ao false 3 3 lq
noncomputable abbrev Fv:Fn:=ao false 3 1 (ux lZ eH AA Az)
noncomputable abbrev AB:Fn:=ao false 1 1 (nA Fv)
noncomputable abbrev p4:Fn:=ao false 2 2 (rq AB eH)
section
variable {n h:Nat}{M:Mk}{c:List D}{g:G}
noncomputable def c0 (n:Nat)(M:Mk):List D:=Zo n (d_ n M)
theorem rA:∀x∈c0 n M,cN M x:=λx a=>by
 rw[(aa5.mp a).2]
 have v0:Vv (.int 0):=⟨rfl,by simp[dep]⟩
 cases M with
 |once=>exact v0
 |twice t=>exact⟨_,_,rfl,v0⟩
 |handed t m =>
  refine⟨_,_,_,rfl,v0,λx a=>?_⟩
  rw[(aa5.mp a).2]
  exact v0
theorem nO:(c0 n M).length=n:=by simp[c0]
theorem Dg {x:D}:tF "own" n x=bx (Zo n x):=by
 apply aav
 intro j
 rw[j2,abd]
 unfold tF
 rw[ZG]
 by_cases hj:j<n
 . rw[aac hj,if_pos hj];rfl
 . rw[Z6 (by simpa using hj),if_neg hj];rfl
theorem JN (h5:n<=5):Fv [mD n M] g=some (.lst ((bx (c0 n M)).map ent),g):=by
 obtain⟨w,e,b,j,f,_⟩:=m0 (n:=n) (M:=M) g
 have c:=iE (n:=n) M h5 g
 have i:Az [mD n M] g=some (d_ n M,g):=Nj (λM=>pV M) ER (uw M h5) rfl
 have a:=Cv "own" n (d_ n M) g (by omega)
 rw[Dg]at a
 have h:AA [.str "own",.int n,d_ n M] g=some (.lst ((bx (c0 n M)).map ent),g):=a
 show ao false 3 1 (ux lZ eH AA Az) [mD n M] g=_
 clear a
 generalize (bx (c0 n M)).map ent=k at *
 generalize d_ n M=x at *
 generalize eH=p at *
 generalize Az=o at *
 generalize AA=l at *
 generalize mD n M=m at *
 refine aQ (σ':=[some m,some (.str w),some (.lst k)]) rfl ?_ rfl
 simp[ux,e,flat,dep,aB,b,j,f,c,i,h]
theorem Fw (h5:n<=5):AB [mD n M] g=some (.tup ((bx (c0 n M)).map ent),g):=by
 have l:=JN (M:=M) (g:=g) h5
 have E:=j3 (M:=M) (cs:=c0 n M) (by rw[nO];omega) rA
 have ln:(bx (c0 n M)).length=n:=by rw[ib,nO]
 have e:=lg E.nd E.ct (by rw[ln];omega)
 have h:=Ft (c:=c0 n M) (by rw[nO];exact h5) λx b=>(rA x b).ok.1
 have f:aD ((bx (c0 n M)).map ent).length=true:=aH (by rw[Z3,ln];omega)
 have bs:iV [.lst ((bx (c0 n M)).map ent)] g=some (.lst ((bx (c0 n M)).map ent),g):=by
  show(if qN ((bx (c0 n M)).map ent)=true then some (D.lst (fN ((bx (c0 n M)).map ent)),g)else none)=_
  rw[if_pos e,h]
 refine aQ (σ':=[some (mD n M)]) rfl ?_ rfl
 have i:dG [.lst ((bx (c0 n M)).map ent)] g=some (.tup ((bx (c0 n M)).map ent),g):=by
  generalize (bx (c0 n M)).map ent=EE at *
  simp[f]
 generalize (bx (c0 n M)).map ent=EE at *
 generalize Fv=a at *
 generalize mD n M=m at *
 show nA a [some m] g=_
 simp only[nA,kW,gw,cD,ck,b6,ZJ,Zw,l,bs,i]
theorem Fx {js:D}(h5:n<=5):p4 [mD n M,js] g=some (aM (bx (c0 n M)) (Zo n ([],[],[])),g):=by
 have f:=Fw (M:=M) (g:=g) h5
 have a:=iE (n:=n) M h5 g
 have c:aD 0=true:=rfl
 have e:dq (.tup [.tup [.tup [],.tup [],.tup []]]) (.int (n:Int)) g=some (.tup (Zo n (.tup [.tup [],.tup [],.tup []])),g):=by
  have:=Ee (g:=g) (xs:=[D.tup [.tup [],.tup [],.tup []]]) (k:=(n:Int)) (by omega) (by omega) (by simp)
  simpa using this
 have b:(Zo n (([],[],[]):Row)).map aL=Zo n (.tup [.tup [],.tup [],.tup []]):=by simp[aL]
 refine aQ (σ':=[some (mD n M),some js]) rfl ?_ rfl
 unfold aM
 rw[b]
 show rq AB eH [some (mD n M),some js] g=_
 generalize (bx (c0 n M)).map ent=EE at *
 generalize AB=i at *
 generalize eH=h at *
 generalize mD n M=m at *
 simp[rq,f,a,c,z1,z2,z3,e]
end
noncomputable def kG (n:Nat)(x:CN):Nat:=match x.1 with
 | 0=>1
 | 1=>2
 | 2=>3
 | 3=>4+n
 | 4=>5+4*n
 | 6=>4+x.2
 | 7=>5+n+3*x.2
 | 8=>6+n+3*x.2
 | 9=>7+n+3*x.2
 |_=>0
noncomputable def tQ (n:Nat)(x:CN):Bool:=(decide (x.1<=4)&&decide (x.2=0))||(decide (6<=x.1)&&decide (x.1<=9)&&decide (x.2<n))
noncomputable def AD:List CN:=(Zp 10).flatMap λi=>(Zp 5).map λj=>(i,j)
theorem Fy:∀n∈Zp 6,∀x∈AD,tQ n x=true->∀y∈AD,tQ n y=true->kG n x=kG n y->x=y:=by decide +kernel
def EX (L hd k:Nat):Prop:=k=1\/(2<=k/\k-2<L/\k-2≠hd)
noncomputable def gK (L n hd:Nat)(x:CN):Nat:=if x.1=5 then(if x.2=1 then hd else x.2-2)else L+kG n x
noncomputable def Dh (g:G)(hl:List D)(k:Nat):List D:=if k=1 then hl else g.getD (k-2) []
theorem j6 {f:Nat->G}(hf:∀j,(f j).length=3):∀n,((Zp n).flatMap f).length=3*n
 | 0=>rfl
 |n+1=>by rw[ack,ae4,ZE,j6 hf n];simp[hf];omega
theorem Hn {f:Nat->G}(hf:∀j,(f j).length=3){j t:Nat}(ht:t<3):∀n,j<n->((Zp n).flatMap f)[3*j+t]? = (f j)[t]?
 | 0,h=>by omega
 |n+1,h=>by
  rw[ack,ae4]
  by_cases hj:j<n
  . rw[Zx (by rw[j6 hf];omega)]
    exact Hn hf ht n hj
  . have:j=n:=by omega
    subst this
    rw[ZS (by rw[j6 hf];omega),j6 hf]
    simp
noncomputable def pz (b n:Nat):G:=(Zp n).flatMap λj=>[aU .aq (b+3*j+1) (b+3*j+2),[],Zo n (.int 0)]
noncomputable def Di (L n:Nat):List D:=[.str "boxes",.ax (L+2),.str "puts",.ref (L+3),.str "told",.lst ((Zp n).map λ(h:Nat)=>D.ref (L+4+h)),.str "view",.ref (L+4+n),.str "look",.ref (L+5+4*n)]
noncomputable def gB (g:G)(n:Nat)(M:Mk):G:=g++(gp (.int 0) 0 (zs n)::Di g.length n::([bq (bx (c0 n M)),Zo n (.int 0)]++Zo n [] ++ [Zo n .aq]++pz (g.length+5+n) n ++ [(Zp n).map λ(j:Nat)=>D.ax (g.length+5+n+3*j)]))
noncomputable def H0:HS:=⟨[],[],[],none⟩
section
variable {n h hd:Nat}{M:Mk}{g:G}{hl:List D}
theorem oD {i:Nat}:(gB g n M)[g.length+(i+2)]? = ([bq (bx (c0 n M)),Zo n (.int 0)]++Zo n [] ++ [Zo n .aq]++pz (g.length+5+n) n ++ [(Zp n).map λ(j:Nat)=>D.ax (g.length+5+n+3*j)])[i]?:=by
 unfold gB
 rw[ZS (by omega),show g.length+(i+2)-g.length=i+1+1 by omega,ZK,ZK]
theorem yY {y:D}:Zo n y=(Zp n).map λ_=>y:=by
 apply aav
 intro i
 rw[ZG,abd]
 by_cases hi:i<n
 . rw[aac hi,if_pos hi];rfl
 . rw[Z6 (by simpa using hi),if_neg hi];rfl
theorem Vf (h5:n<=5)(hg:g[hd]? = some hl):Sep (λx=>VW (EX g.length hd) n (λ_=>[]) x/\x≠(5,0)) (gK g.length n hd) (aP n (gK g.length n hd) (c0 n M) (λ_=>[]) (λ_=>.aq) (λ_=>[]) (λ_=>[]) (Dh g hl)) (gB g n M):=by
 have u:=(Zr.mp hg).1
 have cs:∀x:CN,VW (EX g.length hd) n (λ_=>[]) x/\x≠(5,0)->(x.1=5/\EX g.length hd x.2)\/(¬x.1=5/\tQ n x=true/\x∈AD):=by
   rintro⟨i,j⟩ ⟨f,hn⟩
   by_cases e:i=5
   . subst e
     rcases f with⟨_,b|b⟩|z|z
     . dsimp only at b;subst b;exact absurd rfl hn
     . exact .inl b
     . dsimp only at z;omega
     . dsimp only at z;omega
   refine .inr ⟨e,?_⟩
   have r:(i<=4/\j=0)\/(6<=i/\i<=9/\j<n):=by
     rcases f with⟨a,b⟩|z|⟨_,_,z⟩
     . dsimp only at a b
       rcases b with b|b
       . exact .inl ⟨by omega,b⟩
       . exact absurd b.1 e
     . exact .inr z
     . exact absurd rfl z
   refine⟨?_,?_⟩
   . unfold tQ
     rcases r with⟨a,b⟩|⟨a,b,c⟩
     . simp[a,b]
     . simp[a,b,c]
   . unfold AD
     refine af1.mpr ⟨i,Z_.mpr (by omega),Z8.mpr ⟨j,Z_.mpr (by omega),rfl⟩⟩
 have low:∀x:CN,x.1=5->EX g.length hd x.2->gK g.length n hd x<g.length/\g[gK g.length n hd x]? = some (Dh g hl x.2):=by
   rintro⟨i,j⟩ h1 k
   unfold gK Dh
   rw[if_pos h1]
   rcases k with k|⟨k,h3,h4⟩
   . dsimp only at k
     subst k
     exact⟨by simpa using u,by simpa using hg⟩
   . dsimp only at k h3 h4
     have p:¬j=1:=by omega
     dsimp only
     rw[if_neg p,if_neg p,ZC,Zs h3]
     exact⟨h3,rfl⟩
 have pos:∀x:CN,tQ n x=true->1<=kG n x:=by
   rintro⟨i,j⟩ f
   match i with
   | 0| 1| 2| 3| 4| 6| 7| 8| 9=>simp[kG];try omega
   | 5=>simp[tQ]at f
   |i+10=>simp[tQ]at f
 refine⟨λx y f q e=>?_,?_⟩
 . rcases cs x f with⟨x5,ex⟩|⟨n1,vx,gx⟩
   . rcases cs y q with⟨y5,ey⟩|⟨n2,vy,gy⟩
     . refine adm (x5.trans y5.symm) ?_
       unfold gK at e
       rw[if_pos x5,if_pos y5]at e
       unfold EX at ex ey
       by_cases a:x.2=1
       . by_cases b:y.2=1
         . rw[a,b]
         . rw[if_pos a,if_neg b]at e
           omega
       . by_cases b:y.2=1
         . rw[if_neg a,if_pos b]at e
           omega
         . rw[if_neg a,if_neg b]at e
           omega
     . have:=(low x x5 ex).1
       rw[e]at this
       unfold gK at this
       rw[if_neg n2]at this
       omega
   . rcases cs y q with⟨y5,ey⟩|⟨n2,vy,gy⟩
     . have:=(low y y5 ey).1
       rw[<- e]at this
       unfold gK at this
       rw[if_neg n1]at this
       omega
     . unfold gK at e
       rw[if_neg n2,if_neg n1]at e
       exact Fy n (Z_.mpr (by omega)) x gx vx y gy vy (by omega)
 . have o:∀j,afC ((λj=>([aU .aq (g.length+5+n+3*j+1) (g.length+5+n+3*j+2),[],Zo n (D.int 0)]:G)) j)=3:=λ_=>rfl
   have m:(pz (g.length+5+n) n).length=3*n:=j6 o n
   have yG:∀j t,j<n->t<3->(gB g n M)[g.length+(5+n+3*j+t)]? = [aU .aq (g.length+5+n+3*j+1) (g.length+5+n+3*j+2),[],Zo n (D.int 0)][t]?:=λj t h s=>by
     rw[show 5+n+3*j+t=(3+n+3*j+t)+2 by omega,oD,Zx (by simp[m];omega),ZS (by simp;omega)]
     have l:3+n+3*j+t-([bq (bx (c0 n M)),Zo n (D.int 0)]++Zo n [] ++ [Zo n D.aq]).length=3*j+t:=by simp;omega
     rw[l]
     exact Hn o s n h
   rintro⟨i,j⟩ f
   rcases cs (i,j) f with⟨e,ee⟩|⟨n1,vx,gx⟩
   . have:=low (i,j) e ee
     unfold gB
     rw[Zx this.1,this.2]
     dsimp only at e
     subst e
     rfl
   . have v:gK g.length n hd (i,j)=g.length+kG n (i,j):=by unfold gK;rw[if_neg n1]
     rw[v]
     have hv:(i<=4/\j=0)\/(6<=i/\i<=9/\j<n):=by simpa[tQ,and_assoc]using vx
     match i with
     | 0 =>
       show(gB g n M)[g.length+1]? = _
       unfold gB
       rw[ZS (by omega),show g.length+1-g.length=0+1 by omega,ZK,ZJ]
       simp[aP,gK,kG,Di,Nat.add_assoc]
     | 1 =>
       show(gB g n M)[g.length+(0+2)]? = _
       rw[oD]
       rfl
     | 2 =>
       show(gB g n M)[g.length+(1+2)]? = _
       rw[oD,yY]
       rfl
     | 3 =>
       show(gB g n M)[g.length+(4+n)]? = _
       rw[show 4+n=(2+n)+2 by omega,oD]
       rw[Zx (by simp[m];omega),Zx (by simp;omega),ZS (by simp;omega)]
       have l:2+n-([bq (bx (c0 n M)),Zo n (D.int 0)]++Zo n []).length=0:=by simp;omega
       rw[l,yY]
       rfl
     | 4 =>
       show(gB g n M)[g.length+(5+4*n)]? = _
       rw[show 5+4*n=(3+4*n)+2 by omega,oD,ZS (by simp[m];omega)]
       have l:3+4*n-([bq (bx (c0 n M)),Zo n (D.int 0)]++Zo n [] ++ [Zo n D.aq]++pz (g.length+5+n) n).length=0:=by simp[m];omega
       rw[l]
       simp[aP,gK,kG,Nat.add_assoc]
     | 6 =>
       have h:j<n:=by omega
       show(gB g n M)[g.length+(4+j)]? = _
       rw[show 4+j=(2+j)+2 by omega,oD,Zx (by simp[m];omega),Zx (by simp;omega),Zx (by simp;omega),ZS (by simp)]
       simp[aP,h]
     | 7 =>
       have h:j<n:=by omega
       show(gB g n M)[g.length+(5+n+3*j+0)]? = _
       rw[yG j 0 h (by omega)]
       simp[aP,gK,kG]
       congr 1<;>omega
     | 8 =>
       have h:j<n:=by omega
       show(gB g n M)[g.length+(6+n+3*j)]? = _
       rw[show 6+n+3*j=5+n+3*j+1 by omega,yG j 1 h (by omega)]
       rfl
     | 9 =>
       have h:j<n:=by omega
       show(gB g n M)[g.length+(7+n+3*j)]? = _
       rw[show 7+n+3*j=5+n+3*j+2 by omega,yG j 2 h (by omega)]
       simp[aP,Hk]
     | 5=>omega
     |i+10=>omega
end
noncomputable def Yq:FS:=aF (ab 3)
noncomputable def SI (fresh:Fn):FS:=aw (aC (bP kB (dB (aa (ab 1) af)) [none,none,some 1] (gN 1) bp (au fresh (aa (ab 2) af))) (cX (ab 3) (fC (.str "look")))) Yq
noncomputable def SK (fresh:Fn):FS:=aw (aC (ag gV (aI cx (aa (fC .aq) af)) (ab 1)) (cX (ab 3) (fC (.str "view")))) (SI fresh)
noncomputable def SM (fresh:Fn):FS:=aw (aC (bP b4 (dB (aa (ab 1) af)) [none,none] (gN 1) bp (aI mkRef af)) (cX (ab 3) (fC (.str "told")))) (SK fresh)
noncomputable def SN (fresh:Fn):FS:=aw (aC (dZ [(fC (.str "boxes"),au gZ (aa (bP b4 (dB (aa (ab 1) af)) [none,none,some 2] (gN 1) bp (aI aA (aa (aI aA (aa (fC (.str "own")) (aa (ab 1) af))) (aa (ab 2) af)))) af)),(fC (.str "puts"),ag gV (aI cx (aa (fC (.int 0)) af)) (ab 1))]) (gN 3)) (SM fresh)
noncomputable def SO (fresh:Fn):FS:=aw (aC (ag ak (dZ [(fC (.str "once"),fC (.int 0)),(fC (.str "twice"),aI aA (aa (fC (.int 0)) (aa (fC (.int 0)) af))),(fC (.str "handed"),aI aA (aa (fC (.int 0)) (aa (fC (.int 0)) (aa (ag dq (aI aA (aa (fC (.int 0)) af)) (ab 1)) af))))]) (ag ak (ab 0) (fC (.int 0)))) (gN 2)) (SN fresh)
noncomputable def Ho (fresh:Fn):FS:=aw (aC (ag ak (ab 0) (fC (.int 1))) (gN 1)) (SO fresh)
noncomputable abbrev j7:Fn:=ao true 4 1 (Ho cP)
section
variable {n h hd:Nat}{M:Mk}{g:G}{hl:List D}
theorem yZ:∀(l:List Nat) (o:Option D) (G:G),a_ (gN 1) bp (aI mkRef af) (dN l) [none,o] G=some ((Zp l.length).map λj=>D.ref (G.length+j),G++Zo l.length [])
 | [],o,G=>by simp[a_,dN]
 |x::l,o,G=>by
  have ih:=yZ l (some (.int x)) (G ++ [[]])
  have e:dN (x::l)= .int x::dN l:=rfl
  rw[e]
  simp only[a_]
  have m:aI mkRef af [none,some (D.int x)] G=some (.ref G.length,G ++ [[]]):=by simp
  have t:gN 1 (D.int x) [none,o] G=some ([none,some (D.int x)],G):=rfl
  rw[t]
  simp only[Zw,vD,if_true,m,ih]
  rw[aas,acI,aaq]
  simp[Nat.add_comm,Nat.add_left_comm,afq]
theorem xp (h5:n<=5):∀(l:List Nat) (o:Option D) (G:G),a_ (gN 1) bp (au cP (aa (ab 2) af)) (dN l) [none,o,some (.int n)] G=some ((Zp l.length).map λ(j:Nat)=>D.ax (G.length+3*j),G++(Zp l.length).flatMap λj=>[aU .aq (G.length+3*j+1) (G.length+3*j+2),[],Zo n (.int 0)])
 | [],o,G=>by simp[a_,dN]
 |x::l,o,G=>by
  have a:=xa (g:=G) h5
  have ih:=xp h5 l (some (.int x)) (G ++ [aU .aq (G.length+1) (G.length+2),[],Zo n (.int 0)])
  have e:dN (x::l)= .int x::dN l:=rfl
  rw[e]
  simp only[a_]
  have m:au cP (aa (ab 2) af) [none,some (D.int x),some (.int n)] G=some (.ax G.length,G ++ [aU .aq (G.length+1) (G.length+2),[],Zo n (.int 0)]):=by
    simp only[gw,cD,b6,ck,ZK,ZJ,Zw]
    exact a
  have t:gN 1 (D.int x) [none,o,some (.int n)] G=some ([none,some (D.int x),some (.int n)],G):=rfl
  rw[t]
  simp only[Zw,vD,if_true,m,ih]
  rw[aas,acI]
  congr 1
  refine adm ?_ ?_
  . simp only[Z9,adg]
    congr 1
    refine aaZ λj _=>?_
    simp
    omega
  . simp only[List.flatMap_cons,List.flatMap_map,aak]
    congr 1
    congr 1
    refine congrArg (λf=>List.flatMap f (Zp l.length)) (funext λj=>?_)
    simp only[ZE,aas,adh]
    rw[show G.length+(0+1+1+1)+3*j=G.length+3*(j+1) by omega]
theorem QS {es:Es}{g:G}(E:CB es):gZ [.lst (es.map ent)] g=some (.ax g.length,g ++ [bq es]):=by
 have:=wD (n:=g.length) es [] (g ++ [[]]) (by simp[bq]) (by simpa using E.nd) (by have:=E.len;simp;omega)
 show qR [.lst (es.map ent)] g=_
 simp only[qR,wF,Zw,this]
 simp
theorem mulR {x:D}{g:G}(h5:n<=5):gV (.lst [x]) (.int (n:Int)) g=some (.ref g.length,g ++ [Zo n x]):=by
 have cE:L3.cE (n:Int)=true:=by unfold L3.cE;simp;omega
 have zn:aD n=true:=aH (by omega)
 have a:(Zo n [x]).flatten=Zo n x:=by
  clear cE zn h5
  induction n with
  |zero=>rfl
  |succ n ih=>rw[aaq,aaj,ih];rfl
 simp[gV,cE,zn,a]
theorem AE {d W W':List D}{R:G}:(g++(d::W::R)).set (g.length+1) W'=g++(d::W'::R):=by
 rw[acV _ _ (by omega)]
 simp
theorem AF {d W:List D}{R:G}:(g++(d::W::R))[g.length+1]? = some W:=by
 rw[ZS (by omega)]
 simp
theorem Fz {σ:Sg}{i:Nat}{g:G}(hi:σ[i]? = some (some (.int n)))(h5:n<=5):dB (aa (ab i) af) σ g=some (dN (Zp n),g):=by
 have a:L3.cE (n:Int)=true:=by unfold L3.cE;simp;omega
 rw[<- xf]
 simp only[dB,cD,b6,ck,hi,Zw]
 rw[if_pos a]
theorem FC {d W:List D}{R:G}{k:Str}{x:D}(hs:ij W=true):eN (.ax (g.length+1)) (.str k) x (g++(d::W::R))=some (g++(d::bj W (.str k) x::R)):=by
 simp only[eN,AF,Zw,cw,hs,adJ,if_true,AE]
theorem FD (h5:n<=5):j7 [mD n M] g=some (.ax (g.length+1),gB g n M):=by
 have zn:aD (dN (Zp n)).length=true:=aH (by simp[dN];omega)
 obtain⟨s,hs,r⟩:=xh (n:=n) (M:=M) (v:=.int 0) (w:=zs n) (k:=0) (u:=zs n) λ_=>rfl
 have ek:Ax (.int 0) 0 (zs n) M=d_ n M:=by cases M<;>rfl
 rw[ek]at r
 have d1:∀o2 o3,dZ [(fC (.str "once"),fC (.int 0)),(fC (.str "twice"),aI aA (aa (fC (.int 0)) (aa (fC (.int 0)) af))),(fC (.str "handed"),aI aA (aa (fC (.int 0)) (aa (fC (.int 0)) (aa (ag dq (aI aA (aa (fC (.int 0)) af)) (ab 1)) af))))] [some (mD n M),some (.int n),o2,o3] g=some (.ax g.length,g ++ [gp (.int 0) 0 (zs n)]):=λo2 o3=>by
  have q1:aB (.str "once") (.str "twice")=false:=rfl
  have y:∀g,dq (.tup [.int 0]) (.int (n:Int)) g=some (zs n,g):=λg=>by
   have:=Ee (g:=g) (xs:=[D.int 0]) (k:=(n:Int)) (by omega) (by omega) (by simp)
   simpa[zs]using this
  generalize zs n=z at *
  generalize mD n M=m at *
  simp only[dZ,m9,iH,gU,cD,ck,dX,b6,ZK,ZJ,Zw,aA,aas,adh,z1,z2,z3,if_true,y]
  simp[putAll,eN,cw,ij,bj,q1,z1,z2,z3,gp,y]
  rfl
 have mo:∀g,ak (mD n M) (.int 1) g=some (.int n,g):=λg=>Hj
 refine kX (σ':=[some (mD n M),some (.int n),some (d_ n M),some (.ax (g.length+1))]) rfl ?_
 show Ho cP [some (mD n M),none,none,none] g=_
 unfold Ho
 rw[aK (σ1:=[some (mD n M),some (.int n),none,none]) (g1:=g) (by
  generalize mD n M=m at *
  simp[mo])]
 unfold SO
 rw[aK (σ1:=[some (mD n M),some (.int n),some (d_ n M),none]) (g1:=g ++ [gp (.int 0) 0 (zs n)]) (by
  rw[dI,dX,d1]
  generalize gp (.int 0) 0 (zs n)=a at *
  generalize mD n M=m at *
  simp[hs,cw,r])]
 generalize Sy:gp (.int 0) 0 (zs n)=a
 have E:=j3 (M:=M) (cs:=c0 n M) (by rw[nO];omega) rA
 have cb:∀G,a_ (gN 1) bp (aI aA (aa (aI aA (aa (fC (.str "own")) (aa (ab 1) af))) (aa (ab 2) af))) (dN (Zp n)) [none,none,some (d_ n M)] G=some ((bx (c0 n M)).map ent,G):=λG=>by
  have:=xo (f:=λ(j:Nat)=>D.int j) (h:=λ(j:Nat)=>ent (Zt "own",[(j:Int)],d_ n M)) (t:=gN 1) (e:=aI aA (aa (aI aA (aa (fC (.str "own")) (aa (ab 1) af))) (aa (ab 2) af))) (λσ=>∃o1,σ = [none,o1,some (d_ n M)]) (Zp n) [none,none,some (d_ n M)] G ⟨none,rfl⟩ (by
   rintro j hj σ ⟨o1,rfl⟩
   refine⟨[none,some (.int j),some (d_ n M)],rfl,?_,⟨_,rfl⟩⟩
   generalize d_ n M=x at *
   simp[z2]
   rfl)
  have e:(bx (c0 n M)).map ent=(Zp n).map λ(j:Nat)=>ent (Zt "own",[(j:Int)],d_ n M):=by
   unfold c0
   rw[<- Dg]
   unfold tF
   rw[adg]
   rfl
  rw[e]
  exact this
 have l1:(g ++ [a]).length=g.length+1:=by simp
 have bd:=QS (es:=bx (c0 n M)) (g:=g ++ [a] ++ [[]]) E
 have dW:dZ [(fC (.str "boxes"),au gZ (aa (bP b4 (dB (aa (ab 1) af)) [none,none,some 2] (gN 1) bp (aI aA (aa (aI aA (aa (fC (.str "own")) (aa (ab 1) af))) (aa (ab 2) af)))) af)),(fC (.str "puts"),ag gV (aI cx (aa (fC (.int 0)) af)) (ab 1))] [some (mD n M),some (.int n),some (d_ n M),none] (g ++ [a])=some (.ax (g.length+1),g++(a :: [.str "boxes",.ax (g.length+2),.str "puts",.ref (g.length+3)]:: [bq (bx (c0 n M)),Zo n (.int 0)])):=by
  have ir:=Fz (σ:=[some (mD n M),some (.int n),some (d_ n M),none]) (i:=1) (g:=g ++ [a] ++ [[]]) rfl h5
  have sb:bZ [none,none,some 2] [some (mD n M),some (.int n),some (d_ n M),none]= [none,none,some (d_ n M)]:=rfl
  have o:=mulR (x:=.int 0) (g:=g ++ [a] ++ [[]] ++ [bq (bx (c0 n M))]) h5
  have mk:∀g,cx [.int 0] g=some (.lst [.int 0],g):=λg=>if_pos (aH (by simp))
  simp only[dZ,m9,iH,gw,cD,ck,er,ir,Zw,zn,if_true,sb,cb,b4,bd,dX,gU,mk,b6,ZK,ZJ,o]
  simp only[putAll,eN,Zw]
  generalize bq (bx (c0 n M))=b at *
  have q:g ++ [a] ++ [[]] ++ [b] ++ [Zo n (D.int 0)]=g++(a :: []:: [b,Zo n (D.int 0)]):=by simp
  rw[q,l1,AF]
  have q1:ij ([]:List D)=true:=rfl
  simp only[Zw,cw,q1,adJ,if_true,AE]
  have q2:∀x:D,bj [] (.str "boxes") x = [.str "boxes",x]:=λ_=>rfl
  have q3:∀x:D,ij [.str "boxes",x]=true:=λ_=>by unfold ij;exact aH (by simp)
  rw[q2,AF]
  simp only[Zw,q3,if_true,AE]
  simp
  rfl
 unfold SN
 rw[aK (σ1:=[some (mD n M),some (.int n),some (d_ n M),some (.ax (g.length+1))]) (g1:=g++(a :: [.str "boxes",.ax (g.length+2),.str "puts",.ref (g.length+3)]:: [bq (bx (c0 n M)),Zo n (.int 0)])) (by
  rw[dI,dW]
  rfl)]
 generalize Yr:bq (bx (c0 n M))=b at *
 have l:∀(W:List D) (R:G),(g++(a::W::R)).length=g.length+2+R.length:=λW R=>by simp;omega
 have p:∀(W:List D) (R X:G),g++(a::W::R)++X=g++(a::W::(R++X)):=λW R X=>by simp
 have sz:∀(W:List D),W.length<=10->ij W=true:=λW hW=>by unfold ij;exact aH (by omega)
 have rl:(Zp n).length=n:=by simp
 have Ys:bP b4 (dB (aa (ab 1) af)) [none,none] (gN 1) bp (aI mkRef af) [some (mD n M),some (.int n),some (d_ n M),some (.ax (g.length+1))] (g++(a :: [.str "boxes",.ax (g.length+2),.str "puts",.ref (g.length+3)]:: [b,Zo n (.int 0)]))=some (.lst ((Zp n).map λ(j:Nat)=>D.ref (g.length+4+j)),g++(a :: [.str "boxes",.ax (g.length+2),.str "puts",.ref (g.length+3)]::([b,Zo n (.int 0)]++Zo n []))):=by
  have cr:=yZ (Zp n) none (g++(a :: [.str "boxes",.ax (g.length+2),.str "puts",.ref (g.length+3)]:: [b,Zo n (.int 0)]))
  rw[rl,l,p]at cr
  rw[er,Fz (n:=n) rfl h5]
  simp only[Zw]
  rw[if_pos zn,show bZ [none,none] [some (mD n M),some (.int n),some (d_ n M),some (.ax (g.length+1))]= [none,none] from rfl,cr]
  rfl
 unfold SM
 rw[aK (σ1:=[some (mD n M),some (.int n),some (d_ n M),some (.ax (g.length+1))]) (g1:=g++(a :: [.str "boxes",.ax (g.length+2),.str "puts",.ref (g.length+3),.str "told",.lst ((Zp n).map λ(j:Nat)=>D.ref (g.length+4+j))]::([b,Zo n (.int 0)]++Zo n []))) (by
  rw[dI,Ys]
  generalize ((Zp n).map λ(j:Nat)=>D.ref (g.length+4+j))=TT at *
  generalize mD n M=m at *
  have c:=FC (g:=g) (d:=a) (k:="told") (x:=.lst TT) (R:=[b,Zo n (.int 0)]++Zo n []) (sz [.str "boxes",.ax (g.length+2),.str "puts",.ref (g.length+3)] (by simp))
  simp only[Zw,cX,b6,iH,ZK,ZJ]
  rw[c]
  rfl)]
 generalize Yt:((Zp n).map λ(j:Nat)=>D.ref (g.length+4+j))=TT at *
 unfold SK
 rw[aK (σ1:=[some (mD n M),some (.int n),some (d_ n M),some (.ax (g.length+1))]) (g1:=g++(a :: [.str "boxes",.ax (g.length+2),.str "puts",.ref (g.length+3),.str "told",.lst TT,.str "view",.ref (g.length+4+n)]::([b,Zo n (.int 0)]++Zo n [] ++ [Zo n .aq]))) (by
  have o:=mulR (x:=.aq) (g:=g++(a :: [.str "boxes",.ax (g.length+2),.str "puts",.ref (g.length+3),.str "told",.lst TT]::([b,Zo n (.int 0)]++Zo n []))) h5
  rw[l,p,show g.length+2+([b,Zo n (.int 0)]++Zo n ([]:List D)).length=g.length+4+n by simp;omega]at o
  have mk:∀g,cx [.aq] g=some (.lst [.aq],g):=λg=>if_pos (aH (by simp))
  have c:=FC (g:=g) (d:=a) (k:="view") (x:=.ref (g.length+4+n)) (R:=[b,Zo n (.int 0)]++Zo n [] ++ [Zo n .aq]) (sz [.str "boxes",.ax (g.length+2),.str "puts",.ref (g.length+3),.str "told",.lst TT] (by simp))
  simp only[dI,dX,gU,cD,ck,mk,o,Zw,cX,b6,iH,ZK,ZJ]
  rw[c]
  rfl)]
 unfold SI
 have cl:=xp h5 (Zp n) none (g++(a :: [.str "boxes",.ax (g.length+2),.str "puts",.ref (g.length+3),.str "told",.lst TT,.str "view",.ref (g.length+4+n)]::([b,Zo n (.int 0)]++Zo n [] ++ [Zo n .aq])))
 rw[rl,l,p,show g.length+2+(([b,Zo n (D.int 0)]++Zo n [] ++ [Zo n D.aq]:G)).length=g.length+5+n by simp;omega]at cl
 have kl:(pz (g.length+5+n) n).length=3*n:=j6 (λ_=>rfl) n
 rw[aK (σ1:=[some (mD n M),some (.int n),some (d_ n M),some (.ax (g.length+1))]) (g1:=gB g n M) (by
  have c:=FC (g:=g) (d:=a) (k:="look") (x:=.ref (g.length+5+4*n)) (R:=[b,Zo n (.int 0)]++Zo n [] ++ [Zo n .aq]++pz (g.length+5+n) n ++ [(Zp n).map λ(j:Nat)=>D.ax (g.length+5+n+3*j)]) (sz [.str "boxes",.ax (g.length+2),.str "puts",.ref (g.length+3),.str "told",.lst TT,.str "view",.ref (g.length+4+n)] (by simp))
  rw[dI,er,Fz (n:=n) rfl h5]
  simp only[Zw]
  rw[if_pos zn,show bZ [none,none,some 1] [some (mD n M),some (.int n),some (d_ n M),some (.ax (g.length+1))]= [none,none,some (.int n)] from rfl,cl]
  simp only[Zw,kB,cX,b6,iH,ZK,ZJ]
  rw[l,p]
  have q:g.length+2+(([b,Zo n (D.int 0)]++Zo n [] ++ [Zo n D.aq]++(Zp n).flatMap λj=>[aU .aq (g.length+5+n+3*j+1) (g.length+5+n+3*j+2),[],Zo n (D.int 0)]:G)).length=g.length+5+4*n:=by
   have:((Zp n).flatMap λj=>([aU .aq (g.length+5+n+3*j+1) (g.length+5+n+3*j+2),[],Zo n (.int 0)]:G)).length=3*n:=kl
   rw[ZE,this]
   simp;omega
  rw[q]
  unfold pz at c
  rw[c]
  unfold gB Di pz
  rw[Sy,Yr,Yt]
  rfl)]
 rfl
end
noncomputable def rB (take pick:Fn):FS:=aw (aC (au pick (aa (ab 0) (aa (aI cx (aa (fC (.int 0)) (aa (fC (.int 0)) (aa (fC (.int 0)) (aa (fC (.int 2)) (aa (fC (.int 3)) (aa (fC (.int 9)) af))))))) af))) (gN 2)) (aw (aC (au pick (aa (ab 0) (aa (aI cx (aa (fC (.int 1)) (aa (fC (.int 2)) (aa (fC (.int 2)) (aa (fC (.int 3)) (aa (fC (.int 3)) (aa (fC (.int 4)) af))))))) af))) (gN 3)) (aF (ag ak (aI cx (aa (aI aA (aa (fC (.str "once")) (aa (ab 1) af))) (aa (aI aA (aa (fC (.str "twice")) (aa (ab 1) (aa (ab 2) af)))) (aa (aI aA (aa (fC (.str "handed")) (aa (ab 1) (aa (ab 2) (aa (ab 3) af))))) af)))) (ag (cI cj (· % ·)) (au take (aa (ab 0) (aa (fC (.int 5)) af))) (fC (.int 3))))))
theorem Dj {d:D}(h:d∈([.int 0,.int 0,.int 0,.int 2,.int 3,.int 9]:List D)\/d∈([.int 1,.int 2,.int 2,.int 3,.int 3,.int 4]:List D)):∃k:Nat,d = .int k:=by
 simp only[ZI,abH,or_false]at h
 rcases h with(rfl|rfl|rfl|rfl|rfl|rfl)| (rfl|rfl|rfl|rfl|rfl|rfl)
 . exact⟨0,rfl⟩
 . exact⟨0,rfl⟩
 . exact⟨0,rfl⟩
 . exact⟨2,rfl⟩
 . exact⟨3,rfl⟩
 . exact⟨9,rfl⟩
 . exact⟨1,rfl⟩
 . exact⟨2,rfl⟩
 . exact⟨2,rfl⟩
 . exact⟨3,rfl⟩
 . exact⟨3,rfl⟩
 . exact⟨4,rfl⟩
def Dk (f:Fn):Prop:=∀(n h:Nat) (g:G) (B:Int),B<2 ^ 39->Hd g n B->wp (f [.ref n,.int h] g) λq=>(∃M:Mk,q.1=mD h M)/\Hd q.2 n (B+3)/\Fr n g q.2
theorem JO {take pick:Fn}(ht:eG take)(hp:g_ pick):Dk (ao false 4 2 (rB take pick)):=λn h g B l hd=>by
 refine wp_run rfl ?_
 unfold rB
 have z6:aD 6=true:=rfl
 simp[z6]
 refine hp.w (by omega) (by simp) (by simp) hd λr g1 f c f1=>?_
 simp[z6]
 refine hp.w (by omega) (by simp) (by simp) c λp g2 k hd2 f2=>?_
 simp[z2,z3,z4]
 refine ht.w (by omega) (by decide) (by decide) hd2 λy g3 o q b i=>?_
 obtain⟨t,rfl⟩:=Dj (.inl f)
 obtain⟨m,rfl⟩:=Dj (.inr k)
 have a:cj y 3=true:=rfl
 have f4:=(f1.trans f2).trans i
 have j:y % 3=0\/y % 3=1\/y % 3=2:=by omega
 rcases j with e|e|e
 . simp[a,e,bQ]
   exact⟨f4.1,⟨.once,rfl⟩,b.mono (by omega),f4⟩
 . simp[a,e,jV]
   exact⟨f4.1,⟨.twice t,rfl⟩,b.mono (by omega),f4⟩
 . simp[a,e,nE]
   exact⟨f4.1,⟨.handed t m,rfl⟩,b.mono (by omega),f4⟩
def jt (own:Nat)(x:D):Prop:=x = .tup [.str "look"] \/ ∃v,x = .tup [.str "put",.int own,v]/\Vv v
theorem jt.ok {own:Nat}{x:D}(h:jt own x):flat x=true:=by
 rcases h with rfl|⟨v,rfl,h⟩
 . rfl
 . simp[flat,aN,h.1]
theorem QT {n:Nat}{M:Mk}:∃(wd:Str) (xs:List D),mD n M = .tup (.str wd :: .int n::xs) /\ ¬wd=Zt "shared":=by
 cases M with
 |once=>exact⟨_,_,rfl,by decide⟩
 |twice t=>exact⟨_,_,rfl,by decide⟩
 |handed t m=>exact⟨_,_,rfl,by decide⟩
def Hq (f:Fn):Prop:=∀{n:Nat} {M:Mk} (h own many:Nat) (g:G) (B:Int),many<=12->B<2 ^ 38->Hd g h B->Clean g ->
 wp (f [.ref h,mD n M,.int own,.int many] g) λq=>∃row:List D,q.1=cL row/\row.length<=12/\(∀x∈row,jt own x)/\Hd q.2 h (B+100)/\Fr h g q.2
theorem N_ {take value:Fn}(ht:eG take)(hv:Wd.Cz value):Hq (ao false 6 4 (nD take value)):=fun {n M} h own many g B hm hB hd cg=>by
 obtain⟨wd,Yu,e0,hs⟩:=QT (n:=n) (M:=M)
 rw[e0]
 refine fI rfl ?_
 unfold nD
 refine wp_seq ?_
 simp
 refine lS ?_
 simp
 refine⟨by omega,?_⟩
 refine nW (λj σ m=>(∃l,σ = [some (.ref h),some (.tup (.str wd :: .int n::Yu)),some (.int own),some (.int many),some (.ref g.length),l]) /\ ∃row:List D,row.length=j/\(∀x∈row,jt own x)/\Pd.Mk g m h (B+6*j) row) _ 0 _ _ ⟨⟨none,rfl⟩,[],rfl,by simp,(Pd.Mk.init hd).mono (by omega)⟩ ?_ ?_
 . rintro j x σ m hj ⟨⟨l,rfl⟩,row,rl,i,K⟩
   obtain⟨Yv,rfl⟩:=iB hj
   rw[abV]at rl K ⊢
   simp
   have s:aD (row.length+1)=true:=aH (by omega)
   have app:∀(d:D) (c:G) (e:Int),jt own d->Pd.Mk g c h e row->e<=B+6*j+6->∃p5:List D,p5.length=j+1/\(∀x∈p5,jt own x)/\Pd.Mk g (c.set g.length (row ++ [d])) h (B+6*((j:Int)+1)) p5:=λd c e z M' Zi=>by
     refine⟨row ++ [d],by simp[rl],λx b=>?_,(M'.put (ys:=row ++ [d])).mono (by omega)⟩
     rcases ZN.mp b with b|b
     . exact i x b
     . simp at b;subst b;exact z
   unfold GU
   simp
   refine ht.w (by omega) (by decide) (by decide) K.hd λy g1 y0 y1 u f1=>?_
   have k:=K.step u f1
   by_cases h3:y<3
   . simp[h3,bQ]
     have QU:∀(c:G) (e:Int),Pd.Mk g c h e row->e<=B+6*j+2->wp (value [.ref h] c) λa=>wp (a.2[g.length]?) λf=>wp (if aD (f.length+1)=true then some (D.aq,a.2.set g.length (f ++ [.tup [.str "put",.int own,a.1]]))else none) λa=>∃p5:List D,p5.length=j+1/\(∀x∈p5,jt own x)/\Pd.Mk g a.2 h (B+6*((j:Int)+1)) p5:=by
       intro c e p Zj
       obtain⟨v,g3,e3,v1,iW,f3⟩:=hv h c e (by omega) p.hd
       have r:=p.step iW f3
       simp only[e3,fH,r.at_,s,if_true]
       exact app _ g3 _ (.inr ⟨v,rfl,v1.1,by have:=v1.2;omega⟩) r (by omega)
     simp[hs,z3]
     have:=QU g1 _ k (by omega)
     simpa using this
   . simp[h3,z1,k.at_,s]
     exact app _ g1 _ (.inl rfl) k (by omega)
 . rintro σ m ⟨⟨l,rfl⟩,row,rl,i,K⟩
   simp only[abV,d6]at rl K
   have rl:row.length=many:=by simpa using rl
   obtain⟨o,q⟩:=K.fin
   have fr:aN row=true:=bH λx b=>(i x b).ok
   simp[K.at_,aH (show row.length<=1000 by omega),z2]
   refine⟨by simp[b5,aX,Bx.cG _ fr],λx b=>(cg.fr q o) x b _,by rw[K.len];omega,row,rfl,by omega,i,o.mono (by omega),q⟩
def i7 (n:Nat)(js:List D):Prop:=js.length=n /\ ∀i,i<n->∃row:List D,js[i]? = some (cL row)/\row.length<=12 /\ ∀x∈row,jt i x
theorem i7.flat {n:Nat}{js:List D}(J:i7 n js):aN js=true:=bH λx b=>by
 obtain⟨i,a⟩:=aah.mp b
 obtain⟨row,e,_,h⟩:=J.2 i (by have:=(Zr.mp a).1;rw[J.1]at this;exact this)
 rw[a]at e
 cases e
 have:aN row=true:=bH λy c=>(h y c).ok
 simp[cL,L3.flat,aN,this]
def Hr (f:Fn):Prop:=∀{n:Nat} {M:Mk} (h:Nat) (g:G) (B:Int),n<=5->B<2 ^ 37->Hd g h B->Clean g ->
 wp (f [.ref h,mD n M,.int 4] g) λq=>∃js:List D,q.1 = .tup js/\i7 n js/\Hd q.2 h (B+600)/\Fr h g q.2
theorem Oa {take deeds:Fn}(ht:eG take)(mO:Hq deeds):Hr (ao false 6 3 (qY take deeds)):=fun {n M} h g B h5 hB hd u=>by
 have mo:∀g,ak (mD n M) (.int 1) g=some (.int n,g):=λg=>Hj
 refine fI rfl ?_
 unfold qY
 refine wp_seq ?_
 simp
 refine lS ?_
 simp[mo]
 refine⟨by omega,?_⟩
 refine nW (λj σ o=>(∃l m,σ = [some (.ref h),some (mD n M),some (.int 4),some (.ref g.length),l,m]) /\ ∃js:List D,i7 j js/\Pd.Mk g o h (B+110*j) js) _ 0 _ _ ⟨⟨none,none,rfl⟩,[],⟨rfl,by simp⟩,(Pd.Mk.init hd).mono (by omega)⟩ ?_ ?_
 . rintro j x σ o hj ⟨⟨l,m,rfl⟩,js,J,K⟩
   obtain⟨Yv,rfl⟩:=iB hj
   rw[abV]at J K ⊢
   have f:=J.1
   have zx:aD (js.length+1)=true:=aH (by omega)
   have c0:=ES u J.flat K
   simp
   unfold Nk
   simp
   refine ht.w (by omega) (by decide) (by decide) K.hd λy g1 y0 y1 c f1=>?_
   simp
   refine ht.w (by omega) (by decide) (by decide) c λz g2 z0 RT hd2 f2=>?_
   have K2:=(K.step c f1).step hd2 f2
   have c2:=(c0.fr f1 c).fr f2 hd2
   have rest:∀many:Nat,many<=12->wp (deeds [.ref h,mD n M,.int j,.int many] g2) λa=>wp (a.2[g.length]?) λb=>wp (if aD (b.length+1)=true then some (D.aq,a.2.set g.length (b ++ [a.1]))else none) λa=>∃SQ:List D,i7 (j+1) SQ/\Pd.Mk g a.2 h (B+110*((j:Int)+1)) SQ:=by
     intro many hm
     refine wp_mono (mO h j many g2 _ hm (by omega) hd2 c2) ?_
     rintro⟨dd,g3⟩ ⟨row,rfl,rl,rm,iW,f3⟩
     have s:=K2.step iW f3
     simp only[s.at_,fH,zx,if_true]
     refine⟨js ++ [cL row],⟨by simp[f],λi hi=>?_⟩,(s.put (ys:=js ++ [cL row])).mono (by omega)⟩
     by_cases Md:i<j
     . obtain⟨r,e,h1,h2⟩:=J.2 i Md
       exact⟨r,by rw[Zx (by omega)];exact e,h1,h2⟩
     . have:i=j:=by omega
       subst this
       exact⟨row,by rw[ZS (by omega),f];simp,rl,rm⟩
   by_cases hz:z=0
   . subst hz
     simp
     have:=rest 12 (by omega)
     simpa using this
   . simp[hz]
     obtain⟨yn,rfl⟩:∃k:Nat,y=k:=⟨y.toNat,by omega⟩
     have:=rest yn (by omega)
     simpa using this
 . rintro σ o ⟨⟨l,m,rfl⟩,js,J,K⟩
   simp only[abV,d6]at J K
   have J:i7 n js:=by simpa using J
   have f:=J.1
   obtain⟨p,q⟩:=K.fin
   have fj:=J.flat
   simp[K.at_,aH (show js.length<=1000 by omega)]
   exact⟨by simp[b5,Bx.cG _ fj],λx v=>(u.fr q p) x v _,by rw[K.len];omega,J,p.mono (by omega),q⟩
noncomputable def Ob (take pick:Fn):FS:=aF (aI aA (aa (ab 5) (aa (au pick (aa (ab 0) (aa (aI cx (aa (fC (.int 1)) (aa (fC (.int 1)) (aa (fC (.int 2)) (aa (fC (.int 3)) (aa (fC (.int 5)) (aa (fC (.int 9)) (aa (fC (.int 40)) af)))))))) af))) af)))
noncomputable def SR (take pick:Fn):FS:=aw (bu (ay (ag oEq (au take (aa (ab 0) (aa (fC (.int 15)) af))) (fC (.int 0)))) (fG (eA isRef dJ (ab 3) (aa (ab 5) af))) aO) (Ob take pick)
noncomputable def SS (take pick:Fn):FS:=aw (aC (au pick (aa (ab 0) (aa (ab 4) af))) (gN 5)) (SR take pick)
noncomputable def SU (take pick:Fn):FS:=aw (bu (ay (ag oEq (ab 4) (aI cx af))) (aF (aI aA (aa (fC .aq) (aa (fC (.int 0)) af)))) aO) (SS take pick)
noncomputable def lA (take pick:Fn):FS:=aw (aC (bP b4 (dB (aa (au bN (aa (ab 1) af)) af)) [none,none,some 1,some 3,some 2] (gN 1) (il (ay (ag oLt (au bN (aa (ag ak (ag ak (ab 4) (fC (.str "told"))) (ab 1)) af)) (au bN (aa (ag ak (ag ak (ab 2) (ab 1)) (fC (.int 1))) af)))) (ay (ag k8 (ab 1) (ab 3)))) (ab 1)) (gN 4)) (SU take pick)
theorem Oc {p:Nat}{g g':G}{y:List D}(f:Fr p g g')(h:g'[p]? = some y):g'=g.set p y:=by
 apply aav
 intro i
 by_cases e:p=i
 . subst e
   rw[h,ZL (by rw[<- f.1];exact(Zr.mp h).1)]
 . rw[ZT e,f.2 i λz=>e z.symm]
def Dm (l:List D):Prop:=∀x∈l,∃i:Nat,x = .int i
def Od (E:Nat->Prop)(n:Nat)(ad:CN->Nat)(c:List D)(tl:Nat->List D)(vw:Nat->D)(lc:Nat->List (List D))(lr lf:Nat->List D)(B:Int)(q:D×G):Prop:=∃tR,Wc E n ad c tl vw lc lr tR q.2/\Bd q.2/\Hd q.2 (ad (5,1)) (B+3)/\Dm (tR 0)/\(∀k,2<=k->tR k=lf k)/\(tR 0).length<=(lf 0).length+1/\(q.1 = .tup [.aq,.int 0] \/ ∃j k:Nat,q.1 = .tup [.int j,.int k]/\j<n/\k<=40)
section
variable {E:Nat->Prop}{n:Nat}{M:Mk}{ad:CN->Nat}{c:List D}{tl lr lf:Nat->List D}{vw:Nat->D}{lc:Nat->List (List D)}{g g':G}{B:Int}{js:List D}{take pick:Fn}
theorem xq (e1:E 1)(W:Wc E n ad c tl vw lc lr lf g)(f:Fr (ad (5,1)) g g')(h:Hd g' (ad (5,1)) B):∃y,Wc E n ad c tl vw lc lr (up lf 1 y) g':=by
 obtain⟨a,b,i,e,_⟩:=h
 refine⟨[.int a,.int b,.int i],?_⟩
 rw[Oc f e]
 exact N3 W (.inr e1)
theorem oE {y:List D}:up lf 1 y 0=lf 0:=bK (by decide)
theorem Oe (e1:E 1)(ht:eG take)(hp:g_ pick)(W:Wc E n ad c tl vw lc lr lf g)(bd:Bd g)(hd:Hd g (ad (5,1)) B)(hB:B<2 ^ 38)(h5:n<=5)(J:i7 n js)(L0:Dm (lf 0))(L1:(lf 0).length<=100)(tk:∀j,j<n->(tl j).length<=400):
   wp (ao false 6 4 (lA take pick) [.ref (ad (5,1)),.tup js,.ax (ad (0,0)),.ref (ad (5,0))] g) (Od E n ad c tl vw lc lr lf B):=by
 have w0:g[ad (0,0)]? = some (gJ ad n):=W.at_ (0,0) (v0 (by omega))
 have f0:g[ad (5,0)]? = some (lf 0):=W.at_ (5,0) (v0 (by omega))
 have jl:=J.1
 have zn:aD (dN (Zp n)).length=true:=aH (by simp[dN];omega)
 have ff:aN (lf 0)=true:=bH λx p=>by obtain⟨i,rfl⟩:=L0 x p;rfl
 have fd:bS (lf 0)<=50:=aaJ (d7 (k:=0) λx p=>by obtain⟨i,rfl⟩:=L0 x p;simp[dep]) (by omega)
 have cf:∃o:Nat->Bool,a_ (gN 1) (il (ay (ag oLt (au bN (aa (ag ak (ag ak (ab 4) (fC (.str "told"))) (ab 1)) af)) (au bN (aa (ag ak (ag ak (ab 2) (ab 1)) (fC (.int 1))) af)))) (ay (ag k8 (ab 1) (ab 3)))) (ab 1) (dN (Zp n)) [none,none,some (.tup js),some (.ref (ad (5,0))),some (.ax (ad (0,0)))] g=some (dN ((Zp n).filter o),g):=by
   refine⟨λj=>decide ((tl j).length<(match js[j]? with|some (.tup [_,.tup r])=>r.length|_=>0)) && !((lf 0).any λy=>aB y (.int j)),?_⟩
   refine Au (f:=λ(j:Nat)=>D.int j) (λσ=>∃o1,σ = [none,o1,some (.tup js),some (.ref (ad (5,0))),some (.ax (ad (0,0)))]) (Zp n) _ g ⟨none,rfl⟩ ?_
   rintro j m σ ⟨o1,rfl⟩
   have sO:=Z_.mp m
   obtain⟨row,e,rl,_⟩:=J.2 j sO
   refine⟨[none,some (.int j),some (.tup js),some (.ref (ad (5,0))),some (.ax (ad (0,0)))],rfl,?_,rfl,⟨_,rfl⟩⟩
   have t0:g[ad (6,j)]? = some (tl j):=W.at_ (6,j) (vh sO (by omega) (by omega))
   have ta:bJ ((Zp n).map λ(h:Nat)=>D.ref (ad (6,h))) (j:Int)=some (.ref (ad (6,j))):=dC sO
   have ja:bJ js (j:Int)=some (cL row):=cu e
   have j1:ak (cL row) (.int 1) g=some (.tup row,g):=rfl
   have ei:(match js[j]? with|some (.tup [_,.tup r])=>r.length|_=>0)=row.length:=by rw[e];rfl
   rw[ei]
   have ni:my (.int j) (.ref (ad (5,0))) g=some ((lf 0).any λy=>aB y (.int j)):=by
     simp only[my,eR,f0,Zw,yd]
     rw[if_pos (by rw[ff,decide_eq_true fd];rfl)]
   generalize cL row=jr at *
   generalize ((lf 0).any λy=>aB y (.int j))=bb at *
   by_cases bU:(tl j).length<row.length
   . simp[w0,pZ,cw,ta,t0,ja,j1,bU,ni]
   . simp[w0,pZ,cw,ta,t0,ja,j1,bU]
 obtain⟨o,cf⟩:=cf
 refine wp_run rfl ?_
 show wp (lA take pick [some (.ref (ad (5,1))),some (.tup js),some (.ax (ad (0,0))),some (.ref (ad (5,0))),none,none] g) _
 have ir:dB (aa (au bN (aa (ab 1) af)) af) [some (.ref (ad (5,1))),some (.tup js),some (.ax (ad (0,0))),some (.ref (ad (5,0))),none,none] g=some (dN (Zp n),g):=by
   have oR:L3.cE (n:Int)=true:=by unfold L3.cE;simp;omega
   have bl:bN [.tup js] g=some (.int n,g):=by simp[jl]
   rw[<- xf]
   simp only[dB,cD,gw,b6,ck,ZK,ZJ,Zw,bl]
   rw[if_pos oR]
 unfold lA
 rw[aK (σ1:=[some (.ref (ad (5,1))),some (.tup js),some (.ax (ad (0,0))),some (.ref (ad (5,0))),some (.lst (dN ((Zp n).filter o))),none]) (g1:=g) (by
   rw[dI,er,ir]
   simp only[Zw]
   have sb:bZ [none,none,some 1,some 3,some 2] ([some (.ref (ad (5,1))),some (.tup js),some (.ax (ad (0,0))),some (.ref (ad (5,0))),none,none]:Sg)= [none,none,some (.tup js),some (.ref (ad (5,0))),some (.ax (ad (0,0)))]:=rfl
   rw[if_pos zn,sb,cf]
   rfl)]
 have ie:=(Av (g:=g) (jB (l:=(Zp n).filter o)).1 jB.2).1
 have len:((Zp n).filter o).length<=n:=aaJ (abX _ _) (by simp)
 have mem:∀d∈dN ((Zp n).filter o),∃j:Nat,d = .int j/\j<n:=λd hd=>by
   obtain⟨j,m,rfl⟩:=Z8.mp hd
   exact⟨j,rfl,Z_.mp (aaE.mp m).1⟩
 generalize hl:dN ((Zp n).filter o)=l at *
 have ll:l.length<=n:=by rw[<- hl,nG];exact len
 unfold SU
 by_cases cS:l = []
 . have C5:oEq (.lst l) (.lst []) g=some (.bl true,g):=by rw[ie,cS];rfl
   rw[qV (d:=.tup [.aq,.int 0]) (σ1:=[some (.ref (ad (5,1))),some (.tup js),some (.ax (ad (0,0))),some (.ref (ad (5,0))),some (.lst l),none]) (g1:=g) (by
     simp only[eF,iu,dX,b6,gU,ck,ZK,ZJ,Zw,C3,C5,gR,if_true]
     simp[z2])]
   exact⟨_,rfl,rfl,lf,W,bd,hd.mono (by omega),L0,λ_ _=>rfl,by omega,.inl rfl⟩
 . have C5:oEq (.lst l) (.lst []) g=some (.bl false,g):=by
     rw[ie]
     cases l with
     |nil=>exact absurd rfl cS
     |cons a b=>rfl
   rw[aK (σ1:=[some (.ref (ad (5,1))),some (.tup js),some (.ax (ad (0,0))),some (.ref (ad (5,0))),some (.lst l),none]) (g1:=g) (by
     simp only[eF,iu,dX,b6,gU,ck,ZK,ZJ,Zw,C3,C5,gR]
     rfl)]
   unfold SS
   refine wp_seq ?_
   simp
   refine hp.w (by omega) cS (by omega) hd λd g1 md eU f1=>?_
   obtain⟨j,rfl,m⟩:=mem d md
   obtain⟨v,W1⟩:=xq e1 W f1 eU
   have Hs:=bd.fr f1 eU
   unfold SR
   refine wp_seq ?_
   simp
   refine ht.w (by omega) (by decide) (by decide) eU λz g2 z0 Zk hd2 f2=>?_
   obtain⟨y2,W2⟩:=xq e1 W1 f2 hd2
   have SV:=Hs.fr f2 hd2
   have l2:g2[ad (5,0)]? = some (lf 0):=by
     have:=W2.at_ (5,0) (v0 (by omega))
     rw[this]
     show some (up (up lf 1 v) 1 y2 0)=_
     rw[oE,oE]
   have e2:up (up lf 1 v) 1 y2 0=lf 0:=by rw[oE,oE]
   have e3:∀k,2<=k->up (up lf 1 v) 1 y2 k=lf k:=λk u=>by rw[bK (by omega),bK (by omega)]
   generalize up (up lf 1 v) 1 y2=Zl at *
   have fin:∀{g3:G} {q:Nat->List D},g3.length=g.length->Wc E n ad c tl vw lc lr q g3->Bd g3->Hd g3 (ad (5,1)) (B+2)->Dm (q 0)->(∀k,2<=k->q k=lf k)->(q 0).length<=(lf 0).length+1->wp (Ob take pick [some (.ref (ad (5,1))),some (.tup js),some (.ax (ad (0,0))),some (.ref (ad (5,0))),some (.lst l),some (.int j)] g3) λr=>match r.1 with
       |.rt d=>r.2.2.length=g.length/\Od E n ad c tl vw lc lr lf B (d,r.2.2)
       |.nx=>r.2.2.length=g.length/\Od E n ad c tl vw lc lr lf B (.aq,r.2.2)
       |_=>False:=fun {g3 q} hlen W3 Of iW L3 L5 L4=>by
     unfold Ob
     have z7:aD 7=true:=rfl
     simp[z7]
     refine hp.w (by omega) (by simp) (by simp) iW λd g4 SX xu f4=>?_
     obtain⟨y4,W4⟩:=xq e1 W3 f4 xu
     simp[z2]
     refine⟨by rw[f4.1,hlen],_,W4,Of.fr f4 xu,xu.mono (by omega),by rw[oE];exact L3,λk u=>by rw[bK (by omega)];exact L5 k u,by rw[oE];exact L4,?_⟩
     simp only[ZI,abH,or_false]at SX
     rcases SX with rfl|rfl|rfl|rfl|rfl|rfl|rfl
     . exact .inr ⟨j,1,rfl,m,by omega⟩
     . exact .inr ⟨j,1,rfl,m,by omega⟩
     . exact .inr ⟨j,2,rfl,m,by omega⟩
     . exact .inr ⟨j,3,rfl,m,by omega⟩
     . exact .inr ⟨j,5,rfl,m,by omega⟩
     . exact .inr ⟨j,9,rfl,m,by omega⟩
     . exact .inr ⟨j,40,rfl,m,by omega⟩
   have Og:g2.length=g.length:=by rw[f2.1,f1.1]
   by_cases hz:z=0
   . subst hz
     have za:aD ((lf 0).length+1)=true:=aH (by omega)
     simp[l2,za]
     have W3:=N3 (k:=0) (a:=lf 0 ++ [.int j]) W2 (.inl rfl)
     have Cg:ad (5,1)≠ad (5,0):=λz=>by have:=W.inj (5,1) (5,0) (.inl ⟨by simp,.inr ⟨rfl,e1⟩⟩) (v0 (by omega)) z;simp at this
     have iW:Hd (g2.set (ad (5,0)) (lf 0 ++ [.int j])) (ad (5,1)) (B+2):=by
       obtain⟨a,b,c,h1,s⟩:=hd2
       exact⟨a,b,c,by rw[ZT λz=>Cg z.symm];exact h1,s.1,s.2.1,s.2.2.1,s.2.2.2.1,by have:=s.2.2.2.2;omega⟩
     have lk:Dm (lf 0 ++ [.int j]):=λx p=>by
       rcases ZN.mp p with h|h
       . exact L0 x h
       . simp at h;exact⟨j,h⟩
     have Of:Bd (g2.set (ad (5,0)) (lf 0 ++ [.int j])):=Bd.set SV (iC λx p=>by obtain⟨i,rfl⟩:=lk x p;rfl)
     exact fin (by simpa using Og) W3 Of iW (by rw[dH];exact lk) (λk u=>by rw[bK (by omega)];exact e3 k u) (by rw[dH];simp)
   . simp[hz]
     exact fin Og W2 SV (hd2.mono (by omega)) (by rw[e2];exact L0) e3 (by rw[e2];omega)
end
noncomputable def SY (step stepped is:Fn):FS:=aw (fG (au step (aa (ab 4) (aa (ab 1) (aa (ab 9) (aa (ag ak (ag ak (ag ak (ab 2) (ab 9)) (fC (.int 1))) (au bN (aa (ab 12) af))) af)))))) (aw (aC (au stepped (aa (ab 1) (aa (ab 2) (aa (ab 5) (aa (ab 9) af))))) (gN 5)) (bu (u5 (uY (au is (aa (ab 5) (aa (ab 4) af))))) (aF (fC (.bl false))) aO))
noncomputable def Ht (step stepped is:Fn):FS:=aw (aC (ag ak (ag ak (ab 4) (fC (.str "told"))) (ab 9)) (gN 12)) (bu (il (ay (ag oLt (ab 7) (ab 3))) (ay (ag oLt (au bN (aa (ab 12) af)) (au bN (aa (ag ak (ag ak (ab 2) (ab 9)) (fC (.int 1))) af))))) (aw (aC (ag bC (ab 7) (fC (.int 1))) (gN 7)) (SY step stepped is)) aO)
noncomputable def Hu (next step stepped is:Fn):FS:=aw (aC (au next (aa (ab 0) (aa (ab 2) (aa (ab 4) (aa (ab 6) af))))) (gT 2 (b9 (gN 9) (b9 (gN 10) gk)))) (gr (dB (aa (ab 10) af)) (gN 11) (Ht step stepped is))
noncomputable def eQ (begin begun next step stepped is:Fn):FS:=aw (aC (aI aA (aa (au begin (aa (ab 1) af)) (aa (au begun (aa (ab 1) (aa (ab 2) af))) (aa (aI mkRef af) (aa (fC (.int 0)) af))))) (gT 4 (b9 (gN 4) (b9 (gN 5) (b9 (gN 6) (b9 (gN 7) gk)))))) (aw (gr (dB (aa (fC (.int 60)) af)) (gN 8) (Hu next step stepped is)) (aF (fC (.bl true))))
structure Dp (n:Nat)(js:List D)(rows:Nat->List D):Prop where
 len:js.length=n
 at_:∀j,j<n->js[j]? = some (cL (rows j))
 ia:∀j,j<n->(rows j).length<=12
 dk:∀j,j<n->∀x∈rows j,jt j x
theorem i7.rows {n:Nat}{js:List D}(J:i7 n js):∃rows,Dp n js rows:=by
 refine⟨λj=>match js[j]? with|some (.tup [_,.tup r])=>r|_=>[],J.1,λj a=>?_,λj a=>?_,λj a=>?_⟩
 all_goals
   obtain⟨row,e,b,c⟩:=J.2 j a
   rw[e]
 . rfl
 . exact b
 . exact c
structure Ru (E:Nat->Prop)(n:Nat)(M:Mk)(rows:Nat->List D)(aS:CN->Nat)(fV:Nat->List D)(i K:Nat)(B:Int)(ad:CN->Nat)(c:List D)(hf:Nat->HS)(lf:Nat->List D)(rs:List Row)(g:G):Prop where
 W:Wo E n ad c hf lf g
 bd:Bd g
 hd:Hd g (aS (5,1)) (B+3*i)
 cl:c.length=n
 cc:∀x∈c,cN M x
 I:∀j,j<n->HI M n j (rows j) K (hf j)
 rl:rs.length=n
 rr:∀j,j<n->∃gD,rs[j]? = some ((hf j).told,(hf j).reads,gD)
 ro:∀r∈rs,lU (K+1) r
 lk:Dm (lf 0)
 ll:(lf 0).length<=i
 lo:∀k,2<=k->lf k=fV k
 ka:eE aS ad
theorem HI.mono {M:Mk}{n h K:Nat}{row:List D}{H:HS}(I:HI M n h row K H):HI M n h row (K+1) H:=⟨I.fit,I.tk,by have:=I.ia;omega,by have:=I.tl;omega,I.at_⟩
section
variable {E:Nat->Prop}{n h i K:Nat}{M:Mk}{js:List D}{rows:Nat->List D}{aS ad:CN->Nat}{c:List D}{hf:Nat->HS}{fV lf:Nat->List D}{rs:List Row}{g:G}{B:Int}{nl:(Fn×Fn)×(Fn×Fn)}
noncomputable abbrev gj (hd:Nat)(m:D)(js:List D)(w:Nat)(R:D)(l K:Nat)(o8 o9 o10 dP fW:Option D):Sg:=[some (.ref hd),some m,some (.tup js),some (.int 250),some (.ax w),some R,some (.ref l),some (.int K),o8,o9,o10,dP,fW]
theorem Oh {s:D}{r:Row}:(ws s r).1=r.1/\(ws s r).2.1=r.2.1:=by
 unfold ws
 split<;>exact⟨rfl,rfl⟩
theorem both (L:¬M = .once->w_ nl n M)(hn:1<=n)(h5:n<=5)(J:Dp n js rows)(e1:E 1)(R:Ru E n M rows aS fV i K B ad c hf lf rs g)(hK:K<250)(hh:h<n)(bU:(hf h).told.length<(rows h).length):
   ∃d eg c' pA j8 g',(rows h)[(hf h).told.length]? = some d/\dM [.ax (ad (0,0)),mD n M,.int h,d] g=some (.aq,g')/\i6 nl [mD n M,.tup js,aM (bx c) rs,.int h] g'=some (aM (bx c') j8,g')/\mC [aM (bx c') j8,.ax (ad (0,0))] g'=some (.bl true,g')/\Ru E n M rows aS fV i (K+1) B eg c' pA lf j8 g':=by
 obtain⟨d,hd⟩:∃d,(rows h)[(hf h).told.length]? = some d:=⟨_,Zs bU⟩
 have dk:=J.dk h hh d (ZZ hd)
 have Yw:d = .tup [.str "look"] \/ ∃v,d = .tup [.str "put",.int h,v]:=dk.imp id λ⟨v,e,_⟩=>⟨v,e⟩
 obtain⟨c',f,S,I',CY,o⟩:=JH (R.I h hh) hn hh hd dk R.cl R.cc
 obtain⟨eg,g',s1,W',y,S4⟩:=QP R.W R.bd hn hh h5 R.I (by omega) R.cl R.cc S dk o
 obtain⟨q,hr⟩:=R.rr h hh
 obtain⟨m,s,ss,st,Hg⟩:=prog L hn h5 hh (R.I h hh) (by omega) hd Yw R.cl R.cc CY o S4 S (J.at_ h hh) (by have:=J.ia h hh;omega) hr R.rl R.ro
 have S_:∀j,j<n->∃q,((rs.set h (j5 f m)).map (ws s))[j]? = some ((up hf h f j).told,(up hf h f j).reads,q):=λj l=>by
   rw[ZG]
   by_cases e:j=h
   . subst e
     rw[ZL (by rw[R.rl];exact l),dH]
     have:=Oh (s:=s) (r:=j5 f m)
     exact⟨(ws s (j5 f m)).2.2,congrArg some (adm this.1 (adm this.2 rfl))⟩
   . obtain⟨Oi,e'⟩:=R.rr j l
     rw[ZT λz=>e z.symm,e',bK e]
     have:=Oh (s:=s) (r:=((hf j).told,(hf j).reads,Oi))
     exact⟨(ws s ((hf j).told,(hf j).reads,Oi)).2.2,congrArg some (adm this.1 (adm this.2 rfl))⟩
 have I2:∀j,j<n->HI M n j (rows j) (K+1) (up hf h f j):=λj l=>by
   by_cases e:j=h
   . subst e;rw[dH];exact I'
   . rw[bK e];exact(R.I j l).mono
 have Ta:((rs.set h (j5 f m)).map (ws s)).length=n:=by simp[R.rl]
 refine⟨d,eg,c',up hf h f,_,g',hd,s1,st,?_,⟨W',S4,?_,CY,o,I2,Ta,S_,Hg,R.lk,R.ll,R.lo,R.ka.trans y⟩⟩
 . rw[<- y 0 0 (by omega)]
   refine QR W' h5 CY o Ta (λj l=>?_) λj l=>?_
   . obtain⟨q,e⟩:=S_ j l
     exact⟨_,e,rfl⟩
   . have Ij:=I2 j l
     refine⟨bH λx p=>?_,aaJ (d7 (k:=4) λx p=>?_) (by omega),by have:=Ij.tl;omega⟩
     . rcases Ij.tk x p with rfl|z
       . rfl
       . exact z.ok.1
     . rcases Ij.tk x p with rfl|z
       . simp[dep]
       . exact z.ok.2.1
 . have h1:=W'.at_ (5,1) (.inl ⟨by simp,.inr ⟨rfl,e1⟩⟩)
   have u:=R.W.at_ (5,1) (.inl ⟨by simp,.inr ⟨rfl,e1⟩⟩)
   rw[(R.ka.trans y) 5 1 (by omega)]at h1
   rw[R.ka 5 1 (by omega)]at u
   obtain⟨a,b,c,q1,q2⟩:=R.hd
   rw[q1]at u
   exact⟨a,b,c,by rw[h1,u];rfl,q2⟩
theorem JP (L:¬M = .once->w_ nl n M)(hn:1<=n)(h5:n<=5)(J:Dp n js rows)(e1:E 1)(R:Ru E n M rows aS fV i K B ad c hf lf rs g)(hK:K<=250)(hh:h<n)(o8 o10 dP fW:Option D):
   ∃eg c' pA j8 g' K' lj,Ht dM (i6 nl) mC (gj (aS (5,1)) (mD n M) js (aS (0,0)) (aM (bx c) rs) (aS (5,0)) K o8 (some (.int h)) o10 dP fW) g=some (.nx,gj (aS (5,1)) (mD n M) js (aS (0,0)) (aM (bx c') j8) (aS (5,0)) K' o8 (some (.int h)) o10 dP lj,g')/\K'<=250/\Ru E n M rows aS fV i K' B eg c' pA lf j8 g':=by
 have k:g[aS (0,0)]? = some (gJ ad n):=by rw[<- R.ka 0 0 (by omega)];exact R.W.at_ (0,0) (v0 (by omega))
 have o:bJ ((Zp n).map λ(h:Nat)=>D.ref (ad (6,h))) (h:Int)=some (.ref (ad (6,h))):=dC hh
 have t0:g[ad (6,h)]? = some (hf h).told:=R.W.at_ (6,h) (vh hh (by omega) (by omega))
 have e:bJ js (h:Int)=some (cL (rows h)):=cu (J.at_ h hh)
 have j:∀g,ak (cL (rows h)) (.int 1) g=some (.tup (rows h),g):=λg=>rfl
 have bl:bN [.ref (ad (6,h))] g=some (.int (hf h).told.length,g):=by simp[t0]
 unfold Ht
 by_cases hc:K<250/\(hf h).told.length<(rows h).length
 . obtain⟨q,f⟩:=hc
   obtain⟨d,eg,c',pA,j8,g',hd,q1,r,l,u⟩:=both L hn h5 J e1 R q hh f
   have p:bJ (rows h) (((hf h).told.length:Nat):Int)=some d:=cu hd
   rw[R.ka 0 0 (by omega)]at q1 l
   refine⟨eg,c',pA,j8,g',K+1,some (.ref (ad (6,h))),?_,by omega,u⟩
   generalize cL (rows h)=v at *
   generalize aM (bx c) rs=a at *
   generalize aM (bx c') j8=s at *
   generalize mD n M=m at *
   generalize i6 nl=y at *
   rw[aK (σ1:=gj (aS (5,1)) m js (aS (0,0)) a (aS (5,0)) K o8 (some (.int h)) o10 dP (some (.ref (ad (6,h))))) (g1:=g) (by simp[k,pZ,cw,o])]
   have b:(K:Int)<250:=by omega
   have YY:((hf h).told.length:Int)<(rows h).length:=by omega
   rw[eF]
   rw[show il (ay (ag oLt (ab 7) (ab 3))) (ay (ag oLt (au bN (aa (ab 12) af)) (au bN (aa (ag ak (ag ak (ab 2) (ab 9)) (fC (.int 1))) af)))) (gj (aS (5,1)) m js (aS (0,0)) a (aS (5,0)) K o8 (some (.int h)) o10 dP (some (.ref (ad (6,h))))) g=some (true,g) by simp[b,t0,e,j,f]]
   simp only[Zw,if_true]
   rw[aK (σ1:=gj (aS (5,1)) m js (aS (0,0)) a (aS (5,0)) (K+1) o8 (some (.int h)) o10 dP (some (.ref (ad (6,h))))) (g1:=g) (by simp)]
   unfold SY
   rw[aK (σ1:=gj (aS (5,1)) m js (aS (0,0)) a (aS (5,0)) (K+1) o8 (some (.int h)) o10 dP (some (.ref (ad (6,h))))) (g1:=g') (by
    generalize dM=px at *
    simp[t0,e,j,p,q1])]
   rw[aK (σ1:=gj (aS (5,1)) m js (aS (0,0)) s (aS (5,0)) (K+1) o8 (some (.int h)) o10 dP (some (.ref (ad (6,h))))) (g1:=g') (by simp[r])]
   generalize mC=x at *
   simp[l]
 . refine⟨ad,c,hf,rs,g,K,some (.ref (ad (6,h))),?_,hK,R⟩
   generalize cL (rows h)=v at *
   generalize aM (bx c) rs=a at *
   generalize mD n M=m at *
   rw[aK (σ1:=gj (aS (5,1)) m js (aS (0,0)) a (aS (5,0)) K o8 (some (.int h)) o10 dP (some (.ref (ad (6,h))))) (g1:=g) (by simp[k,pZ,cw,o])]
   rw[eF]
   rw[show il (ay (ag oLt (ab 7) (ab 3))) (ay (ag oLt (au bN (aa (ab 12) af)) (au bN (aa (ag ak (ag ak (ab 2) (ab 9)) (fC (.int 1))) af)))) (gj (aS (5,1)) m js (aS (0,0)) a (aS (5,0)) K o8 (some (.int h)) o10 dP (some (.ref (ad (6,h))))) g=some (false,g) by
    by_cases b:(K:Int)<250
    . have f:¬(hf h).told.length<(rows h).length:=λz=>hc ⟨by omega,z⟩
      simp[b,t0,e,j]
      omega
    . simp[b]]
   rfl
end
section
variable {E:Nat->Prop}{n h:Nat}{M:Mk}{js:List D}{rows:Nat->List D}{aS:CN->Nat}{fV lf:Nat->List D}{B:Int}{nl:(Fn×Fn)×(Fn×Fn)}{take pick:Fn}
theorem rC (L:¬M = .once->w_ nl n M)(hn:1<=n)(h5:n<=5)(J:Dp n js rows)(e1:E 1)(hh:h<n){i:Nat}{o8 o10:Option D}:∀(l:List D) (K:Nat) (ad:CN->Nat) (c:List D) (hf:Nat->HS) (rs:List Row) (g:G) (dP fW:Option D),Ru E n M rows aS fV i K B ad c hf lf rs g->K<=250 ->
  ∃eg c' pA j8 g' K' rD lj,forL (gN 11) (Ht dM (i6 nl) mC) l (gj (aS (5,1)) (mD n M) js (aS (0,0)) (aM (bx c) rs) (aS (5,0)) K o8 (some (.int h)) o10 dP fW) g=some (.nx,gj (aS (5,1)) (mD n M) js (aS (0,0)) (aM (bx c') j8) (aS (5,0)) K' o8 (some (.int h)) o10 rD lj,g')/\K'<=250/\Ru E n M rows aS fV i K' B eg c' pA lf j8 g'
 | [],K,ad,c,hf,rs,g,dP,fW,R,hK=>⟨ad,c,hf,rs,g,K,dP,fW,rfl,hK,R⟩
 |d::l,K,ad,c,hf,rs,g,dP,fW,R,hK=>by
  obtain⟨q,b,r,s,g1,j,lj,q1,k,u⟩:=JP L hn h5 J e1 R hK hh o8 o10 (some d) fW
  obtain⟨x,v,o,p,g2,e,rD,a,t1,m,R2⟩:=rC L hn h5 J e1 hh (o8:=o8) (o10:=o10) l j q b r s g1 (some d) lj u k
  refine⟨x,v,o,p,g2,e,rD,a,?_,m,R2⟩
  have f:gN 11 d (gj (aS (5,1)) (mD n M) js (aS (0,0)) (aM (bx c) rs) (aS (5,0)) K o8 (some (.int h)) o10 dP fW) g=some (gj (aS (5,1)) (mD n M) js (aS (0,0)) (aM (bx c) rs) (aS (5,0)) K o8 (some (.int h)) o10 (some d) fW,g):=rfl
  simp only[forL,f,Zw,q1,t1]
theorem tS (ht:eG take)(hp:g_ pick)(L:¬M = .once->w_ nl n M)(hn:1<=n)(h5:n<=5)(J:Dp n js rows)(Jo:i7 n js)(e1:E 1)(hB:B<2 ^ 37):∀(l:List D) (i K:Nat) (ad:CN->Nat) (c:List D) (hf:Nat->HS) (lf:Nat->List D) (rs:List Row) (g:G) (o8 o9 o10 dP fW:Option D),Ru E n M rows aS fV i K B ad c hf lf rs g->K<=250->i+l.length<=60 ->
  ∃σ' eg c' pA tR j8 g' K',forL (gN 8) (Hu (ao false 6 4 (lA take pick)) dM (i6 nl) mC) l (gj (aS (5,1)) (mD n M) js (aS (0,0)) (aM (bx c) rs) (aS (5,0)) K o8 o9 o10 dP fW) g=some (.nx,σ',g')/\Ru E n M rows aS fV (i+l.length) K' B eg c' pA tR j8 g'
 | [],i,K,ad,c,hf,lf,rs,g,o8,o9,o10,dP,fW,R,hK,hi=>⟨_,ad,c,hf,lf,rs,g,K,rfl,R⟩
 |d::l,i,K,ad,c,hf,lf,rs,g,o8,o9,o10,dP,fW,R,hK,hi=>by
  simp only[aas]at hi
  have hd:=R.hd
  rw[<- R.ka 5 1 (by omega)]at hd
  obtain⟨⟨q,g1⟩,e,x,W1,Hs,r,YA,lo1,Zm,hq⟩:=Oe e1 ht hp R.W R.bd hd (by omega) h5 Jo R.lk (by have:=R.ll;omega) λj hj=>by have:=(R.I j hj).tl;omega
  rw[R.ka 5 1 (by omega),R.ka 0 0 (by omega),R.ka 5 0 (by omega)]at e
  rw[R.ka 5 1 (by omega)]at r
  dsimp only at W1 Hs r hq
  have R1:Ru E n M rows aS fV (i+1) K B ad c hf x rs g1:=⟨W1,Hs,r.mono (by omega),R.cl,R.cc,R.I,R.rl,R.rr,R.ro,YA,by have:=R.ll;omega,λk y=>(lo1 k y).trans (R.lo k y),R.ka⟩
  have key:∃v p a h f g2 b s z o lj,Hu (ao false 6 4 (lA take pick)) dM (i6 nl) mC (gj (aS (5,1)) (mD n M) js (aS (0,0)) (aM (bx c) rs) (aS (5,0)) K (some d) o9 o10 dP fW) g=some (.nx,v,g2)/\v=gj (aS (5,1)) (mD n M) js (aS (0,0)) (aM (bx a) f) (aS (5,0)) b (some d) s z o lj/\b<=250/\Ru E n M rows aS fV (i+1) b B p a h x f g2:=by
   unfold Hu
   rcases hq with rfl|⟨j,k,rfl,hj,y⟩
   . refine⟨_,ad,c,hf,rs,g1,K,some .aq,some (.int 0),dP,fW,?_,rfl,hK,R1⟩
     generalize ao false 6 4 (lA take pick)=nx at *
     generalize aM (bx c) rs=u at *
     generalize mD n M=m at *
     rw[aK (σ1:=gj (aS (5,1)) m js (aS (0,0)) u (aS (5,0)) K (some d) (some .aq) (some (.int 0)) dP fW) (g1:=g1) (by simp[e])]
     have oR:L3.cE 0=true:=rfl
     rw[nV]
     simp only[dB,cD,b6,ck,ZK,ZJ,Zw,oR,if_true]
     rfl
   . have oR:L3.cE (k:Int)=true:=by unfold L3.cE;simp;omega
     obtain⟨p,a,h,f,g2,b,o,lj,t1,t2,R2⟩:=rC L hn h5 J e1 hj (o8:=some d) (o10:=some (.int k)) ((Zp (k:Int).toNat).map λ(k:Nat)=>D.int (0+k)) K ad c hf rs g1 dP fW R1 hK
     refine⟨_,p,a,h,f,g2,b,some (.int j),some (.int k),o,lj,?_,rfl,t2,R2⟩
     generalize ao false 6 4 (lA take pick)=nx at *
     generalize aM (bx c) rs=u at *
     generalize aM (bx a) f=R3 at *
     generalize mD n M=m at *
     rw[aK (σ1:=gj (aS (5,1)) m js (aS (0,0)) u (aS (5,0)) K (some d) (some (.int j)) (some (.int k)) dP fW) (g1:=g1) (by simp[e])]
     rw[nV]
     simp only[dB,cD,b6,ck,ZK,ZJ,Zw,oR,if_true]
     exact t1
  obtain⟨v,p,a,h,f,g2,b,s,z,o,lj,k1,rfl,k3,R2⟩:=key
  obtain⟨σ3,YB,c3,YC,xt,YD,g3,K3,t1,R3⟩:=tS ht hp L hn h5 J Jo e1 hB l (i+1) b p a h x f g2 (some d) s z o lj R2 k3 (by omega)
  refine⟨σ3,YB,c3,YC,xt,YD,g3,K3,?_,by rw[aas,show i+(l.length+1)=i+1+l.length by omega];exact R3⟩
  have sg:gN 8 d (gj (aS (5,1)) (mD n M) js (aS (0,0)) (aM (bx c) rs) (aS (5,0)) K o8 o9 o10 dP fW) g=some (gj (aS (5,1)) (mD n M) js (aS (0,0)) (aM (bx c) rs) (aS (5,0)) K (some d) o9 o10 dP fW,g):=rfl
  simp only[forL,sg,Zw,k1,t1]
end
theorem Bd.app {g X:G}(b:Bd g)(h:∀y∈X,aX (g.length+X.length) y=true):Bd (g++X):=by
 intro j c a
 rw[ZE]
 by_cases e:j<g.length
 . rw[Zx e]at a
   exact sm (by omega) (b j c a)
 . rw[ZS (by omega)]at a
   exact h c (ZZ a)
theorem FF {g:G}(c:Clean g):Bd g:=λi xs h=>c xs (ZZ h) _
section
variable {n hd:Nat}{M:Mk}{js:List D}{rows:Nat->List D}{g:G}{hl:List D}{B:Int}{nl:(Fn×Fn)×(Fn×Fn)}{take pick:Fn}
theorem YE (b:Bd g)(h5:n<=5):Bd (gB g n M):=by
 have k:(pz (g.length+5+n) n).length=3*n:=j6 (λ_=>rfl) n
 refine Bd.app b λy a=>?_
 have e:∀X:G,X=(gp (.int 0) 0 (zs n)::Di g.length n::([bq (bx (c0 n M)),Zo n (.int 0)]++Zo n [] ++ [Zo n .aq]++pz (g.length+5+n) n ++ [(Zp n).map λ(j:Nat)=>D.ax (g.length+5+n+3*j)]))->X.length=6+4*n:=λX e=>by rw[e];simp[k];omega
 rw[e _ rfl]
 have i:∀m,aX m (Zo n (D.int 0))=true:=λm=>iC λx c=>by rw[(aa5.mp c).2];rfl
 rcases ZI.mp a with rfl|a
 . have:b5 (g.length+(6+4*n)) (zs n)=true:=Bx.fA _ (QF n).1
   simp[gp,aX,b5,this]
 rcases ZI.mp a with rfl|a
 . have:aX (g.length+(6+4*n)) ((Zp n).map λ(h:Nat)=>D.ref (g.length+4+h))=true:=lz λj f=>by simp[b5];omega
   simp[Di,aX,b5,this]
   omega
 simp only[ZN,ZI,abH,or_false]at a
 rcases a with(((a|a)|a)|a)|a
 . rcases a with rfl|rfl
   . exact C9 λx c=>(rA x c).ok.1
   . exact i _
 . rw[(aa5.mp a).2];rfl
 . subst a
   exact iC λx c=>by rw[(aa5.mp c).2];rfl
 . obtain⟨j,f,a⟩:=af1.mp a
   have:=Z_.mp f
   simp only[ZI,abH,or_false]at a
   rcases a with rfl|rfl|rfl
   . simp[aU,aX,b5];omega
   . rfl
   . exact i _
 . subst a
   exact lz λj f=>by simp[b5];omega
noncomputable def aS (g:G)(n hd:Nat)(M:Mk):CN->Nat:=up (gK g.length n hd) (5,0) (gB g n M).length
noncomputable def fV (g:G)(hl:List D):Nat->List D:=up (Dh g hl) 0 []
theorem Om (h5:n<=5)(hg:g[hd]? = some hl):Wo (EX g.length hd) n (aS g n hd M) (c0 n M) (λ_=>H0) (fV g hl) (gB g n M ++ [[]]):=by
 have S:=(Vf (M:=M) h5 hg).new (x0:=(5,0)) (xs:=[])
 refine Sep.sub S (λx b=>?_) ?_
 . by_cases e:x=(5,0)
   . exact .inr e
   . exact .inl ⟨b,e⟩
 rintro⟨i,j⟩ b
 have a:∀i j,¬i=5->aS g n hd M (i,j)=gK g.length n hd (i,j):=λi j c=>by simp[aS,up,c]
 by_cases Oo:i=5
 . subst Oo
   by_cases hj:j=0
   . subst hj;simp[up,aP,fV]
   . simp[up,aP,fV,hj]
 . rw[bK (by simp[Oo])]
   match i with
   | 0=>simp[aP,a]
   | 1=>rfl
   | 2=>rfl
   | 3=>rfl
   | 4=>simp[aP,a]
   | 5=>exact absurd rfl Oo
   | 6=>rfl
   | 7=>simp[aP,a,H0,lcs]
   | 8=>rfl
   | 9=>rfl
   |i+10=>rfl
theorem JQ (hn:1<=n)(h5:n<=5)(cg:Clean g)(h:Hd g hd B):∃hl,g[hd]? = some hl/\Ru (EX g.length hd) n M rows (aS g n hd M) (fV g hl) 0 0 B (aS g n hd M) (c0 n M) (λ_=>H0) (fV g hl) (Zo n ([],[],[])) (gB g n M ++ [[]]):=by
 have o:=h.lt
 obtain⟨a,b,c,f,e⟩:=h
 refine⟨_,f,Om h5 f,Bd.new (YE (FF cg) h5) rfl,⟨a,b,c,?_,e.1,e.2.1,e.2.2.1,e.2.2.2.1,by have:=e.2.2.2.2;omega⟩,nO,rA,λj i=>⟨⟨by simp[H0],by simp[H0]⟩,by simp[H0],by simp[H0],by simp[H0],.inl ⟨rfl,NM hn,λ_=>⟨rfl,rfl⟩⟩⟩,by simp,λj i=>⟨[],by simp[i,H0,HS.reads]⟩,λr p=>?_,?_,?_,λk q=>rfl,eE.refl⟩
 . have l:aS g n hd M (5,1)=hd:=by simp[aS,up,gK]
   rw[l,Zx (by simp[gB];omega)]
   unfold gB
   rw[Zx o]
   exact f
 . rw[(aa5.mp p).2]
   exact⟨by simp,by simp⟩
 . intro x m
   simp[fV,up]at m
 . simp[fV,up]
theorem Oq (ht:eG take)(hp:g_ pick)(L:¬M = .once->w_ nl n M)(hn:1<=n)(h5:n<=5)(J:i7 n js)(cg:Clean g)(h:Hd g hd B)(hB:B<2 ^ 37):
   wp (ao false 13 4 (eQ j7 p4 (ao false 6 4 (lA take pick)) dM (i6 nl) mC) [.ref hd,mD n M,.tup js,.int 250] g) λq=>q.1 = .bl true/\Hd q.2 hd (B+200)/\Fr hd g q.2:=by
 obtain⟨rows,J2⟩:=J.rows
 obtain⟨hl,hg,o⟩:=JQ (M:=M) (rows:=rows) hn h5 cg h
 have bU:=h.lt
 have v:EX g.length hd 1:=.inl rfl
 obtain⟨s,eg,c',pA,tR,j8,f,K',t,R⟩:=tS ht hp L hn h5 J2 J v hB (ic 0 60) 0 0 _ _ _ _ _ _ none none none none none o (by omega) (by rw[d6];omega)
 have be:=FD (M:=M) (g:=g) h5
 have bn:=Fx (M:=M) (g:=gB g n M) (js:=.tup js) h5
 have YF:aS g n hd M (0,0)=g.length+1:=by simp[aS,up,gK,kG]
 have p:aS g n hd M (5,1)=hd:=by simp[aS,up,gK]
 have YG:aS g n hd M (5,0)=(gB g n M).length:=by simp[aS,up]
 rw[YF,p,YG]at t
 have low:∀i,i<g.length->i≠hd->f[i]? = g[i]?:=λi l cS=>by
   have:=R.W.at_ (5,i+2) (.inl ⟨by simp,.inr ⟨rfl,.inr ⟨by dsimp only;omega,by dsimp only;omega,by dsimp only;omega⟩⟩⟩)
   rw[R.ka 5 (i+2) (by omega)]at this
   have ea:aS g n hd M (5,i+2)=i:=by simp[aS,up,gK]
   rw[ea]at this
   rw[this]
   show some (tR (i+2))=_
   rw[R.lo (i+2) (by omega)]
   simp[fV,up,Dh,l]
 have k:=R.hd
 rw[p]at k
 have len:g.length<=f.length:=by
   have:g.length-1<f.length:=by
     by_cases e:g.length-1=hd
     . rw[e];exact k.lt
     . have:=low (g.length-1) (by omega) e
       rw[Zs (show g.length-1<g.length by omega)]at this
       exact(Zr.mp this).1
   omega
 have r:∀i,i<g.length->(f.take g.length)[i]? = f[i]?:=λi l=>aan l
 have tl:(f.take g.length).length=g.length:=by rw[aa2];omega
 have fr:Fr hd g (f.take g.length):=⟨tl,λj hj=>by
   by_cases Tc:j<g.length
   . rw[r j Tc,low j Tc hj]
   . rw[Z6 (by omega),Z6 (by omega)]⟩
 have hd2:Hd (f.take g.length) hd (B+200):=by
   obtain⟨a,b,c,h1,z,h3,u,h5,h6⟩:=k
   have:(ic 0 60).length=60:=d6
   exact⟨a,b,c,by rw[r hd bU];exact h1,z,h3,u,h5,by rw[this]at h6;omega⟩
 refine fI rfl ?_
 refine⟨(.rt (.bl true),s,f),?_,?_⟩
 . show eQ j7 p4 (ao false 6 4 (lA take pick)) dM (i6 nl) mC [some (.ref hd),some (mD n M),some (.tup js),some (.int 250),none,none,none,none,none,none,none,none,none] g=_
   unfold eQ
   rw[aK (σ1:=gj hd (mD n M) js (g.length+1) (aM (bx (c0 n M)) (Zo n ([],[],[]))) (gB g n M).length 0 none none none none none) (g1:=gB g n M ++ [[]]) (by
     generalize aM (bx (c0 n M)) (Zo n ([],[],[]))=o at *
     generalize gB g n M=gb at *
     generalize j7=bX at *
     generalize p4=gX at *
     generalize mD n M=m at *
     simp[be,bn,z4])]
   rw[aK (σ1:=s) (g1:=f)]
   . rfl
   . have x:L3.cE 60=true:=rfl
     rw[nV]
     simp only[dB,cD,iH,ck,Zw,x,if_true]
     exact t
 . dsimp only
   refine⟨rfl,?_,len,rfl,hd2,fr⟩
   rw[ZY]
   intro xs y
   have c2:=cg.fr fr hd2
   exact c2 xs y _
end
noncomputable def Hw (hand hands sr jobs run:Fn):FS:=aw (aC (au hand (aa (ab 0) (aa (ab 1) af))) (gN 2)) (aw (aC (au sr (aa (ab 2) (aa (au hands (aa (ab 2) af)) af))) (gN 3)) (bu (u5 (uY (au run (aa (ab 2) (aa (ab 3) (aa (au jobs (aa (ab 2) (aa (ab 3) (aa (fC (.int 4)) af)))) (aa (fC (.int 250)) af))))))) (aF (fC (.bl false))) aO))
noncomputable def Ot (hand hands sr jobs run:Fn):FS:=aw (gr (dB (aa (au ((fP pI nY)) (aa (fC (.int 1)) (aa (au ((fP kC iK)) (aa (fC (.int 5)) (aa (au bN (aa (ab 0) af)) af))) af))) af)) (gN 1) (Hw hand hands sr jobs run)) (aF (fC (.bl true)))
end Rm
namespace K36
open PySem PySem.Spec PyProof.Rows L2 L3 RI
noncomputable def rs (T:Nat->Fn):Str->Option Fn:=λy=>((qK 0 ds).lookup y).map λq=>T q.1
noncomputable def YH (T:Nat->Fn):FS:=aF (ag ak (ab 0) (ag bC (fC (.int 1)) (ug kF (ag ak (ab 0) (fC (.int 0))) (ab 1))))
noncomputable def YI (T:Nat->Fn):FS:=Bx.lp (T 0)
noncomputable def YJ (T:Nat->Fn):FS:=Bx.gG (T 0) (T 1)
noncomputable def YK (T:Nat->Fn):FS:=Bx.jU (T 2)
noncomputable def YL (T:Nat->Fn):FS:=Wd.eC (rs T)
noncomputable def YM (T:Nat->Fn):FS:=Rm.yN
noncomputable def YN (T:Nat->Fn):FS:=Wd.nI "renumbered" (T 1) (T 4) (T 7)
noncomputable def YO (T:Nat->Fn):FS:=Rm.GX (T 0)
noncomputable def YQ (T:Nat->Fn):FS:=Wd.nF
noncomputable def YR (T:Nat->Fn):FS:=Rm.NJ (T 5) (T 11)
noncomputable def Vh (T:Nat->Fn):FS:=Rm.G4 (T 6) (T 5) (T 11)
noncomputable def Vi (T:Nat->Fn):FS:=Rm.CM (T 0)
noncomputable def Vj (T:Nat->Fn):FS:=Rm.G_ (T 13) (T 14)
noncomputable def Vk (T:Nat->Fn):FS:=Rm.CO (T 6) (T 15)
noncomputable def Vl (T:Nat->Fn):FS:=Rm.CP (T 5) (T 9) (T 10)
noncomputable def Vm (T:Nat->Fn):FS:=Rm.Ha (T 3)
noncomputable def Vn (T:Nat->Fn):FS:=Rm.nA (T 17)
noncomputable def Vo (T:Nat->Fn):FS:=Rm.ux (T 0) (T 1) (T 19) (T 18)
noncomputable def Vp (T:Nat->Fn):FS:=Bx.nB (T 1) (T 20)
noncomputable def Vq (T:Nat->Fn):FS:=Bx.lq
noncomputable def Vr (T:Nat->Fn):FS:=Bx.qX
noncomputable def Vs (T:Nat->Fn):FS:=Rm.Ai (T 22)
noncomputable def Vt (T:Nat->Fn):FS:=Rm.Aj (T 23)
noncomputable def Vu (T:Nat->Fn):FS:=Rm.CD
noncomputable def Vw (T:Nat->Fn):FS:=Rm.rq (T 16) (T 1)
noncomputable def Vx (T:Nat->Fn):FS:=Rm.oq (T 1) (T 21)
noncomputable def FH (T:Nat->Fn):FS:=Rm.qd (T 27)
noncomputable def FJ (T:Nat->Fn):FS:=Rm.tv (T 25) (T 29) (T 12) (T 31) (T 28) (T 35) (T 33)
noncomputable def FK (T:Nat->Fn):FS:=Rm.pW (T 12) (T 30) (T 32)
noncomputable def Vy (T:Nat->Fn):FS:=Rm.qZ (T 2) (T 21)
noncomputable def Vz (T:Nat->Fn):FS:=Rm.lT
noncomputable def VA (T:Nat->Fn):FS:=Rm.jA
noncomputable def VB (T:Nat->Fn):FS:=Rm.jW (T 34)
noncomputable def VC (T:Nat->Fn):FS:=Rm.ot
noncomputable def VD (T:Nat->Fn):FS:=Rm.q_ (T 35)
noncomputable def VE (T:Nat->Fn):FS:=Rm.ou (T 3)
noncomputable def VF (T:Nat->Fn):FS:=Pd.n_
noncomputable def VG (T:Nat->Fn):FS:=Pd.qT
noncomputable def VH (T:Nat->Fn):FS:=Pd.uu (T 37)
noncomputable def VI (T:Nat->Fn):FS:=Wd.oo (T 37) (T 38)
noncomputable def VJ (T:Nat->Fn):FS:=Dw.nD (T 37) (T 39)
noncomputable def VM (T:Nat->Fn):FS:=Dw.qY (T 37) (T 40)
noncomputable def VN (T:Nat->Fn):FS:=Dw.jz (T 37) (T 38)
noncomputable def VO (T:Nat->Fn):FS:=Rm.rB (T 37) (T 38)
noncomputable def VP (T:Nat->Fn):FS:=Rm.Ho (T 45)
noncomputable def VQ (T:Nat->Fn):FS:=Rm.nK
noncomputable def VR (T:Nat->Fn):FS:=Rm.yS
noncomputable def VS (T:Nat->Fn):FS:=Rm.Hi
noncomputable def VT (T:Nat->Fn):FS:=Rm.rg (T 45) (T 46) (T 47)
noncomputable def VU (T:Nat->Fn):FS:=Rm.lA (T 37) (T 38)
noncomputable def VV (T:Nat->Fn):FS:=Rm.Hm
noncomputable def FL (T:Nat->Fn):FS:=Rm.eQ (T 44) (T 24) (T 49) (T 48) (T 26) (T 50)
noncomputable def FN (T:Nat->Fn):FS:=Rm.Ot (T 36) (T 42) (T 43) (T 41) (T 51)
noncomputable def tab:Nat->Nat->Fn
 | 0,_=>λ_ _=>none
 |k+1,0=>(ao false 2 2 (YH (tab k)))
 |k+1,1=>(ao false 1 1 (YI (tab k)))
 |k+1,2=>(ao false 1 1 (YJ (tab k)))
 |k+1,3=>(ao false 2 1 (YK (tab k)))
 |k+1,4=>(ao false 10 5 (YL (tab k)))
 |k+1,5=>(ao false 2 2 (YM (tab k)))
 |k+1,6=>(ao false 6 2 (YN (tab k)))
 |k+1,7=>(ao false 1 1 (YO (tab k)))
 |k+1,8=>(ao false 2 1 (YQ (tab k)))
 |k+1,9=>(ao false 5 5 (YR (tab k)))
 |k+1,10=>(ao false 7 5 (Vh (tab k)))
 |k+1,11=>(ao false 5 3 (Vi (tab k)))
 |k+1,12=>(ao false 5 5 (Vj (tab k)))
 |k+1,13=>(ao false 4 3 (Vk (tab k)))
 |k+1,14=>(ao false 6 5 (Vl (tab k)))
 |k+1,15=>(ao false 3 2 (Vm (tab k)))
 |k+1,16=>(ao false 1 1 (Vn (tab k)))
 |k+1,17=>(ao false 3 1 (Vo (tab k)))
 |k+1,18=>(ao false 3 1 (Vp (tab k)))
 |k+1,19=>(ao false 3 3 (Vq (tab k)))
 |k+1,20=>(ao false 1 1 (Vr (tab k)))
 |k+1,21=>(ao false 3 3 (Vs (tab k)))
 |k+1,22=>(ao false 4 3 (Vt (tab k)))
 |k+1,23=>(ao false 2 2 (Vu (tab k)))
 |k+1,24=>(ao false 2 2 (Vw (tab k)))
 |k+1,25=>(ao false 4 4 (Vx (tab k)))
 |k+1,26=>(ao false 4 4 (FH (tab k)))
 |k+1,27=>(ao false 12 5 (FJ (tab k)))
 |k+1,28=>(ao false 9 6 (FK (tab k)))
 |k+1,29=>(ao false 6 4 (Vy (tab k)))
 |k+1,30=>(ao false 2 2 (Vz (tab k)))
 |k+1,31=>(ao false 2 2 (VA (tab k)))
 |k+1,32=>(ao false 5 4 (VB (tab k)))
 |k+1,33=>(ao false 2 2 (VC (tab k)))
 |k+1,34=>(ao false 2 2 (VD (tab k)))
 |k+1,35=>(ao false 4 2 (VE (tab k)))
 |k+1,36=>(ao true 3 2 (VF (tab k)))
 |k+1,37=>(ao false 6 2 (VG (tab k)))
 |k+1,38=>(ao false 2 2 (VH (tab k)))
 |k+1,39=>(ao false 2 1 (VI (tab k)))
 |k+1,40=>(ao false 6 4 (VJ (tab k)))
 |k+1,41=>(ao false 6 3 (VM (tab k)))
 |k+1,42=>(ao false 1 1 (VN (tab k)))
 |k+1,43=>(ao false 4 2 (VO (tab k)))
 |k+1,44=>(ao true 4 1 (VP (tab k)))
 |k+1,45=>(ao true 1 1 (VQ (tab k)))
 |k+1,46=>(ao true 10 3 (VR (tab k)))
 |k+1,47=>(ao false 6 4 (VS (tab k)))
 |k+1,48=>(ao true 5 4 (VT (tab k)))
 |k+1,49=>(ao false 6 4 (VU (tab k)))
 |k+1,50=>(ao false 2 2 (VV (tab k)))
 |k+1,51=>(ao false 13 4 (FL (tab k)))
 |k+1,52=>(ao false 4 1 (FN (tab k)))
 |_+1,_=>λ_ _=>none
theorem rws (k:Nat):yt mo (tab k) (tab (k+1)) k 0 ds:=by
 repeat (first|exact .nil| (refine .cons ?_ ?_;· kernel_rfl))
theorem good:Good mo tab:=⟨λ_ _ _=>rfl,λk j d h=>by simpa using (rws k).get h,λd hd=>Cf (show yw ds=true by decide +kernel) d hd⟩
end K36
namespace K36
open PySem L3 L2 Pd RI Bx Dw Wd Rm
noncomputable abbrev eX:Fn:=ao false 6 2 qT
noncomputable abbrev ju:Fn:=ao false 2 2 (uu eX)
theorem iE (k:Nat):tab (k+2) 1=eH:=rfl
theorem tM (k:Nat):tab (k+3) 2=ox:=rfl
theorem oy (k:Nat):tab (k+4) 3=uv:=rfl
theorem pY (k:Nat):tab (k+2) 7=wQ:=rfl
theorem JR (k:Nat):tab (k+5) 41=ao false 6 3 (qY eX (ao false 6 4 (nD eX (ao false 2 1 (oo eX ju))))):=rfl
theorem Dq (k:Nat):tab (k+3) 42=ao false 1 1 (jz eX ju):=rfl
theorem JS (k:Nat):tab (k+3) 43=ao false 4 2 (rB eX ju):=rfl
theorem FP (k:Nat):tab (k+2) 44=j7:=rfl
theorem FQ (k:Nat):tab (k+6) 24=p4:=rfl
theorem JT (k:Nat):tab (k+3) 49=ao false 6 4 (lA eX ju):=rfl
theorem JU (k:Nat):tab (k+3) 48=dM:=rfl
theorem QV (k:Nat):tab (k+1) 50=mC:=rfl
noncomputable def eI (k:Nat):Fn:=ao false 6 2 (nI "renumbered" eH (ao false 10 5 (eC (rs (tab k)))) wQ)
theorem Hx (k:Nat):rs (tab (k+1)) "renumbered" = some (ao false 2 1 nF):=rfl
theorem uy (k:Nat){n:Nat}{M:Mk}(h5:n<=5):Fc (eI (k+1)) n M:=by
 have c:flat M.mv=true:=by cases M<;>rfl
 refine⟨fun {cs rest g} D e b a=>?_,fun {cs rest i g} D b f a he h=>?_⟩
 . exact JE (λg=>Rm.iE M h5 g) (λg=>Rm.pY M g) (Hx k) wK D c e b a
 . exact JF (λg=>Rm.iE M h5 g) (λg=>Rm.pY M g) (Hx k) wK D c b f a he h
theorem Hy (k:Nat):tab (k+7) 12=gI (eI (k+3),eI (k+2)):=rfl
theorem Ou (T:Nat->Fn):FJ T=tv (T 25) (T 29) (T 12) (T 31) (T 28) (T 35) (T 33):=rfl
theorem Ov (T:Nat->Fn):FK T=pW (T 12) (T 30) (T 32):=rfl
theorem Ow (T:Nat->Fn):FH T=qd (T 27):=rfl
theorem Ox (T:Nat->Fn):FL T=eQ (T 44) (T 24) (T 49) (T 48) (T 26) (T 50):=rfl
theorem Oy (k:Nat):tab (k+7) 25=NR:=rfl
theorem JV (k:Nat):tab (k+7) 29=Hf:=rfl
theorem Oz (k:Nat):tab (k+7) 31=Fd:=rfl
theorem OA (k:Nat):tab (k+7) 35=Ao:=rfl
theorem OB (k:Nat):tab (k+7) 33=Fe:=rfl
theorem OC (k:Nat):tab (k+7) 30=w9:=rfl
theorem OD (k:Nat):tab (k+7) 32=Ap:=rfl
theorem OE (k:Nat):tab (k+8) 28=NS (eI (k+3),eI (k+2)):=by
 show ao false 9 6 (FK (tab (k+7)))=_
 rw[Ov,Hy,OC,OD]
theorem QW (k:Nat):tab (k+9) 27=Se ((eI (k+4),eI (k+3)),(eI (k+3),eI (k+2))):=by
 show ao false 12 5 (FJ (tab (k+8)))=_
 rw[Ou,Oy (k+1),JV (k+1),Hy (k+1),Oz (k+1),OE k,OA (k+1),OB (k+1)]
theorem OF (k:Nat):tab (k+10) 26=i6 ((eI (k+4),eI (k+3)),(eI (k+3),eI (k+2))):=by
 show ao false 4 4 (FH (tab (k+9)))=_
 rw[Ow,QW k]
theorem OG (k:Nat):tab (k+11) 51=ao false 13 4 (eQ j7 p4 (ao false 6 4 (lA eX ju)) dM (i6 ((eI (k+4),eI (k+3)),(eI (k+3),eI (k+2)))) mC):=by
 show ao false 13 4 (FL (tab (k+10)))=_
 rw[Ox,FP (k+8),FQ (k+4),JT (k+7),JU (k+7),OF k,QV (k+9)]
theorem OH (T:Nat->Fn):FN T=Ot (T 36) (T 42) (T 43) (T 41) (T 51):=rfl
theorem JW (k:Nat):tab (k+1) 36=ao true 3 2 n_:=rfl
theorem iter {hand hands sr jobs run:Fn}(hH:qU hand)(hh:Wd.oh hands)(hm:Dk sr)(hj:Hr jobs)(hr:∀{n:Nat} {M:Mk} {js:List D} {g:G} {hd:Nat} {B:Int},1<=n->n<=5->i7 n js->Clean g->Hd g hd B->B<2 ^ 37->wp (run [.ref hd,mD n M,.tup js,.int 250] g) λq=>q.1 = .bl true/\Hd q.2 hd (B+200)/\Fr hd g q.2)
  {ns:List Int} {j:Nat} {o2 o3:Option D} {g:G} (YZ:j<=50) (cg:Clean g):wp (Hw hand hands sr jobs run [some (.lst (ns.map .int)),some (.int j),o2,o3] g) λr=>r.1 = .nx/\(∃p2 p3,r.2.1 = [some (.lst (ns.map .int)),some (.int j),p2,p3])/\Clean r.2.2:=by
 obtain⟨xs,z,h⟩:=hH ns j g (by omega)
 have c1:Clean (g ++ [xs]):=by
  obtain⟨a,b,c,h1,_⟩:=h
  have:xs = [.int a,.int b,.int c]:=by simpa using h1
  rw[this]
  exact Cw cg rfl
 generalize hp:g.length=p at *
 generalize g ++ [xs]=g1 at *
 obtain⟨n,g2,e2,n1,o,hd2,f2⟩:=hh p g1 0 (by omega) h
 have c2:=c1.fr f2 hd2
 obtain⟨⟨dm,g3⟩,e3,⟨M,v⟩,e,l⟩:=hm p n g2 _ (by omega) hd2
 dsimp only at v e l
 subst v
 have u:=c2.fr l e
 obtain⟨⟨dj,g4⟩,e4,js,i,J,f,f4⟩:=hj (n:=n) (M:=M) p g3 _ o (by omega) e u
 dsimp only at i f f4
 subst i
 have x:=u.fr f4 f
 obtain⟨⟨dr,g5⟩,e5,k,s,y⟩:=hr (M:=M) n1 o J x f (by omega)
 dsimp only at k s y
 subst k
 have c5:=x.fr y s
 refine⟨(.nx,[some (.lst (ns.map .int)),some (.int j),some (.ref p),some (mD n M)],g5),?_,rfl,⟨_,_,rfl⟩,c5⟩
 generalize mD n M=m at *
 unfold Hw
 simp[z,e2,e3,e4,e5]
theorem FR (ns:List Int)(hl:ns.length<=63):∃g',tab 60 52 [.lst (ns.map .int)] []=some (.bl true,g'):=by
 have key:wp (tab 60 52 [.lst (ns.map .int)] []) λq=>q.1 = .bl true:=by
  show wp (ao false 4 1 (FN (tab 59)) _ _) _
  rw[OH,JW 58,Dq 56,JS 56,JR 54,OG 48]
  refine fI rfl ?_
  obtain⟨a,l,p⟩:∃a:Int,a<=5 /\ ∀g:G,fP kC iK [.int 5,.int (ns.length:Int)] g=some (.int a,g):=⟨if(ns.length:Int)<5 then(ns.length:Int)else 5,by split<;>omega,λg=>by simp[fP,kC]⟩
  obtain⟨c,f,i,m⟩:∃c:Int,0<=c/\c<=5 /\ ∀g:G,fP pI nY [.int 1,.int a] g=some (.int c,g):=⟨if a>1 then a else 1,by split<;>omega,by split<;>omega,λg=>by simp[fP,pI]⟩
  unfold Ot
  simp[p,m]
  refine lS ?_
  simp[p,m]
  refine⟨by omega,by omega,nW (λj σ g=>(∃o o2 o3,σ = [some (.lst (ns.map .int)),o,o2,o3])/\Clean g) _ 0 _ _ ⟨⟨_,_,_,rfl⟩,λx r=>by simp at r⟩ ?_ ?_⟩
  . rintro j d σ g v ⟨⟨o,o2,o3,rfl⟩,k⟩
    obtain⟨pe,rfl⟩:=iB v
    have s:j<=50:=by omega
    have it:=iter (ns:=ns) (j:=j) (o2:=o2) (o3:=o3) (g:=g) Jv (CA eL (oe eL)) (JO eL (oe eL)) (Oa eL (N_ eL (Jz eL (oe eL)))) (fun {n M z g hd B} n1 b J k h u=>Oq (nl:=((eI (48+4),eI (48+3)),(eI (48+3),eI (48+2)))) eL (oe eL) (λ_=>⟨⟨uy 51 b,uy 50 b⟩,⟨uy 50 b,uy 49 b⟩⟩) n1 b J k h u) s k
    generalize Hw (ao true 3 2 n_) (ao false 1 1 (jz eX ju)) (ao false 4 2 (rB eX ju)) (ao false 6 3 (qY eX (ao false 6 4 (nD eX (ao false 2 1 (oo eX ju)))))) (ao false 13 4 (eQ j7 p4 (ao false 6 4 (lA eX ju)) dM (i6 ((eI (48+4),eI (48+3)),(eI (48+3),eI (48+2)))) mC))=LL at *
    simp
    refine wp_mono it ?_
    rintro⟨r1,σ1,g1⟩ ⟨l,⟨y,p3,f⟩,i⟩
    simp only at l f i
    subst l f
    exact⟨⟨_,_,_,rfl⟩,i⟩
  . rintro σ g _
    simp[b5]
 obtain⟨⟨d,g'⟩,e,rfl⟩:=key
 exact⟨g',e⟩
end K36
namespace K36
open PySem PySem.Spec PyProof.Rows L2 L3 RI
theorem walk {l:ab1}{q:ZW}{loose:List Str}{XP:(Str->Option Value)->Heap->Prop}{YP:World->Heap->Prop}{d:DefRec}{K:Params->ZD}(hn:l.most=some 63)(uW:d.params.defaults = [])(Cg:d.name = "law")
  (hY:∀(w:World) (h:Heap),YP w h->(K w.params).In h)
  (F:∀(w:World) (mg:Str->Option Value) (h:Heap),(K w.params).In h->h.Ns aal mg->At (K w.params) w mg mo):
  aeR q loose XP YP l.row.toRowW d [] (λf vs=>aeI f vs):=
 RI.Jq (i:=52) (R:=60) (x:="_law_script") hn ⟨rfl,by decide,by decide,rfl⟩ uW Cg hY F rfl rfl rfl good FR
theorem xD {K:ZD}{w:World}{mg:Str->Option Value}{da_NUMBERS:Addr}{dep_NUMBERS:_}{dt_NUMBERS_0:_}{db_NUMBERS_0:Addr}{dn_NUMBERS_0:_}{dsl_NUMBERS_0:Array (Option Value)}{du_NUMBERS_0_0:_}{dt_NUMBERS_1:_}{db_NUMBERS_1:Addr}{dn_NUMBERS_1:_}{dsl_NUMBERS_1:Array (Option Value)}{du_NUMBERS_1_0:_}{du_NUMBERS_1_1:_}{dt_NUMBERS_2:_}{db_NUMBERS_2:Addr}{dn_NUMBERS_2:_}{dsl_NUMBERS_2:Array (Option Value)}{du_NUMBERS_2_0:_}{du_NUMBERS_2_1:_}{du_NUMBERS_2_2:_}{dt_NUMBERS_3:_}{db_NUMBERS_3:Addr}{dn_NUMBERS_3:_}{dsl_NUMBERS_3:Array (Option Value)}{du_NUMBERS_3_0:_}{du_NUMBERS_3_1:_}{du_NUMBERS_3_2:_}{du_NUMBERS_3_3:_}{dt_NUMBERS_4:_}{db_NUMBERS_4:Addr}{dn_NUMBERS_4:_}{dsl_NUMBERS_4:Array (Option Value)}{du_NUMBERS_4_0:_}{du_NUMBERS_4_1:_}{du_NUMBERS_4_2:_}{du_NUMBERS_4_3:_}{du_NUMBERS_4_4:_}{dt_NUMBERS_5:_}{db_NUMBERS_5:Addr}{dn_NUMBERS_5:_}{dsl_NUMBERS_5:Array (Option Value)}{du_NUMBERS_5_0:_}{du_NUMBERS_5_1:_}
 (qn_NUMBERS:abm K aal "NUMBERS" = some (some (.ref da_NUMBERS)))
 (ql_NUMBERS:K.lookup da_NUMBERS=some ⟨.type "dict",none,.dict #[⟨abZ w.params "once",.str "once" dt_NUMBERS_0,.ref db_NUMBERS_0⟩,⟨abZ w.params "twice",.str "twice" dt_NUMBERS_1,.ref db_NUMBERS_1⟩,⟨abZ w.params "handed",.str "handed" dt_NUMBERS_2,.ref db_NUMBERS_2⟩,⟨abZ w.params "signs",.str "signs" dt_NUMBERS_3,.ref db_NUMBERS_3⟩,⟨abZ w.params "shared",.str "shared" dt_NUMBERS_4,.ref db_NUMBERS_4⟩,⟨abZ w.params "tables",.str "tables" dt_NUMBERS_5,.ref db_NUMBERS_5⟩] dep_NUMBERS,#[]⟩)
 (qv_NUMBERS_0:K.lookup db_NUMBERS_0=some ⟨.type "tuple",none,.seq #[(.str "hands" du_NUMBERS_0_0)] dn_NUMBERS_0,dsl_NUMBERS_0⟩)
 (qv_NUMBERS_1:K.lookup db_NUMBERS_1=some ⟨.type "tuple",none,.seq #[(.str "hands" du_NUMBERS_1_0),(.str "turn" du_NUMBERS_1_1)] dn_NUMBERS_1,dsl_NUMBERS_1⟩)
 (qv_NUMBERS_2:K.lookup db_NUMBERS_2=some ⟨.type "tuple",none,.seq #[(.str "hands" du_NUMBERS_2_0),(.str "turn" du_NUMBERS_2_1),(.str "moves" du_NUMBERS_2_2)] dn_NUMBERS_2,dsl_NUMBERS_2⟩)
 (qv_NUMBERS_3:K.lookup db_NUMBERS_3=some ⟨.type "tuple",none,.seq #[(.str "hands" du_NUMBERS_3_0),(.str "toggles" du_NUMBERS_3_1),(.str "shakes" du_NUMBERS_3_2),(.str "moves" du_NUMBERS_3_3)] dn_NUMBERS_3,dsl_NUMBERS_3⟩)
 (qv_NUMBERS_4:K.lookup db_NUMBERS_4=some ⟨.type "tuple",none,.seq #[(.str "hands" du_NUMBERS_4_0),(.str "places" du_NUMBERS_4_1),(.str "toggles" du_NUMBERS_4_2),(.str "shakes" du_NUMBERS_4_3),(.str "moves" du_NUMBERS_4_4)] dn_NUMBERS_4,dsl_NUMBERS_4⟩)
 (qv_NUMBERS_5:K.lookup db_NUMBERS_5=some ⟨.type "tuple",none,.seq #[(.str "hands" du_NUMBERS_5_0),(.str "boxes" du_NUMBERS_5_1)] dn_NUMBERS_5,dsl_NUMBERS_5⟩)
 (qs_NUMBERS:(da_NUMBERS == abi)=false):∃a,abm K aal "NUMBERS" = some (some (.ref a))/\iI w ⟨K,w,mg⟩ a kF:=⟨_,qn_NUMBERS,⟨⟨_,_,_,ql_NUMBERS,⟨rfl,rfl,rfl⟩,rfl,⟨_,_,_,rfl,⟨_,rfl⟩,rfl,⟨.ref db_NUMBERS_0,rfl,.inr ⟨_,_,_,_,_,rfl,by rfl,rfl,qv_NUMBERS_0,rfl,rfl,rfl,(show 1<=ZQ by decide),.cons ⟨_,rfl⟩ (.nil)⟩⟩,⟨_,_,_,rfl,⟨_,rfl⟩,rfl,⟨.ref db_NUMBERS_1,rfl,.inr ⟨_,_,_,_,_,rfl,by rfl,rfl,qv_NUMBERS_1,rfl,rfl,rfl,(show 2<=ZQ by decide),.cons ⟨_,rfl⟩ (.cons ⟨_,rfl⟩ (.nil))⟩⟩,⟨_,_,_,rfl,⟨_,rfl⟩,rfl,⟨.ref db_NUMBERS_2,rfl,.inr ⟨_,_,_,_,_,rfl,by rfl,rfl,qv_NUMBERS_2,rfl,rfl,rfl,(show 3<=ZQ by decide),.cons ⟨_,rfl⟩ (.cons ⟨_,rfl⟩ (.cons ⟨_,rfl⟩ (.nil)))⟩⟩,⟨_,_,_,rfl,⟨_,rfl⟩,rfl,⟨.ref db_NUMBERS_3,rfl,.inr ⟨_,_,_,_,_,rfl,by rfl,rfl,qv_NUMBERS_3,rfl,rfl,rfl,(show 4<=ZQ by decide),.cons ⟨_,rfl⟩ (.cons ⟨_,rfl⟩ (.cons ⟨_,rfl⟩ (.cons ⟨_,rfl⟩ (.nil))))⟩⟩,⟨_,_,_,rfl,⟨_,rfl⟩,rfl,⟨.ref db_NUMBERS_4,rfl,.inr ⟨_,_,_,_,_,rfl,by rfl,rfl,qv_NUMBERS_4,rfl,rfl,rfl,(show 5<=ZQ by decide),.cons ⟨_,rfl⟩ (.cons ⟨_,rfl⟩ (.cons ⟨_,rfl⟩ (.cons ⟨_,rfl⟩ (.cons ⟨_,rfl⟩ (.nil)))))⟩⟩,⟨_,_,_,rfl,⟨_,rfl⟩,rfl,⟨.ref db_NUMBERS_5,rfl,.inr ⟨_,_,_,_,_,rfl,by rfl,rfl,qv_NUMBERS_5,rfl,rfl,rfl,(show 2<=ZQ by decide),.cons ⟨_,rfl⟩ (.cons ⟨_,rfl⟩ (.nil))⟩⟩,rfl⟩⟩⟩⟩⟩⟩⟩,qs_NUMBERS⟩⟩
end K36
open PySem PySem.W PyProof.Rows
namespace PySem.W.Fast
theorem tw14135740612080271172:1=1:=rfl
theorem te2589153185953957926:1=1:=rfl
theorem tw9456330742264034878:1=1:=rfl
theorem tw14011068894765004002:1=1:=rfl
theorem tw1869743840923032490:1=1:=rfl
theorem tw3624616852872666283:1=1:=rfl
theorem tw3965818623387868481:1=1:=rfl
theorem tw545478374116252832:1=1:=rfl
theorem tw4153962987809531681:1=1:=rfl
theorem tw8751570158573751260:1=1:=rfl
theorem tw13079782703644340876:1=1:=rfl
theorem tw2582087671810002356:1=1:=rfl
theorem tw7161323060840938108:1=1:=rfl
theorem tw10596164409739237622:1=1:=rfl
theorem tw17520845401029948211:1=1:=rfl
theorem tw14282567097542300020:1=1:=rfl
theorem tw13122850466736054388:1=1:=rfl
theorem tw5465291130330355279:1=1:=rfl
theorem tw8874391532478278550:1=1:=rfl
theorem tw2938285583951992092:1=1:=rfl
theorem tw4165253347546723350:1=1:=rfl
theorem tw15450458859297429482:1=1:=rfl
theorem tw17715041940386188391:1=1:=rfl
theorem tw17489713664501999143:1=1:=rfl
theorem tw3604753812011881600:1=1:=rfl
theorem tw10348230537506715175:1=1:=rfl
theorem tw5653568574388977385:1=1:=rfl
theorem tw423850685492214023:1=1:=rfl
theorem tw18198569927979099085:1=1:=rfl
theorem tw7727626173333350858:1=1:=rfl
theorem tw3585722616220930240:1=1:=rfl
theorem tw10361278723733288051:1=1:=rfl
theorem tw5224309379535092201:1=1:=rfl
theorem tw6796624251266842054:1=1:=rfl
theorem tw17386950430655973897:1=1:=rfl
theorem tw16443920577668376132:1=1:=rfl
theorem tw14804992225679143016:1=1:=rfl
theorem tw4819627350333363949:1=1:=rfl
theorem tw6739726133320344560:1=1:=rfl
theorem tw10524448681017323749:1=1:=rfl
theorem tw13243605669214494358:1=1:=rfl
theorem tw16158224288437321414:1=1:=rfl
theorem tw15856312083282496418:1=1:=rfl
theorem tw5846326209197141659:1=1:=rfl
theorem tw1029744334327040620:1=1:=rfl
theorem tw5532297559373777273:1=1:=rfl
theorem tw18164703653941831101:1=1:=rfl
theorem tw8006816817094223783:1=1:=rfl
theorem tw1539477226025107289:1=1:=rfl
theorem tw7464878097963868858:1=1:=rfl
theorem tw9262128440587694490:1=1:=rfl
theorem tw10713866015919517292:1=1:=rfl
theorem tw4127054441448481549:1=1:=rfl
theorem tw14280910498207766020:1=1:=rfl
theorem tw11757912163368167100:1=1:=rfl
theorem tw2836811694954698556:1=1:=rfl
theorem tw12426410352693506555:1=1:=rfl
theorem tw18033052451203122811:1=1:=rfl
theorem tw5218151444600010345:1=1:=rfl
theorem tw13099766087316603280:1=1:=rfl
theorem tw954925714043184133:1=1:=rfl
theorem tw1101097186293230109:1=1:=rfl
theorem tw2069459420004953330:1=1:=rfl
theorem tw683162175908020176:1=1:=rfl
theorem tw8671788252643038098:1=1:=rfl
theorem tw7687971871724060612:1=1:=rfl
theorem tw6165784920895384238:1=1:=rfl
theorem tw7036793986116631298:1=1:=rfl
theorem tw12027232956493758712:1=1:=rfl
theorem tw15397923809529654329:1=1:=rfl
theorem tw12036425754280992334:1=1:=rfl
theorem tw5204951456606186335:1=1:=rfl
theorem tw10023272192262123453:1=1:=rfl
theorem tw8194033742599613004:1=1:=rfl
theorem tw13760750113862222876:1=1:=rfl
theorem tw3887207864821702393:1=1:=rfl
theorem tw10643972329751006307:1=1:=rfl
theorem tw16636545610717296811:1=1:=rfl
theorem tw5058492275694679850:1=1:=rfl
theorem tw17394956302143459019:1=1:=rfl
theorem tw9788364660986134003:1=1:=rfl
theorem tw8494317053576565104:1=1:=rfl
theorem tw9176262901124094260:1=1:=rfl
theorem tw14638479423585202152:1=1:=rfl
theorem tw16663398892907630916:1=1:=rfl
theorem tw15496912675945324862:1=1:=rfl
theorem tw15662881392681290703:1=1:=rfl
theorem tw14317164332911437733:1=1:=rfl
theorem tw16669963511454090865:1=1:=rfl
theorem tw499767360736430470:1=1:=rfl
theorem tw5036596808340397924:1=1:=rfl
theorem tw12212574726855666223:1=1:=rfl
theorem tw935583478829791510:1=1:=rfl
theorem tw9973449667340902930:1=1:=rfl
theorem tw8631763877682475520:1=1:=rfl
theorem tw17561457825720378427:1=1:=rfl
theorem tw9138059469262289907:1=1:=rfl
theorem tw6341079873561951983:1=1:=rfl
theorem tw13879432738729368172:1=1:=rfl
theorem tw13778831025897508788:1=1:=rfl
theorem tw9259937360047686814:1=1:=rfl
theorem tw16567535979597748652:1=1:=rfl
theorem tw15935364851830340760:1=1:=rfl
theorem tw10297517067868036770:1=1:=rfl
theorem tw8919237237664211064:1=1:=rfl
theorem tw4083638931959358297:1=1:=rfl
theorem tw5172673020983861020:1=1:=rfl
theorem tw16904095058572948973:1=1:=rfl
theorem tw10168073993418444198:1=1:=rfl
theorem tw10288834911397915708:1=1:=rfl
theorem tw15335620426869772813:1=1:=rfl
theorem tw3655418595480708440:1=1:=rfl
theorem tw10444736486825710622:1=1:=rfl
theorem tw907673632818177348:1=1:=rfl
theorem tw17985867556689002419:1=1:=rfl
theorem tw8553037785250390043:1=1:=rfl
theorem tw15595183779523116441:1=1:=rfl
theorem tw17561260738999990781:1=1:=rfl
theorem tw17931408959091864781:1=1:=rfl
theorem tw10283099959784102584:1=1:=rfl
theorem tw1604195039247173660:1=1:=rfl
theorem tw9138468596786526107:1=1:=rfl
theorem tw18111360132275759183:1=1:=rfl
theorem tw13308956372218733889:1=1:=rfl
theorem tw12990085673630523375:1=1:=rfl
theorem tw2988709852758436130:1=1:=rfl
theorem tw887259625322523034:1=1:=rfl
theorem tw13030969883901970740:1=1:=rfl
theorem tw613564283295983082:1=1:=rfl
theorem tw5897256332192736723:1=1:=rfl
theorem tw6420863206233063894:1=1:=rfl
theorem tw667711229366530085:1=1:=rfl
theorem tw8217992620879255325:1=1:=rfl
theorem tw18256648776710943655:1=1:=rfl
theorem tw1542109671370969135:1=1:=rfl
theorem tw8110408290779879585:1=1:=rfl
theorem tw13489926595222095032:1=1:=rfl
theorem tw18310871551142002797:1=1:=rfl
theorem tw17396200533659910467:1=1:=rfl
theorem tw15026775584311486453:1=1:=rfl
theorem tw17304092745360232986:1=1:=rfl
theorem tw3711233354707073627:1=1:=rfl
theorem tw14164506771702172046:1=1:=rfl
theorem tw18313875964691166480:1=1:=rfl
theorem tw1361343015566839723:1=1:=rfl
theorem tw1865454199636631833:1=1:=rfl
theorem tw10055404218006630170:1=1:=rfl
theorem tw4709587439004965475:1=1:=rfl
theorem tw8807741399544473435:1=1:=rfl
theorem tw5302232545787901926:1=1:=rfl
theorem tw7895095799163033900:1=1:=rfl
theorem tw16005696979144123600:1=1:=rfl
theorem tw2354300209931458866:1=1:=rfl
theorem tw16498698738925647854:1=1:=rfl
theorem tw12314600693869043884:1=1:=rfl
theorem tw15856521319628542538:1=1:=rfl
theorem tw13566931067352115660:1=1:=rfl
theorem tw10767424096913410654:1=1:=rfl
theorem tw5205589009227770639:1=1:=rfl
theorem tw13418388624105432702:1=1:=rfl
theorem tw259331320150710723:1=1:=rfl
theorem tw10089084123603282179:1=1:=rfl
theorem tw9521204546874116614:1=1:=rfl
theorem tw17173704161904269478:1=1:=rfl
theorem tw2514063317858589145:1=1:=rfl
theorem tw12174503276834701709:1=1:=rfl
theorem tw1775208807698348229:1=1:=rfl
theorem tw13150429980767382327:1=1:=rfl
theorem tw17903285979977100292:1=1:=rfl
theorem tw10530616551629912478:1=1:=rfl
theorem tw153856431247764807:1=1:=rfl
theorem tw6557884561224090486:1=1:=rfl
theorem tw14063523981741137095:1=1:=rfl
theorem tw533703849643580952:1=1:=rfl
theorem tw182685431161937485:1=1:=rfl
theorem tw4532287487837495715:1=1:=rfl
theorem tw9723172375942767675:1=1:=rfl
theorem tw8192729846013167814:1=1:=rfl
theorem tw2246446985257113524:1=1:=rfl
theorem tw2305611934583405539:1=1:=rfl
theorem tw12414527453596195988:1=1:=rfl
theorem tw14447362909623375982:1=1:=rfl
theorem tw12246318948071824318:1=1:=rfl
theorem tw2183500165060637574:1=1:=rfl
theorem tw10169845907027747561:1=1:=rfl
theorem tw10560254422655792055:1=1:=rfl
theorem tw7051686113382279090:1=1:=rfl
theorem tw1686823839882684004:1=1:=rfl
theorem tw10041566584072568884:1=1:=rfl
theorem tw5901573798455746363:1=1:=rfl
theorem tw7961266712119822037:1=1:=rfl
theorem tw14297748921627749735:1=1:=rfl
theorem tw3708490602051322930:1=1:=rfl
theorem tw15084135588325297233:1=1:=rfl
theorem tw5822058968695669553:1=1:=rfl
theorem tw9689547024563225864:1=1:=rfl
theorem tw3340473802535063375:1=1:=rfl
theorem tw10127267016040140485:1=1:=rfl
theorem tw11241015163037065778:1=1:=rfl
theorem tw3249823056266527897:1=1:=rfl
theorem tw15482972510873572535:1=1:=rfl
theorem tw17639443416586705595:1=1:=rfl
theorem tw6744889223716510301:1=1:=rfl
theorem tw12508985897415299426:1=1:=rfl
theorem tw15913381835406585632:1=1:=rfl
theorem tw14663755227803335174:1=1:=rfl
theorem tw11490690783979910809:1=1:=rfl
theorem tw18021005710320611913:1=1:=rfl
theorem tw16304835026075545277:1=1:=rfl
theorem tw10093492702472617136:1=1:=rfl
theorem tw9668923567972916703:1=1:=rfl
theorem tw13341405413254592912:1=1:=rfl
theorem tw4335590678641947678:1=1:=rfl
theorem tw2841311362846504396:1=1:=rfl
theorem tw16327382229689546811:1=1:=rfl
theorem tw1815631450846019874:1=1:=rfl
theorem tw10829309645386483968:1=1:=rfl
theorem tw7681657496740420409:1=1:=rfl
theorem tw12670400650512883623:1=1:=rfl
theorem tw3657009908483083776:1=1:=rfl
theorem tw1569020512264345156:1=1:=rfl
theorem tw17019928225588695778:1=1:=rfl
theorem tw10906300870243651640:1=1:=rfl
theorem tw10075725929406512189:1=1:=rfl
theorem tw17839671863659062234:1=1:=rfl
theorem tw5479306649247046536:1=1:=rfl
theorem tw2313417704068591308:1=1:=rfl
theorem tw2892526155948016690:1=1:=rfl
theorem tw3963674689857941955:1=1:=rfl
theorem tw16563235056929237081:1=1:=rfl
theorem tw7077069237416071717:1=1:=rfl
theorem tw11766830302440557568:1=1:=rfl
theorem tw16904258977338193267:1=1:=rfl
theorem tw776069607968637015:1=1:=rfl
theorem tw17228317370951994082:1=1:=rfl
theorem tw8662187844345856848:1=1:=rfl
theorem tw13879842914845020877:1=1:=rfl
theorem tw1403560300683308610:1=1:=rfl
theorem tw9865951866751491096:1=1:=rfl
theorem tw13439827038664426171:1=1:=rfl
theorem tw1534278858583451259:1=1:=rfl
theorem tw6661964771921227629:1=1:=rfl
theorem tw4600143977704365413:1=1:=rfl
theorem tw17851922196990123877:1=1:=rfl
theorem tw8846917063687084667:1=1:=rfl
theorem tw14385016422513570038:1=1:=rfl
theorem tw16399400892572467256:1=1:=rfl
theorem tw6941942116058475656:1=1:=rfl
theorem tw5466126801640596218:1=1:=rfl
theorem tw6119925142323464258:1=1:=rfl
theorem tw9328135944374707733:1=1:=rfl
theorem tw10874580570994872063:1=1:=rfl
theorem tw18010004104169885778:1=1:=rfl
theorem tw2931390664788833526:1=1:=rfl
theorem tw13400177832504826300:1=1:=rfl
theorem tw15915762428857183738:1=1:=rfl
theorem tw6717556568851964156:1=1:=rfl
theorem tw9584955215312432974:1=1:=rfl
theorem tw2787015643854015352:1=1:=rfl
theorem tw10403682529050007080:1=1:=rfl
theorem tw15543800605412126183:1=1:=rfl
theorem tw13083570546278568288:1=1:=rfl
theorem tw877697388368752787:1=1:=rfl
theorem tw13714250632329223454:1=1:=rfl
theorem tw9879778523634526919:1=1:=rfl
theorem tw9871448045378223259:1=1:=rfl
theorem tw3543539076441724940:1=1:=rfl
theorem tw7172910340484993564:1=1:=rfl
theorem tw13679063515722541937:1=1:=rfl
theorem tw15699722618086445144:1=1:=rfl
theorem tw12504185508802101725:1=1:=rfl
theorem tw15150668263897038301:1=1:=rfl
theorem tw9353030183619631707:1=1:=rfl
theorem tw3835041379878042696:1=1:=rfl
theorem tw8711124863719711642:1=1:=rfl
theorem tw899492854770984657:1=1:=rfl
theorem tw10120688248231645315:1=1:=rfl
theorem tw9542899234645033393:1=1:=rfl
theorem tw2496759738337519777:1=1:=rfl
theorem tw4608318220060577094:1=1:=rfl
theorem tw12595572422927702158:1=1:=rfl
theorem tw10038813774655992894:1=1:=rfl
theorem tw18028129470467387687:1=1:=rfl
theorem tw12516126692421869403:1=1:=rfl
theorem tw15856139661896551317:1=1:=rfl
theorem tw54850557257398945:1=1:=rfl
theorem tw5123737847066813562:1=1:=rfl
theorem tw11085026148509182397:1=1:=rfl
theorem tw1102865061695367062:1=1:=rfl
theorem tw14044666251853608328:1=1:=rfl
theorem tw12957062164477394561:1=1:=rfl
theorem tw17408692679178312251:1=1:=rfl
theorem tw12136077229773217411:1=1:=rfl
theorem tw3547173020715736948:1=1:=rfl
theorem tw13659388432299490700:1=1:=rfl
theorem tw3254793434744008000:1=1:=rfl
theorem tw9210360325078021543:1=1:=rfl
theorem tw12421325088753160769:1=1:=rfl
theorem tw8008587726202848872:1=1:=rfl
theorem tw13592627990118955958:1=1:=rfl
theorem tw6948746065492304946:1=1:=rfl
theorem tw3999739091006872212:1=1:=rfl
theorem tw10860791284553469703:1=1:=rfl
theorem tw14661732864086937380:1=1:=rfl
theorem tw17043824539532738489:1=1:=rfl
theorem tw17897502249610116422:1=1:=rfl
theorem tw1175803097878737347:1=1:=rfl
theorem tw15238694369525001136:1=1:=rfl
theorem tw1714987833269469491:1=1:=rfl
theorem tw9361539748147004802:1=1:=rfl
theorem tw3665608077092191309:1=1:=rfl
theorem tw16929036392158017708:1=1:=rfl
theorem tw13055782197417097440:1=1:=rfl
theorem tw7541221945543903475:1=1:=rfl
theorem tw8059829986785190506:1=1:=rfl
theorem tw6243378460507844592:1=1:=rfl
theorem tw4930053219068680526:1=1:=rfl
theorem tw3167635251153631609:1=1:=rfl
theorem tw10334968153880779477:1=1:=rfl
theorem tw2967770911555701527:1=1:=rfl
theorem tw16107890290703585463:1=1:=rfl
theorem tw15607830919242876502:1=1:=rfl
theorem tw9814563109412187582:1=1:=rfl
theorem tw15519185244500829492:1=1:=rfl
theorem tw8212701144119486118:1=1:=rfl
theorem tw16870936444678790342:1=1:=rfl
theorem tw1844305304529015739:1=1:=rfl
theorem tw10127344239982089292:1=1:=rfl
theorem tw599947402422368404:1=1:=rfl
theorem tw18026364841754810259:1=1:=rfl
theorem tw464936103735064919:1=1:=rfl
theorem tw15821550213272184539:1=1:=rfl
theorem tw11030966307660076121:1=1:=rfl
theorem tw17397475721055122128:1=1:=rfl
theorem tw13290703842353430218:1=1:=rfl
theorem tw14144657648768643603:1=1:=rfl
theorem tw12792332628209554447:1=1:=rfl
theorem tw17257486439460269904:1=1:=rfl
theorem tw1463454139725729959:1=1:=rfl
theorem tw14588313989456528462:1=1:=rfl
theorem tw11310563482887911173:1=1:=rfl
theorem tw11700200699890548813:1=1:=rfl
theorem tw5496616842439526022:1=1:=rfl
theorem tw2477663364655286087:1=1:=rfl
theorem tw13412201571482393418:1=1:=rfl
theorem tw7156986437615256973:1=1:=rfl
theorem tw8955014781751877976:1=1:=rfl
theorem tw2959575265633102002:1=1:=rfl
theorem tw4910366088461859380:1=1:=rfl
theorem tw1005425682481363982:1=1:=rfl
theorem tw534207642759720464:1=1:=rfl
theorem tw10188152096807811121:1=1:=rfl
theorem tw17760580865838078439:1=1:=rfl
theorem tw17013101354140610219:1=1:=rfl
theorem tw10115537386296080907:1=1:=rfl
theorem tw5598200219693094938:1=1:=rfl
theorem tw15716463489629943331:1=1:=rfl
theorem tw9011628347938845418:1=1:=rfl
theorem tw3903070183643796306:1=1:=rfl
theorem tw13827276647430325946:1=1:=rfl
theorem tw8265289680637084558:1=1:=rfl
theorem tw12009096336897137552:1=1:=rfl
theorem tw3313373616637574797:1=1:=rfl
theorem tw10688551181786302957:1=1:=rfl
theorem tw8607864583784471206:1=1:=rfl
theorem tw8636184331258736797:1=1:=rfl
theorem tw15079905530374354253:1=1:=rfl
theorem tw576116681411218306:1=1:=rfl
theorem tw7268585460699061373:1=1:=rfl
theorem tw11158906843257224096:1=1:=rfl
theorem tw15251293460190246492:1=1:=rfl
theorem tw5542572927375141724:1=1:=rfl
theorem tw4568748401808353830:1=1:=rfl
theorem tw13744690826375265116:1=1:=rfl
theorem tw13082609114880651106:1=1:=rfl
theorem tw17510118547470017347:1=1:=rfl
theorem tw16744474644399329831:1=1:=rfl
theorem tw2388199462062680370:1=1:=rfl
theorem tw2512335113504055234:1=1:=rfl
theorem tw3120330186477898462:1=1:=rfl
theorem tw4857071714519332235:1=1:=rfl
theorem tw1614424906836158276:1=1:=rfl
theorem tw4938981571375371627:1=1:=rfl
theorem tw10168419920474554272:1=1:=rfl
theorem tw4988314877130001229:1=1:=rfl
theorem tw264576291151533479:1=1:=rfl
theorem tw6684734882894539874:1=1:=rfl
theorem tw7931144363193171464:1=1:=rfl
theorem tw8377803426051842728:1=1:=rfl
theorem tw12302502068044840866:1=1:=rfl
theorem tw11120131153585725482:1=1:=rfl
theorem tw7822446356858765515:1=1:=rfl
end PySem.W.Fast
set_option maxRecDepth 100000 in
set_option maxHeartbeats 0 in
theorem PySem.Challenge.cw_wholeglance_k36_whole_plain_run_of_looks_holds : PySem.Challenge.rw_wholeglance_k36_whole_plain_run_of_looks.Holds := by
  w_on; o_law; k_head; (case hw => w_witness2)
  k_fill
  refine K36.walk (l := PySem.Challenge.rw_wholeglance_k36_whole_plain_run_of_looks) rfl rfl rfl (fun w h Y => by first | exact PySem.W.kIn_of Y | exact PySem.W.km_in_of Y) ?F
  case F =>
    intro w mg h KX G
    refine' ⟨_, _, (RI.aW.cons ?_ ?_ ?_ ?_ (RI.i_ (fun _ _ => rfl))
    (RI.aW.cons ?_ ?_ ?_ ?_ (RI.ko (fun _ => rfl))
    (RI.aW.cons ?_ ?_ ?_ ?_ (RI.ko (fun _ => rfl))
    (RI.aW.cons ?_ ?_ ?_ ?_ (RI.ko (fun _ => rfl))
    (RI.aW.cons ?_ ?_ ?_ ?_ (RI.yu (fun _ _ _ _ _ => rfl))
    (RI.aW.cons ?_ ?_ ?_ ?_ (RI.i_ (fun _ _ => rfl))
    (RI.aW.cons ?_ ?_ ?_ ?_ (RI.i_ (fun _ _ => rfl))
    (RI.aW.cons ?_ ?_ ?_ ?_ (RI.ko (fun _ => rfl))
    (RI.aW.cons ?_ ?_ ?_ ?_ (RI.ko (fun _ => rfl))
    (RI.aW.cons ?_ ?_ ?_ ?_ (RI.yu (fun _ _ _ _ _ => rfl))
    (RI.aW.cons ?_ ?_ ?_ ?_ (RI.yu (fun _ _ _ _ _ => rfl))
    (RI.aW.cons ?_ ?_ ?_ ?_ (RI.v3 (fun _ _ _ => rfl))
    (RI.aW.cons ?_ ?_ ?_ ?_ (RI.yu (fun _ _ _ _ _ => rfl))
    (RI.aW.cons ?_ ?_ ?_ ?_ (RI.v3 (fun _ _ _ => rfl))
    (RI.aW.cons ?_ ?_ ?_ ?_ (RI.yu (fun _ _ _ _ _ => rfl))
    (RI.aW.cons ?_ ?_ ?_ ?_ (RI.i_ (fun _ _ => rfl))
    (RI.aW.cons ?_ ?_ ?_ ?_ (RI.ko (fun _ => rfl))
    (RI.aW.cons ?_ ?_ ?_ ?_ (RI.ko (fun _ => rfl))
    (RI.aW.cons ?_ ?_ ?_ ?_ (RI.ko (fun _ => rfl))
    (RI.aW.cons ?_ ?_ ?_ ?_ (RI.v3 (fun _ _ _ => rfl))
    (RI.aW.cons ?_ ?_ ?_ ?_ (RI.ko (fun _ => rfl))
    (RI.aW.cons ?_ ?_ ?_ ?_ (RI.v3 (fun _ _ _ => rfl))
    (RI.aW.cons ?_ ?_ ?_ ?_ (RI.v3 (fun _ _ _ => rfl))
    (RI.aW.cons ?_ ?_ ?_ ?_ (RI.i_ (fun _ _ => rfl))
    (RI.aW.cons ?_ ?_ ?_ ?_ (RI.i_ (fun _ _ => rfl))
    (RI.aW.cons ?_ ?_ ?_ ?_ (RI.qL (fun _ _ _ _ => rfl))
    (RI.aW.cons ?_ ?_ ?_ ?_ (RI.qL (fun _ _ _ _ => rfl))
    (RI.aW.cons ?_ ?_ ?_ ?_ (RI.yu (fun _ _ _ _ _ => rfl))
    (RI.aW.cons ?_ ?_ ?_ ?_ (RI.XC (fun _ _ _ _ _ _ => rfl))
    (RI.aW.cons ?_ ?_ ?_ ?_ (RI.qL (fun _ _ _ _ => rfl))
    (RI.aW.cons ?_ ?_ ?_ ?_ (RI.i_ (fun _ _ => rfl))
    (RI.aW.cons ?_ ?_ ?_ ?_ (RI.i_ (fun _ _ => rfl))
    (RI.aW.cons ?_ ?_ ?_ ?_ (RI.qL (fun _ _ _ _ => rfl))
    (RI.aW.cons ?_ ?_ ?_ ?_ (RI.i_ (fun _ _ => rfl))
    (RI.aW.cons ?_ ?_ ?_ ?_ (RI.i_ (fun _ _ => rfl))
    (RI.aW.cons ?_ ?_ ?_ ?_ (RI.i_ (fun _ _ => rfl))
    (RI.aW.cons ?_ ?_ ?_ ?_ (RI.i_ (fun _ _ => rfl))
    (RI.aW.cons ?_ ?_ ?_ ?_ (RI.i_ (fun _ _ => rfl))
    (RI.aW.cons ?_ ?_ ?_ ?_ (RI.i_ (fun _ _ => rfl))
    (RI.aW.cons ?_ ?_ ?_ ?_ (RI.ko (fun _ => rfl))
    (RI.aW.cons ?_ ?_ ?_ ?_ (RI.qL (fun _ _ _ _ => rfl))
    (RI.aW.cons ?_ ?_ ?_ ?_ (RI.v3 (fun _ _ _ => rfl))
    (RI.aW.cons ?_ ?_ ?_ ?_ (RI.ko (fun _ => rfl))
    (RI.aW.cons ?_ ?_ ?_ ?_ (RI.i_ (fun _ _ => rfl))
    (RI.aW.cons ?_ ?_ ?_ ?_ (RI.ko (fun _ => rfl))
    (RI.aW.cons ?_ ?_ ?_ ?_ (RI.ko (fun _ => rfl))
    (RI.aW.cons ?_ ?_ ?_ ?_ (RI.v3 (fun _ _ _ => rfl))
    (RI.aW.cons ?_ ?_ ?_ ?_ (RI.qL (fun _ _ _ _ => rfl))
    (RI.aW.cons ?_ ?_ ?_ ?_ (RI.qL (fun _ _ _ _ => rfl))
    (RI.aW.cons ?_ ?_ ?_ ?_ (RI.qL (fun _ _ _ _ => rfl))
    (RI.aW.cons ?_ ?_ ?_ ?_ (RI.i_ (fun _ _ => rfl))
    (RI.aW.cons ?_ ?_ ?_ ?_ (RI.qL (fun _ _ _ _ => rfl))
    (RI.aW.cons ?_ ?_ ?_ ?_ (RI.ko (fun _ => rfl))
    RI.aW.nil))))))))))))))))))))))))))))))))))))))))))))))))))))),
    (RI.bc ?z_len (RI.bc ?z_max (RI.bc ?z_min (RI.bc ?z_int (RI.bc ?z_tuple (RI.bc ?z_sorted (RI.bc ?z_dict (RI.bc ?z_range (RI.bc ?z_enumerate RI.bn))))))))),
    RI.RM, (RI.cc (K36.xD ?qn_NUMBERS ?ql_NUMBERS ?qv_NUMBERS_0 ?qv_NUMBERS_1 ?qv_NUMBERS_2 ?qv_NUMBERS_3 ?qv_NUMBERS_4 ?qv_NUMBERS_5 ?qs_NUMBERS) RI.RM)⟩
    all_goals try first | k_is | rfl
