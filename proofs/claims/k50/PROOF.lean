import PyProof.Rows.All
import Wide.All
import OpenK.AllK
import Wide.FinOn
import Lean
import PyProof.EqAt
import PyProof.EqKinds
import PyProof.TupleCall
import PySem.Challenge.RW_wholeglance_k50_papers_that_none_fits
open PySem renaming wpAny_bind->aas,Shared->aat,wpAny_pure->aau,sizeLine->aaP,Around->aaV,Program->aaY,starEach->aaZ,wpAny_holding->aa1,wpAny_call_entry->aa7,compareOp->aa8,DictEntry->aa_,wpAny_newObj_type->aba,wpAny_callSpecial?_slot->abf,binaryOp->abp,wpAny_truthy_bool->abq,mainGlobals->abr,wpAny_ite_split->aby,foldedSetIterable->abD,placesWithHash->abI,cellsFrom->abO,FuncData->abR,mem_of_lookup->abV,Builtin->ab1,assignEach->ab2,wpAny_rule->ab8,codeAny_builtin->acb,wpAny_dictEpoch->aco,bootBuiltins->acq,sizeLine_eq->acr,wpAny_typeNameOfWhole_keyiter->acN,NameKind->acO,SetTable->acP,wpAny_field->acT,rawInt->acX,wpAny_Call_Name_kw->acY,wpAny_passesOwn->ac3,wpAny_dictEntries->ac9,sysModules->ac_,call_meets->adb,holding->adh,wpAny_setField->adi,backTo->adl,IsPart->ado,wpAny_typeOf->adq,wpAny_askSetting->ads,swappedStores->adz,behindInMarks->adA,plainId_quiet->adC,wpAny_pyIter_tuple->adF,wpAny_sequenceKey->adK,wpAny_setState_of->adL,pyNext->adQ,builtinLookup_eq_fast->adS,swapsWith->adW,wpAny_forIn_list->ad1,assign->ad3,swapsWithSole->ad4,intKind->ad7,sliceBounds->ad8,pickOrder->aeg,codeAny->aek,getItem->ael,setNext->aem,wpAny_pyIter_list->aeq,wpAny_standAt->aey,wpAny_isInstance->aez,PassesOwn->aeF,wpAny_notOrdered_dict->aeH,wpAny_mono->aeK,wpAny_execs_nil->aeL,codeAny_mono->aeM,typeLookup_type->aeP,wpAny_ite_false->aeT,wpAny_setEntries_of->aeX,callerA->ae1,isSubtype_type->ae2,wpAny_fieldsOf->ae3,firstArgMember->ae4,wpAny_seqItems->ae7,intItems->ae8,seqIndex?->afh,slot_dict_contains->afl,wpAny_attempt->afo,attributeBase->afq,Comprehension->afr,wpAny_pyIter_slot->afv,slot_dict_getitem->afx,builtinsNs->afy,typeIs_int->afA,relabel->afH,dictGet->afI,concat_meets->afK,noFill_tuple_add->afL,beq_builtin_none->afR,letOwnedTupleGo->afX,wpAny_specialOf->af0,eqIsQuiet->af3,wpAny_pyNext_list_item->af6,wpAny_alloc->af9,wpAny_richCompare_same->aga,standAt->age,pyIter->agf,wpAny_pyNext_list_end->agg,collect->agi,wpAny_runValue->agj,wpAny_isOneOf_keyiter->agp,typeIs_str->agt,call->agu,setsByText->agv,assignInOrder->agD,seq_tuple_add->agE,wpAny_handled->agI,wpAny_newList->agO,lastMarks->ag5,scanBound->ahc,putSet_of->ahd,hashInt->aho,setItem->ahp,BindsTo->ahq,seqIndex_of->ahO,wpAny_of_eq->ahP,wpAny_throw->ahQ,seqSlot_of->ah8
open Bool renaming and_eq_true->aav,false_eq_true->aaF,not_eq_true'->abc,or_eq_true->abx,or_eq_false_iff->abQ,false_ne_true->abZ,true_and->acM,and_eq_false_iff->ac4,or_false->adB,false_and->adR,not_eq_true->ad2,not_true->ad6,eq_iff_iff->aed,not_false->ae5,and_assoc->agn,and_true->agL,not_eq_false'->ahg,eq_false_iff->ahK,and_false->aiO
open PySem.Heap renaming get?_push_of_some->aaw,get?_push_size->aaG,lt_size->aaH,get?_update_self->abl,get?_update_other->ab6,size_push->aci,get?_push_ne->acL,SameBut->acW,size_update->adv,ExtBut->af8,get?_update_ne->agV
open Option renaming bind_some->aax,map_eq_some_iff->aaK,map_some->abo,isSome_iff_exists->adm,getD_none->ah0,getD_some->ah7
open List renaming getElem?_eq_getElem->aay,range->aaz,size_toArray->aaA,getElem?_eq_some_iff->aaB,mem_cons->aaD,mem_append->aaE,mem_map->aaJ,mem_range->aaL,length_map->aaM,mem_cons_self->aaO,all_eq_true->aaQ,mem_cons_of_mem->aaR,getElem?_append_left->aaS,getElem?_set_ne->aaU,replicate->aaW,map_cons->aaX,mem_filter->aa3,mem_of_getElem?->aa6,getElem?_cons_zero->abb,getElem?_cons_succ->abg,length_filter_le->abh,getElem?_take_of_lt->abi,lookup_cons->abj,mem_append_right->abv,getElem?_append_right->abz,filter_cons->abC,getElem?_map->abE,mem_iff_getElem->abG,mem_of_mem_take->abH,any_cons->abM,take_of_length_le->abS,filterMap_cons->abU,getElem?_eq_none->abX,length_take->ab3,getElem?_set_self->ab5,append_assoc->ab7,append_nil->ab9,nodup_cons->ab_,length_append->acd,getElem_mem->ace,nodup_append->ack,replicate_succ->acp,all_map->acs,all_cons->acu,mem_filterMap->acw,mem_iff_getElem?->acz,drop_eq_getElem_cons->acD,nil_append->acH,map_map->acI,any_eq_true->acQ,ext_getElem->acR,elem_iff->ac7,flatten_cons->ac8,mem_of_mem_drop->adf,drop_zero->adj,length_drop->adp,length_cons->adt,eq_nil_of_length_eq_zero->adJ,pairwise_map->adO,nodup_range->adY,mem_nil_iff->ad0,pairwise_iff_getElem->ad_,find?_some->aea,map_append->aeb,getElem?_eq_none_iff->aec,eraseIdx_cons_succ->aeo,length_eq_zero_iff->aep,length_pos_of_mem->aev,pairwise_lt_range->aew,findIdx?_eq_some_iff_getElem->aex,cons_append->aeA,eraseIdxIfInBounds_toArray->aeJ,forIn_cons->aeS,take_succ_cons->aeY,length_pos_iff->aeZ,nodup_nil->ae6,length->afc,range'->afd,mem_singleton->afi,find?_eq_none->afj,set_cons_zero->afk,perm_ext_iff_of_nodup->afs,take_sublist->afu,ext_getElem?->afw,extract_eq_take_drop->afE,getElem_inj->afJ,not_mem_nil->afN,perm_middle->afQ,getElem?_replicate->afU,of_mem_zip->afY,length_set->afZ,range_succ->af2,set_append->af4,singleton_append->agh,take_append_drop->agk,forIn_nil->agm,dropLast_eq_take->agq,mem_append_left->ags,pairwise_append->agw,forall_mem_cons->agC,map_take->agP,toList_toArray->agQ,mem_map_of_mem->agR,drop_succ_cons->agS,getElem?_range->agT,map_congr_left->agY,pairwise_cons->ahb,zip_nil_right->ahh,zip_cons_cons->ahi,any_nil->ahj,append_of_mem->ahl,mem_replicate->ahm,map_singleton->ahn,getElem_take->ahx,getElem?_inj->ahH,zip_nil_left->ahJ,length_range->ahL,filter_congr->ahM,any_eq_false->ahN,take_length->ah5,mem_reverse->ah6,range'_succ->ah_,isEmpty_iff->aif,foldl_cons->aip,all_filter->aiy,take_succ->aiL
open Nat renaming le_refl->aaC,ne_of_lt->aaN,lt_of_lt_of_le->aa0,zero_le->abd,lt_succ_of_lt->abe,le_trans->abt,le_of_ble_eq_true->abw,lt_irrefl->acf,ble_eq_true_of_le->acA,eq_of_testBit_eq->acJ,testBit_lt_two_pow->acV,zero_add->ac0,sub_self->ac1,pow_le_pow_right->adg,le_of_lt->adk,lt_succ_self->adu,testBit_two_pow->adx,ble->adD,le_succ->adI,le_of_lt_succ->adM,one_shiftLeft->adP,lt_pow_two_of_testBit->aee,succ_pos->aeh,le_of_succ_le->aer,mod_lt->aeQ,lt_trans->aeR,testBit_and->aeV,add_zero->afO,two_pow_pos->af5,ne_of_gt->ag4,add_comm->ag8,mul_comm->aha,succ_ne_self->ah3
open PySem.W renaming Frag->aaI,sortI->abk,kia_one->acn,keepIn->acx,nsIn->ac2,fnOf->adn,OpenLaw->adX,sortI_perm->aej,eq_sortI->aeC,codeIn->ae0,kas_sort->ae_,methodObj->aft,cellsFrom_some->af7,kas_ask->agd,WalkO->agH,mg_of->agN,pyHash_slot->agW,sortI_rises->agX,kitx_list->ahC,kitx_dict->ahD,kat_cons->aie,kat_nil->aix,Looks->ajl
open PySem.SetTable renaming below->aaT,bits->aa5,runEnd->abY,insertAt->acj,leap->acv,Probe->adU,turns->adV,has->afP,fill->agJ,layClean->ahz,advance->ah4,grown->aiM,fits->aja,laid->ajc
open Array renaming getElem?_eq_getElem->aa2,getElem?_eq_some_iff->abA,getElem?_toList->acy,length_toList->adw,mem_of_getElem?->adT,getElem?_eq_none->aeu,replicate->af1,mem_toList_iff->agz,toList->ag3,forIn_toList->ahf,getElem_mem->ahy,toList_inj->aid
open PySem.Str renaming ofString->aa4
open PyProof.Rows renaming slot_tuple_getitem->aa9,seqObj->ab0,callWith_type1->acm,IntsAre->acK,subscriptTail_builtinR->aet,AllBare->aeE,envOfC->aeN,callWith_builtin1->aeO,get?_update_seq->aeU,entry_tuple_getitem->aeW,assignInOrder_cons->afe,args_tuple_getitem->afg,sortedHeap->afC,boot_list->agx,tupleItemsOf_->agF,subscriptTail->agG,boot_tuple->ahR,boot_dict->aii,boot_int->aiz
open PySem.Value renaming type->abm,none->acE,bool->acS,ref->adE,int->aeD,isInt->afb,notImplemented->agy
open PySem.Heap.SameBut renaming update->abn
open PySem.AutoSeq1 renaming wpAny_loadPart'->abu,sub_tuple_tuple->acG,idx_int->aeB
open PySem.NameKind renaming cell->abB,free->abL
open Function renaming comp_def->abF
open PySem.Builtin.Tuple renaming tupleExact->abJ,tupleItemsOf->ac6,tupleHashOf->afB,tupleTooMany->af_
open Int renaming toNat_natCast->abK,emod_lt_of_pos->adG,emod_nonneg->ad9,toNat->aeG,le_trans->afT,toNat_of_nonneg->agU,natCast_nonneg->ahe
open Option.some renaming inj->abN,injEq->abW
open PySem.Around renaming under_plainId->abP
open PySem.Builtin.Slice renaming sliceAdjust->abT,slicePlaces->aca,sliceApplied->ac5,sliceFields->afz
open PySem.Obj renaming mapSeq->ab4,putSet->adZ,data_mapFields->aei,mapFields->afp,isFreed_of_fields->ago,cls_mapFields->ahE,mapDictKeys->aiv
open Ne renaming symm->acg
open PySem.Builtin renaming bitAnd->ach,bitNot->acB,bitOr->ad5
open Classical renaming byContradiction->acC,propDecidable->afW
open ForInStep renaming yield->acF
open PySem.SetTable.layClean renaming free->acU
open PySem.Builtin.List renaming listExtendWith->acZ,listSameRef->afM
open False renaming elim->ada
open PySem.Builtin.SmallTypes renaming nextOf->ade
open PySem.F renaming plainAttrs_list->ady,args_tuple_add_2->aef,entry_tuple_add->aen,slot_tuple_add->aes,slot_dict_get->aeI,slot_list_insert->afS,entry_dict_get->agc
open True renaming intro->adH
open PySem.SetTable.below renaming go->adN
open PySem.Builtin.Dict_items renaming ownsTuple->ae9
open PySem.Challenge renaming pw_wholeglance_k50_papers_that_none_fits->afa
open PySem.Data renaming cell->aff,dict->ag9
open PySem.ScopeKind renaming function->afm
open PySem.Calls renaming Name_function_global->afn,call_function_entry->afD,callWith_builtin->agb,Constant_str->ag2,spliced_cons->ag6,spliced_nil->aht
open Sum renaming inl->afF,inr->afG
open PySem.Builtin.Dict renaming updateFrom->afV
open List.Perm renaming refl->agl,swap->aiJ
open PUnit renaming unit->agA
open PySem.W.KatTups renaming cons->agB,nil->amt
open PySem.Shared renaming TypeIs->agM
open PySem.SeqAt.EqAt renaming int_str->agZ,str_int->ag0
open PySem.Heap.IsSliceOf renaming new->ag7
open PySem.pickOrder renaming go->ag_
open List.Pairwise renaming nil->ahv
open PySem.SetTable.probe renaming go->ahw
open List.cons renaming injEq->aiu
open PySem.Setting renaming params->aiH
open PySem.Builtin.Frozenset renaming updateFrom->aiX,newClass->ajb,addrOf->ajI,sizeOf->ajJ,slot0->akb
open PyProof.Rows.IntsAre renaming int_at->ai2
set_option bootstrap.genMatcherCode false
set_option genSizeOf false
set_option Elab.async false
set_option linter.all false
set_option maxRecDepth 100000
namespace L2
open PySem PySem.Spec PyProof.Rows
abbrev Key:=Sum Int Str
noncomputable def FP:Key->Value->Bool
 |.inl k,v=>afb k v
 |.inr x,v=>Value.isStrOf x v
noncomputable def TY (w:World):Key->Int
 |.inl k=>aho k
 |.inr x=>hashStr w x
theorem cO:∀{k:Key} {v:Value},FP k v=true->(∃i t,k=afF i/\v=aeD i t)\/(∃x t,k=afG x/\v=Value.str x t)
 |.inl i,v,h=>by
  obtain⟨t,e⟩:=Value.isInt_shape (k:=i) (v:=v) h
  exact .inl ⟨i,t,rfl,e⟩
 |.inr x,v,h=>by
  obtain⟨t,e⟩:=Value.isStrOf_shape (x:=x) (v:=v) h
  exact .inr ⟨x,t,rfl,e⟩
theorem Kw (a b:Int):decide ((afF a:Key)=afF b)=(a == b):=by
 by_cases e:a=b
 . subst e;simp
 . have h:¬(afF a:Key)=afF b:=λq=>e (Sum.inl.inj q)
   rw[decide_eq_false h]
   exact(beq_eq_false_iff_ne.mpr e).symm
theorem Kx (a b:Str):decide ((afG a:Key)=afG b)=decide (a=b):=by
 by_cases e:a=b
 . subst e;simp
 . have h:¬(afG a:Key)=afG b:=λq=>e (Sum.inr.inj q)
   rw[decide_eq_false h,decide_eq_false e]
theorem Ky (a:Int)(b:Str):decide ((afF a:Key)=afG b)=false:=decide_eq_false (λq=>nomatch q)
theorem Kz (a:Str)(b:Int):decide ((afG a:Key)=afF b)=false:=decide_eq_false (λq=>nomatch q)
noncomputable def rY (prog:aaY)(w:World):PySem.KeyKind prog w Key where
 is:=FP
 hash:=TY w
 inj:=λv a b l f=>by
  rcases cO l with⟨i,t,rfl,rfl⟩|⟨x,t,rfl,rfl⟩
  . rcases cO f with⟨j,u,rfl,e⟩|⟨y,u,rfl,e⟩
    . injection e with e1 _;rw[e1]
    . exact nomatch e
  . rcases cO f with⟨j,u,rfl,e⟩|⟨y,u,rfl,e⟩
    . exact nomatch e
    . injection e with e1 _;rw[e1]
 byValue:=λk v h=>by
  rcases cO h with⟨i,t,rfl,rfl⟩|⟨x,t,rfl,rfl⟩<;>rfl
 pyHash:=λc h=>by
  rcases cO c with⟨i,t,rfl,rfl⟩|⟨x,t,rfl,rfl⟩
  . exact wpAny_pyHash_int h
  . exact wpAny_pyHash_str h
 eqBool:=λhu c h=>by
  rcases cO hu with⟨i,t,rfl,rfl⟩|⟨x,t,rfl,rfl⟩
  . rcases cO c with⟨j,u,rfl,rfl⟩|⟨y,u,rfl,rfl⟩
    . rw[Kw]at h;exact wpAny_eqBool_int h
    . rw[Ky]at h;exact agZ i t y u _ _ _ _ h
  . rcases cO c with⟨j,u,rfl,rfl⟩|⟨y,u,rfl,rfl⟩
    . rw[Kz]at h;exact ag0 x t j u _ _ _ _ h
    . rw[Kx]at h;exact wpAny_eqBool_str h
 «strs»:=λk x t v h=>by
  rcases cO h with⟨i,u,rfl,e⟩|⟨y,u,rfl,e⟩
  . exact nomatch e
  . injection e with e1 _
    subst e1
    cases v<;>rfl
inductive V where
 |ay|bl (b:Bool)|int (i:Int)|str (x:Str)|A9 (b:Array UInt8)|gi (b:UInt64)|ref (a:Addr)|ty (n:String)
 deriving DecidableEq
noncomputable def RelV:V->Value->Prop
 |.ay,u=>u=acE
 |.bl b,u=>u=acS b
 |.int i,u=>∃t,u=aeD i t
 |.str x,u=>∃t,u=Value.str x t
 |.A9 b,u=>∃t,u=Value.bytes b t
 |.gi b,u=>∃t,u=Value.float b t
 |.ref a,u=>u=adE a
 |.ty n,u=>u=abm n
noncomputable abbrev Vals:List V->List Value->Prop:=Paired RelV
theorem Vals.length {xs:List V}{us:List Value}(r:Vals xs us):xs.length=us.length:=Paired.length r
theorem Vals.get:∀{xs:List V} {us:List Value} {i:Nat} {x:V},Vals xs us->xs[i]? = some x->∃u,us[i]? = some u/\RelV x u
 |_,_,_,_,.nil,e=>by simp at e
 |_,_,0,_,.cons r _,e=>by simp at e;subst e;exact⟨_,rfl,r⟩
 |_,_,i+1,x,.cons _ t,e=>by
  obtain⟨u,a,b⟩:=Vals.get (i:=i) (x:=x) t (by simpa using e)
  exact⟨u,by simpa using a,b⟩
theorem Vals.set {x:V}{u:Value}(r:RelV x u):∀{xs:List V} {us:List Value} (i:Nat),Vals xs us->Vals (xs.set i x) (us.set i u)
 |_,_,_,.nil=>.nil
 |_,_,0,.cons _ t=>.cons r t
 |_,_,i+1,.cons q t=>.cons q (Vals.set r i t)
theorem Vals.append:∀{xs ys:List V} {us ws:List Value},Vals xs us->Vals ys ws->Vals (xs++ys) (us++ws)
 |_,_,_,_,.nil,s=>s
 |_,_,_,_,.cons r t,s=>.cons r (Vals.append t s)
theorem Vals.take:∀{xs:List V} {us:List Value} (n:Nat),Vals xs us->Vals (xs.take n) (us.take n)
 |_,_,0,_=>.nil
 |_,_,_+1,.nil=>.nil
 |_,_,n+1,.cons r t=>.cons r (Vals.take n t)
theorem Vals.drop:∀{xs:List V} {us:List Value} (n:Nat),Vals xs us->Vals (xs.drop n) (us.drop n)
 |_,_,0,r=>r
 |_,_,_+1,.nil=>.nil
 |_,_,n+1,.cons _ t=>Vals.drop n t
noncomputable def KA:Option V->Option Value->Prop
 |some v,some u=>RelV v u
 |none,none=>True
 |_,_=>False
noncomputable def KV {κ:Type}:List (κ×V)->List (κ×Value)->Prop:=Paired λ(p:κ×V) (q:κ×Value)=>p.1=q.1/\RelV p.2 q.2
noncomputable def kV:Key->V
 |.inl i=>.int i
 |.inr x=>.str x
def fD (h:Heap)(a:Addr)(items:Array Value):Prop:=∃o,h.get? a=some o/\o.cls = .type "tuple" /\ (∃n,o.data = .seq items n)/\o.dict=none
theorem fD.t {h:Heap}{a:Addr}{items:Array Value}(p:fD h a items):IsTup h a items:=let⟨o,h1,h2,h3,_⟩:=p;⟨o,h1,h2,h3⟩
theorem fD.new (h:Heap)(au:Array Value):fD (h.push { cls:=.type "tuple",data:=.seq au }) h.objs.size au:=⟨_,aaG _ rfl,rfl,⟨_,rfl⟩,rfl⟩
inductive HO where
 |lst (xs:List V)
 |tup (xs:List V)
 |dK (dD:List (Key×V))|dT (dD:List (List Key×V))
 |set (S:Int->Bool) (n:Nat)
 |ins (C dx:Addr) (fs:List (Str×V))
 |own (x:Addr)
 |xd (fs:List (Str×V))
 |met (f x:Addr)
 |et (lo hi:Int)
 |mK (o:Obj) (u:HO)
 |j0 (ps:Array Value)
 |ext (φ:Heap->Prop)
abbrev Hp:=Addr->Option HO
noncomputable def upd (H:Hp)(a:Addr)(o:HO):Hp:=λb=>if b=a then some o else H b
theorem bw {H:Hp}{a:Addr}{o:HO}:upd H a o a=some o:=by unfold upd;rw[if_pos rfl]
theorem aR {H:Hp}{a b:Addr}{o:HO}(h:b≠a):upd H a o b=H b:=by unfold upd;rw[if_neg h]
theorem zE {H:Hp}{a b:Addr}{o u:HO}(h:H a=some o)(h':H b=some u)(d:o≠u):a≠b:=by
 intro e;subst e;rw[h]at h';exact d (abN h')
theorem bZ {H:Hp}{a b:Addr}{o:HO}(h:H a=some o)(h':H b=none):a≠b:=by
 intro e;subst e;rw[h]at h';cases h'
section
variable (P:aaY)(w:World)
noncomputable def cP (H:Hp)(h:Heap)(a:Addr):HO->Prop
 |.lst xs=>xs.length<=aaP /\ ∃(au:List Value) (n:Nat),Vals xs au/\h.get? a=some { cls:=.type "list",data:=.seq au.toArray n }
 |.tup xs=>xs.length<=aaP /\ ∃au:List Value,Vals xs au/\fD h a au.toArray
 |.dK dD=>dD.length<=aaP/\(a == ac_)=false /\ ∃vs,KV dD vs/\h.DictOf (rY P w) a vs
 |.dT dD=>dD.length<=aaP/\(a == ac_)=false /\ ∃xs:List (List Key×Addr×Value),
  Paired (λ(p:List Key×V) (q:List Key×Addr×Value)=>p.1=q.1/\H q.2.1=some (.tup (p.1.map kV))/\RelV p.2 q.2.2) dD xs /\
  ∃o es ep,h.get? a=some o/\o.ExactDict/\o.data = .dict es ep/\es.toList=xs.map (entryOfKey (tupleKind (rY P w)))/\(xs.map (·.1)).Nodup
 |.set S n=>h.SetOf (ad7 P w) a S n
 |.ins C dx fs=>H dx=some (.own a)/\fs.length<=1000/\dx≠a/\h.get? a=some (PySem.W.instObj C dx) /\
  ∃mA,h.Ns1 dx mA/\(∀f,KA (fs.lookup f) (mA f))/\PySem.Within mA (fs.map (·.1))
 |.own _=>∃o,h.get? a=some o
 |.xd fs=>∃mA,h.Ns1 a mA /\ ∀f,KA (fs.lookup f) (mA f)
 |.et lo hi=>∃t u v,h.get? a=some { cls:=.type "range",data:=.fields #[.int lo t,.int hi u,.int 1 v] }
 |.mK o u=>h.get? a=some o/\cP H h a u
 |.j0 ps=>h.get? a=some { cls:=.none,data:=.fields ps }
 |.met f x=>h.get? a=some (aft (.ref f) (.ref x))
 |.ext φ=>φ h/\(∃o,h.get? a=some o) /\ ∀h1 h2:Heap,φ h1->(∀o,h1.get? a=some o->h2.get? a=some o)->φ h2
def fE (H:Hp)(h:Heap):Prop:=∀a o,H a=some o->cP P w H h a o
end
section
variable {P:aaY}{w:World}{H H':Hp}{h h':Heap}{a:Addr}{o:HO}
theorem cP.lt (x:cP P w H h a o):a<h.objs.size:=by
 cases o with
 |lst xs=>obtain⟨_,_,_,_,e⟩:=x;exact aaH e
 |tup xs=>obtain⟨_,_,_,p⟩:=x;exact p.t.lt
 |dK dD=>obtain⟨_,_,_,_,o,_,_,e,_⟩:=x;exact aaH e
 |dT dD=>obtain⟨_,_,_,_,o,_,_,e,_⟩:=x;exact aaH e
 |set S n=>obtain⟨o,_,_,_,e,_⟩:=x;exact aaH e
 |ins C dx fs=>obtain⟨_,_,_,e,_⟩:=x;exact aaH e
 |own y=>obtain⟨_,e⟩:=x;exact aaH e
 |xd fs=>obtain⟨_,⟨_,_,_,e,_⟩,_⟩:=x;exact aaH e
 |et lo hi=>obtain⟨_,_,_,e⟩:=x;exact aaH e
 |mK ob u=>obtain⟨e,_⟩:=x;exact aaH e
 |j0 ps=>exact aaH (show h.get? a=some _ from x)
 |met f y=>exact aaH (show h.get? a=some _ from x)
 |ext φ=>obtain⟨_,⟨_,e⟩,_⟩:=x;exact aaH e
theorem Paired.KC {α β:Type}{F G:α->β->Prop}:∀{l₁:List α} {l₂:List β},Paired F l₁ l₂->(∀a b,F a b->G a b)->Paired G l₁ l₂
 |_,_,.nil,_=>.nil
 |_,_,.cons r t,f=>.cons (f _ _ r) (Paired.KC t f)
theorem cP.pO (x:cP P w H h a o)(k:∀b u,(b=a\/H b=some (.own a))->h.get? b=some u->h'.get? b=some u)
  (ho:∀b,H b=some (.own a)->H' b=some (.own a)) (ht:∀b xs,H b=some (.tup xs)->H' b=some (.tup xs)):cP P w H' h' a o:=by
 induction o with
 |lst xs=>obtain⟨z,au,n,r,e⟩:=x;exact⟨z,au,n,r,k _ _ (.inl rfl) e⟩
 |tup xs=>obtain⟨z,au,r,i,e,c⟩:=x;exact⟨z,au,r,i,k _ _ (.inl rfl) e,c⟩
 |dK dD=>obtain⟨z,y,vs,r,i,j,l,e,c⟩:=x;exact⟨z,y,vs,r,i,j,l,k _ _ (.inl rfl) e,c⟩
 |dT dD =>
  obtain⟨z,y,xs,r,i,j,l,e,c⟩:=x
  exact⟨z,y,xs,Paired.KC r λp q z=>⟨z.1,ht _ _ z.2.1,z.2.2⟩,i,j,l,k _ _ (.inl rfl) e,c⟩
 |set S n=>obtain⟨i,j,l,t,e,c⟩:=x;exact⟨i,j,l,t,k _ _ (.inl rfl) e,c⟩
 |ins C dx fs =>
  obtain⟨d,z,ne,e,mA,⟨s,j,l,e2,c⟩,r⟩:=x
  exact⟨ho _ d,z,ne,k _ _ (.inl rfl) e,mA,⟨s,j,l,k _ _ (.inr d) e2,c⟩,r⟩
 |own y=>obtain⟨i,e⟩:=x;exact⟨i,k _ _ (.inl rfl) e⟩
 |xd fs=>obtain⟨mA,⟨s,j,l,e,c⟩,r⟩:=x;exact⟨mA,⟨s,j,l,k _ _ (.inl rfl) e,c⟩,r⟩
 |et lo hi=>obtain⟨t,u,v,e⟩:=x;exact⟨t,u,v,k _ _ (.inl rfl) e⟩
 |mK i u ih=>obtain⟨e,q⟩:=x;exact⟨k _ _ (.inl rfl) e,ih q⟩
 |j0 ps =>
  have e:h.get? a=some { cls:=.none,data:=.fields ps }:=x
  show h'.get? a=some { cls:=.none,data:=.fields ps }
  exact k a _ (.inl rfl) e
 |met f y =>
  have e:h.get? a=some (aft (.ref f) (.ref y)):=x
  show h'.get? a=some (aft (.ref f) (.ref y))
  exact k a _ (.inl rfl) e
 |ext φ=>obtain⟨p,⟨o,e⟩,st⟩:=x;exact⟨st _ _ p λo q=>k _ _ (.inl rfl) q,⟨o,k _ _ (.inl rfl) e⟩,st⟩
theorem fE.lt (x:fE P w H h)(e:H a=some o):a<h.objs.size:=(x a o e).lt
theorem fE.fresh (x:fE P w H h)(e:h.objs.size<=a):H a=none:=by
 cases q:H a with
 |none=>rfl
 |some u=>exact absurd (aa0 (x.lt q) e) (acf _)
theorem fE.kept (x:fE P w H h)(k:∀b u,h.get? b=some u->h'.get? b=some u):fE P w H h':=λa o e =>
 (x a o e).pO (λb u _ q=>k b u q) (λ_ q=>q) λ_ _ q=>q
theorem fE.laid (x:fE P w H h)(k:∀b u,h.get? b=some u->h'.get? b=some u)(hp:h.objs.size<=a)(new:cP P w (upd H a o) h' a o):fE P w (upd H a o) h':=λb u e=>by
 have f:=x.fresh hp
 by_cases hb:b=a
 . subst hb;rw[bw]at e;cases e;exact new
 . rw[aR hb]at e
   exact(x b u e).pO (λc v _ q=>k c v q) (λc q=>by rw[aR (bZ q f)];exact q) λc xs q=>by rw[aR (bZ q f)];exact q
end
def Rd (H:Hp)(a:Addr)(u:HO):Prop:=H a=some u \/ ∃o,H a=some (.mK o u)
theorem Rd.ok {P:aaY}{w:World}{H:Hp}{h:Heap}{a:Addr}{u:HO}(r:Rd H a u)(x:fE P w H h):cP P w H h a u:=by
 rcases r with r|⟨o,r⟩
 . exact x a u r
 . obtain⟨_,q⟩:=x a _ r
   exact q
noncomputable def FQ:Option HO->Prop
 |some (.lst _)=>True
 |some (.dK _)=>True
 |some (.dT _)=>True
 |some (.set _ _)=>True
 |some (.ins _ _ _)=>True
 |some (.ext _)=>True
 |_=>False
section
variable {P:aaY}{w:World}{H:Hp}{h h':Heap}{x e:Addr}{o':HO}
theorem fE.write (ok:fE P w H h)(mu:FQ (H x))(he:e=x\/H e=some (.own x))(k:∀b u,b≠e->h.get? b=some u->h'.get? b=some u)(x_:∃u,h'.get? e=some u)
   (new:cP P w (upd H x o') h' x o'):fE P w (upd H x o') h':=λb u q=>by
 have i:∀c y,H c=some (.own y)->c≠x:=λc y r z=>by subst z;rw[r]at mu;exact mu
 have l:∀c xs,H c=some (.tup xs)->c≠x:=λc xs r z=>by subst z;rw[r]at mu;exact mu
 by_cases hb:b=x
 . subst hb;rw[bw]at q;cases q;exact new
 . rw[aR hb]at q
   by_cases u_:b=e
   . have f:H b=some (.own x):=by
       rcases he with z|z
       . exact absurd (u_.trans z) hb
       . rw[u_];exact z
     rw[q]at f;cases f
     obtain⟨v,j⟩:=x_
     exact⟨v,by rw[u_];exact j⟩
   . refine(ok b u q).pO (λc v a r=>k c v ?_ r) (λc r=>by rw[aR (i c b r)];exact r) λc xs r=>by rw[aR (l c xs r)];exact r
     rcases a with rfl|a
     . exact u_
     . rintro rfl
       rcases he with z|z
       . exact i c b a z
       . rw[a]at z;cases z;exact hb rfl
end
structure Un (fs ex:List Addr)(H H':Hp)(h h':Heap):Prop where
 keep:∀b o,h.get? b=some o->H b=none->b ∉ fs->b ∉ ex->h'.get? b=some o
 slot:∀b o,h.get? b=some o->H b=none->b∈fs->b ∉ ex->∃sl,h'.get? b=some { o with slots:=sl }
 free:∀b o,h.get? b=some o->H b=none->b ∉ ex->H' b=none
 there:∀b o,h.get? b=some o->b ∉ ex->∃o',h'.get? b=some o'
 mL:∀b xs,H b=some (.tup xs)->H' b=some (.tup xs)
 lu:∀b o u,H b=some (.mK o u)->H' b=some (.mK o u)
 mM:∀b ps,H b=some (.j0 ps)->∃more,H' b=some (.j0 (ps++more))
section
variable {fs fs' ex ex':List Addr}{H H1 H2:Hp}{h h1 h2 h':Heap}{a x e:Addr}{o:HO}
theorem Un.any (u:Un fs ex H H1 h h1){b:Addr}{ob:Obj}(q:h.get? b=some ob)(n:H b=none)(hx:b ∉ ex):∃sl,h1.get? b=some { ob with slots:=sl }:=by
 by_cases hb:b∈fs
 . exact u.slot b ob q n hb hx
 . exact⟨ob.slots,u.keep b ob q n hb hx⟩
theorem Un.kept (k:∀b u,h.get? b=some u->h'.get? b=some u):Un fs ex H H h h' :=
 ⟨λb a q _ _ _=>k b a q,λb a q _ _ _=>⟨a.slots,k b a q⟩,λ_ _ _ n _=>n,λb a q _=>⟨a,k b a q⟩,λ_ _ q=>q,λ_ _ _ q=>q,λ_ c q=>⟨#[],by rw[q];simp⟩⟩
theorem Un.refl:Un fs ex H H h h:=Un.kept λ_ _ q=>q
theorem Un.laid (k:∀b u,h.get? b=some u->h'.get? b=some u)(hp:h.objs.size<=a)(hn:H a=none):Un fs ex H (upd H a o) h h' where
 keep:=λb u q _ _ _=>k b u q
 slot:=λb u q _ _ _=>⟨u.slots,k b u q⟩
 free:=λb u q n _=>by rw[aR (aaN (aa0 (aaH q) hp))];exact n
 there:=λb u q _=>⟨u,k b u q⟩
 mL:=λb xs q=>by rw[aR (bZ q hn)];exact q
 lu:=λb u xs q=>by rw[aR (bZ q hn)];exact q
 mM:=λb c q=>⟨#[],by rw[aR (bZ q hn),q];simp⟩
theorem Un.write (mu:FQ (H x))(he:e=x\/H e=some (.own x))(k:∀b u,b≠e->h.get? b=some u->h'.get? b=some u)(x_:∃u,h'.get? e=some u):Un fs ex H (upd H x o) h h':=by
 have c:∀b,H b=none->b≠x:=λb n z=>by subst z;rw[n]at mu;exact mu
 have a:∀b,H b=none->b≠e:=λb n z=>by
   subst z
   rcases he with r|r
   . exact c b n r
   . rw[n]at r;cases r
 have hm:∀b u,H b=some u->¬FQ (some u)->b≠x:=λb u q nm z=>by subst z;rw[q]at mu;exact nm mu
 refine⟨λb u q n _ _=>k b u (a b n) q,λb u q n _ _=>⟨u.slots,k b u (a b n) q⟩,λb u q n _=>by rw[aR (c b n)];exact n,λb u q _=>?_,
   λb xs q=>by rw[aR (hm b _ q λz=>z)];exact q,λb u xs q=>by rw[aR (hm b _ q λz=>z)];exact q,λb f q=>⟨#[],by rw[aR (hm b _ q λz=>z),q];simp⟩⟩
 by_cases u_:b=e
 . subst u_;exact x_
 . exact⟨u,k b u u_ q⟩
end
noncomputable def tF (h:Heap)(H:Hp):List Addr:=(aaz h.objs.size).filter λa=>(H a).isSome
noncomputable def lx (h:Heap)(H:Hp):Heap:=PySem.W.hideAll h (tF h H)
theorem A_ (h:Heap)(H:Hp):(lx h H).objs.size=h.objs.size:=PySem.W.hideAll_size _ _
theorem DD {h:Heap}{H:Hp}{b:Addr}{o:Obj}(e:h.get? b=some o)(n:H b=none):(lx h H).get? b=some o :=
 PySem.W.hideAll_get _ e λhm=>by
  have q:(H b).isSome=true:=(aa3.mp hm).2
  rw[n]at q;simp at q
theorem Ij {h:Heap}{H:Hp}{b:Addr}{o:Obj}(e:(lx h H).get? b=some o):h.get? b=some o/\H b=none:=by
 have a:h.get? b=some o:=PySem.W.of_hideAll (tF h H) e
 refine⟨a,?_⟩
 cases q:H b with
 |none=>rfl
 |some x =>
  have hm:b∈tF h H:=aa3.mpr ⟨aaL.mpr (aaH a),by simp[q]⟩
  have z:(lx h H).get? b=none:=PySem.W.hideAll_none (tF h H) hm
  rw[z]at e;cases e
noncomputable def Ik (g h:Heap)(L:Addr):List (Addr×Obj):=(aaz h.objs.size).filterMap λa=>if a=L\/(g.get? a).isSome=true then none else(h.get? a).map λo=>(a,o)
noncomputable def rest (g h:Heap)(L d:Addr):List (Addr×Obj):=(Ik g h L).filter λp=>decide (p.1≠d)
structure Mod (K:aaI)(mg:Str->Option Value)(base:Heap):Prop where
 va:K.In base
 glob:base.Ns abr mg
 blt:∃mb,base.Ns afy mb /\ ∀x:Str,x ≠ "__name__"->mb x=acq x
 nolimit:base.NoLimit
structure Cx where
 prog:aaY
 w:World
 K:aaI
 mg:Str->Option Value
 base:Heap
 A:aaV
 N:List Str
 s₀:aat
 H₀:Hp
 env:Env
 outer:List Env
 stack:List Env
 ex:List Addr
 fn:Str->Bool
 calm:Bool
 pn:List (Addr×Obj)
 xe:Value->aat->Prop
noncomputable def mq (l:List Env):List Addr:=l.filterMap (·.frame)
noncomputable abbrev Cx.fs (X:Cx):List Addr:=mq X.outer
def KG (sc:Scope)(x:Str):Prop:=sc.names.lookup x=some .local\/sc.names.lookup x=some .cell\/sc.names.lookup x=some .free
def Loc (sc:Scope)(x:Str):Prop:=sc.names.lookup x=some .local\/sc.names.lookup x=some .cell
noncomputable def Look (env:Env)(h:Heap)(m:Str->Option Value)(x:Str)(u:Value):Prop :=
 (env.kindOf x=some .local/\m x=some u)\/((env.kindOf x=some .cell\/env.kindOf x=some .free) /\ ∃c,env.cells.lookup x=some c/\h.IsCell c (some u))
structure Cx.Ok (X:Cx):Prop where
 mod:Mod X.K X.mg X.base
 kind:X.env.scope.kind = .function
 glob:X.env.globals=abr
 blt:X.env.builtins=afy
 above:X.s₀.heap.objs.size<=X.env.locals
 inj:∀x y c,X.env.cells.lookup x=some c->X.env.cells.lookup y=some c->x=y
 has:∀x,(X.env.kindOf x=some .cell\/X.env.kindOf x=some .free)->∃c,X.env.cells.lookup x=some c
 Ba:∀x c,X.fn x=true->X.env.cells.lookup x=some c->X.s₀.heap.objs.size<=c
 hd:X.calm=true->X.A.handled=none
 frames:X.A.frames=some X.stack
 vb:X.stack=X.outer\/(X.stack=X.env::X.outer/\X.env.frame=some X.env.locals)
 KH:∀b∈X.ex,b≠X.env.locals /\ ∀x c,X.env.cells.lookup x=some c->c≠b
 bs:∀b o,X.base.get? b=some o->X.s₀.heap.get? b=some o/\X.H₀ b=none
 tG:X.base.objs.size<=X.s₀.heap.objs.size
 vc:∀b o,X.base.get? b=some o->b ∉ X.ex
 vd:∀b∈X.ex,b ∉ X.fs
 jz:X.s₀.heap.FunFrames X.base X.outer
 ya:∀b∈X.fs,X.H₀ b=none
structure Inv (X:Cx)(pins:List (Addr×Obj))(σ:List (Option V))(H:Hp)(s:aat):Prop where
 ok:X.Ok
 os:s.os=X.s₀.os
 bare:aeE s.gens
 base:Un X.fs X.ex X.H₀ H X.s₀.heap s.heap
 loc:∃m,s.heap.Ns X.env.locals m /\ ∀(i:Nat) (x:Str) (v:V),X.N[i]? = some x->σ[i]? = some (some v)->KG X.env.scope x->∃u,RelV v u/\Look X.env s.heap m x u
 cell:∀x c,X.env.cells.lookup x=some c->∃v,s.heap.IsCell c v
 free:H X.env.locals=none
 iA:∀x c,X.env.cells.lookup x=some c->H c=none
 pin:∀p∈X.pn++pins,s.heap.get? p.1=some p.2/\H p.1=none/\p.1≠X.env.locals/\p.1 ∉ X.fs /\ ∀v,p.2.data ≠ .cell v
 bB:fE X.prog X.w H s.heap
 len:σ.length=X.N.length
section
variable {X:Cx}{pins:List (Addr×Obj)}{σ:List (Option V)}{H H':Hp}{s:aat}{h':Heap}
theorem Cx.Ok.T1 (ok:X.Ok){b:Addr}{o:Obj}(e:X.base.get? b=some o):b ∉ X.fs:=λa=>by
 have:=(ok.jz.mem a).1
 rw[e]at this;cases this
theorem Inv.bs (I:Inv X pins σ H s):∀b o,X.base.get? b=some o->s.heap.get? b=some o/\H b=none:=λb o e =>
 ⟨I.base.keep b o (I.ok.bs b o e).1 (I.ok.bs b o e).2 (I.ok.T1 e) (I.ok.vc b o e),I.base.free b o (I.ok.bs b o e).1 (I.ok.bs b o e).2 (I.ok.vc b o e)⟩
theorem Inv.bk (I:Inv X pins σ H s):∀b o,X.base.get? b=some o->s.heap.get? b=some o:=λb o e=>(I.bs b o e).1
theorem Inv.mod (I:Inv X pins σ H s):Mod X.K X.mg X.base:=I.ok.mod
theorem Inv.iZ (I:Inv X pins σ H s):X.K.In s.heap:=I.ok.mod.va.keeps I.bk
theorem Inv.lt (I:Inv X pins σ H s):X.env.locals<s.heap.objs.size:=let⟨_,hn,_⟩:=I.loc;hn.lt
theorem Inv.sz (I:Inv X pins σ H s):X.s₀.heap.objs.size<=s.heap.objs.size:=abt I.ok.above (adk I.lt)
theorem Inv.T3 (I:Inv X pins σ H s){a:Addr}(h:s.heap.objs.size<=a):a ∉ X.fs:=λc=>by
 obtain⟨_,o,b,_⟩:=I.ok.jz.mem c
 exact absurd (aa0 (aaH b) (abt I.sz h)) (acf _)
theorem Inv.ve (I:Inv X pins σ H s):∀x c,X.env.cells.lookup x=some c->c≠X.env.locals:=λx c e z=>by
 obtain⟨v,o,a,hd⟩:=I.cell x c e
 obtain⟨m,⟨h,i,j,f,b,_⟩,_⟩:=I.loc
 rw[z,f]at a;cases a;rw[b]at hd;cases hd
theorem Inv.jz (I:Inv X pins σ H s):s.heap.FunFrames X.base X.outer:=by
 have all:∀(l:List Env),(∀b∈mq l,b∈X.fs)->X.s₀.heap.FunFrames X.base l->s.heap.FunFrames X.base l:=by
  intro l
  induction l with
  |nil=>intro _ _;trivial
  |cons env r ih =>
   intro f n
   obtain⟨i,⟨L,o,hf,k,j,hd⟩,h⟩:=n
   have c:L∈X.fs:=f L (by unfold mq;rw[abU,hf];exact aaO)
   obtain⟨p,e⟩:=I.base.slot L o j (I.ok.ya L c) c λz=>I.ok.vd L z c
   exact⟨i,⟨L,_,hf,k,e,hd⟩,ih (λb a=>f b (by unfold mq;rw[abU,hf];exact aaR _ a)) h⟩
 exact all X.outer (λ_ a=>a) I.ok.jz
theorem Inv.stack (I:Inv X pins σ H s):s.heap.FunFrames X.base X.stack:=by
 rcases I.ok.vb with e|⟨e,hf⟩
 . rw[e];exact I.jz
 . rw[e]
   obtain⟨m,a,_⟩:=I.loc
   refine .cons (by rw[I.ok.kind];decide) hf a ?_ I.jz
   exact Heap.get?_none_of_le (abt I.ok.tG I.ok.above)
theorem Inv.vf (I:Inv X pins σ H s):∀b∈mq X.stack,b∈X.env.locals::X.fs:=λb a=>by
 rcases I.ok.vb with e|⟨e,hf⟩
 . rw[e]at a;exact aaR _ a
 . rw[e]at a
   unfold mq at a
   rw[abU,hf]at a
   exact a
theorem Inv.yb (I:Inv X pins σ H s):∀b∈mq X.stack,H b=none:=λb a=>by
 rcases aaD.mp (I.vf b a)with e|a
 . rw[e];exact I.free
 . obtain⟨_,o,c,_⟩:=I.ok.jz.mem a
   exact I.base.free b o c (I.ok.ya b a) λz=>I.ok.vd b z a
theorem Inv.step {g':Array GenState}{t':Nat}{d':Drawn}{ch:List Addr}(I:Inv X pins σ H s)
   (pd:∀b∈ch,(b∈X.ex\/X.s₀.heap.objs.size<=b)/\b≠X.env.locals/\(∀x c,X.env.cells.lookup x=some c->c≠b) /\ ∀p∈X.pn++pins,p.1≠b)
   (keep:∀b o,b≠X.env.locals->b ∉ X.fs->b ∉ ch->s.heap.get? b=some o->H b=none->h'.get? b=some o)
   (slot:∀b o,b≠X.env.locals->b∈X.fs->b ∉ ch->s.heap.get? b=some o->H b=none->∃sl,h'.get? b=some { o with slots:=sl }) (free:∀b o,b ∉ ch->s.heap.get? b=some o->H b=none->H' b=none)
   (there:∀b o,b ∉ ch->s.heap.get? b=some o->∃o',h'.get? b=some o')
   (mL:∀b xs,H b=some (.tup xs)->H' b=some (.tup xs)) (lu:∀b o u,H b=some (.mK o u)->H' b=some (.mK o u)) (mM:∀b ps,H b=some (.j0 ps)->∃more,H' b=some (.j0 (ps++more)))
   (ns:∀m,s.heap.Ns X.env.locals m->h'.Ns X.env.locals m) (bB:fE X.prog X.w H' h') (hg:aeE g'):
   Inv X pins σ H' { s with heap:=h',gens:=g',drawn:=d',toks:=t' }:=by
 have Rz:∀b o,X.s₀.heap.get? b=some o->b≠X.env.locals:=λb o e=>aaN (aa0 (aaH e) I.ok.above)
 have FR:∀b o,X.s₀.heap.get? b=some o->b ∉ X.ex->b ∉ ch:=λb o e a h=>by
   rcases (pd b h).1 with z|z
   . exact a z
   . exact absurd (aa0 (aaH e) z) (acf _)
 have cellK:∀x c,X.env.cells.lookup x=some c->∀v,s.heap.IsCell c v->h'.IsCell c v:=λx c e v ⟨o,j,hd⟩=>by
   have Bb:c ∉ ch:=λz=>(pd c z).2.2.1 x c e rfl
   by_cases hc:c∈X.fs
   . obtain⟨sl,q⟩:=slot c o (I.ve x c e) hc Bb j (I.iA x c e)
     exact⟨_,q,hd⟩
   . exact⟨o,keep c o (I.ve x c e) hc Bb j (I.iA x c e),hd⟩
 refine⟨I.ok,I.os,hg,⟨λb o e n h a=>?_,λb o e n h a=>?_,λb o e n a=>?_,λb o e a=>?_,λb xs e=>mL b xs (I.base.mL b xs e),λb o xs e=>lu b o xs (I.base.lu b o xs e),λb ps e=>?_⟩,?_,λx c e=>?_,?_,λx c e=>?_,λp hp=>?_,bB,I.len⟩
 . exact keep b o (Rz b o e) h (FR b o e a) (I.base.keep b o e n h a) (I.base.free b o e n a)
 . obtain⟨sl,f⟩:=I.base.slot b o e n h a
   obtain⟨jA,y⟩:=slot b _ (Rz b o e) h (FR b o e a) f (I.base.free b o e n a)
   exact⟨jA,y⟩
 . obtain⟨o',f⟩:=I.base.there b o e a
   exact free b o' (FR b o e a) f (I.base.free b o e n a)
 . obtain⟨o',f⟩:=I.base.there b o e a
   exact there b o' (FR b o e a) f
 . obtain⟨m1,f⟩:=I.base.mM b ps e
   obtain⟨m2,y⟩:=mM b _ f
   exact⟨m1++m2,by rw[y,Array.append_assoc]⟩
 . obtain⟨m,hn,hl⟩:=I.loc
   refine⟨m,ns m hn,λi x v f y e3=>?_⟩
   obtain⟨u,r,l⟩:=hl i x v f y e3
   refine⟨u,r,?_⟩
   rcases l with l|⟨k,c,e,z⟩
   . exact .inl l
   . exact .inr ⟨k,c,e,cellK x c e _ z⟩
 . obtain⟨v,z⟩:=I.cell x c e
   exact⟨v,cellK x c e v z⟩
 . obtain⟨m,⟨o,_,_,j,_⟩,_⟩:=I.loc
   exact free _ o (λz=>(pd _ z).2.1 rfl) j I.free
 . obtain⟨v,o,j,hd⟩:=I.cell x c e
   exact free c o (λz=>(pd c z).2.2.1 x c e rfl) j (I.iA x c e)
 . obtain⟨e,n,ne,nf,d⟩:=I.pin p hp
   have Bb:p.1 ∉ ch:=λz=>(pd p.1 z).2.2.2 p hp rfl
   exact⟨keep p.1 p.2 ne nf Bb e n,free p.1 p.2 Bb e n,ne,nf,d⟩
theorem Inv.un {t':Nat}(I:Inv X pins σ H s)(u:Un X.fs [] H H' s.heap h')(bB:fE X.prog X.w H' h'):Inv X pins σ H' { s with heap:=h',toks:=t' }:=by
 obtain⟨m,⟨o,l,x,c,r⟩,_⟩:=id I.loc
 obtain⟨v,k⟩:=u.any c I.free (by simp)
 exact I.step (g':=s.gens) (d':=s.drawn) (ch:=[]) (λ_ z=>nomatch z) (λb o _ a _ e n=>u.keep b o e n a (by simp)) (λb o _ a _ e n=>u.slot b o e n a (by simp)) (λb o _ e n=>u.free b o e n (by simp)) (λb o _ e=>u.there b o e (by simp)) u.mL u.lu u.mM (λq hm=>by
  obtain⟨p,j,i,f,h⟩:=hm
  rw[c]at f;cases f
  exact⟨_,j,i,k,h⟩) bB I.bare
theorem Inv.call {g':Array GenState}{t':Nat}{d':Drawn}{ch:List Addr}(I:Inv X pins σ H s)(u:Un (mq X.stack) ch H H' s.heap h')(bB:fE X.prog X.w H' h')(hg:aeE g')
  (pd:∀b∈ch,(b∈X.ex\/X.s₀.heap.objs.size<=b)/\b≠X.env.locals/\(∀x c,X.env.cells.lookup x=some c->c≠b) /\ ∀p∈X.pn++pins,p.1≠b):
  Inv X pins σ H' { s with heap:=h',gens:=g',drawn:=d',toks:=t' }:=by
 obtain⟨m,⟨o,v,ep,h,r⟩,_⟩:=id I.loc
 obtain⟨sl,f⟩:=u.any h I.free λz=>(pd _ z).2.1 rfl
 exact I.step (ch:=ch) pd (λb o f q a e n=>u.keep b o e n (λz=>(aaD.mp (I.vf b z)).elim f q) a) (λb o _ _ a e n=>u.any e n a) (λb o a e n=>u.free b o e n a) (λb o a e=>u.there b o e a) u.mL u.lu u.mM (λm' hm=>by
  obtain⟨y,l,k,i,j⟩:=hm
  rw[h]at i;cases i
  exact⟨_,l,k,f,j⟩) bB hg
theorem Inv.turned {t':Nat}{it:Addr}(I:Inv X pins σ H s)(k:∀b o,b≠it->s.heap.get? b=some o->h'.get? b=some o)(hn:H it=none)(hL:it≠X.env.locals)
   (h1:it∈X.ex\/X.s₀.heap.objs.size<=it) (h2:∀x c,X.env.cells.lookup x=some c->c≠it) (h3:∀p∈X.pn++pins,p.1≠it):Inv X pins σ H { s with heap:=h',toks:=t' }:=by
 have f:∀b u,H b=some u->b≠it:=λb u e z=>by rw[z,hn]at e;cases e
 refine I.step (g':=s.gens) (d':=s.drawn) (ch:=[it]) (λb j=>?_) (λb o _ _ a e _=>k b o (λz=>a (by simp[z])) e) (λb o _ _ a e _=>⟨o.slots,k b o (λz=>a (by simp[z])) e⟩) (λ_ _ _ _ n=>n)
   (λb o a e=>⟨o,k b o (λz=>a (by simp[z])) e⟩) (λ_ _ e=>e) (λ_ _ _ e=>e) (λb y e=>⟨#[],by rw[e];simp⟩) (λm hm=>?_) (λb u e=>?_) I.bare
 . have e:b=it:=by simpa using j
   subst e
   exact⟨h1,hL,h2,h3⟩
 . obtain⟨o,h,l,i,r⟩:=hm
   exact⟨o,h,l,k _ o (acg hL) i,r⟩
 . refine(I.bB b u e).pO (λc v a q=>k c v ?_ q) (λ_ q=>q) λ_ _ q=>q
   rcases a with z|z
   . rw[z];exact f b u e
   . exact f c _ z
theorem Inv.tok (I:Inv X pins σ H s)(t:Nat):Inv X pins σ H { s with toks:=t }:=I.un (h':=s.heap) (t':=t) Un.refl I.bB
theorem Inv.kept {t':Nat}(I:Inv X pins σ H s)(k:∀b u,s.heap.get? b=some u->h'.get? b=some u):Inv X pins σ H { s with heap:=h',toks:=t' }:=I.un (Un.kept k) (I.bB.kept k)
theorem Inv.laid {a:Addr}{o:HO}{t':Nat}(I:Inv X pins σ H s)(k:∀b u,s.heap.get? b=some u->h'.get? b=some u)(hp:s.heap.objs.size<=a)(new:cP X.prog X.w (upd H a o) h' a o):
 Inv X pins σ (upd H a o) { s with heap:=h',toks:=t' }:=I.un (Un.laid k hp (I.bB.fresh hp)) (I.bB.laid k hp new)
theorem Inv.write {x e:Addr}{o:HO}{t':Nat}(I:Inv X pins σ H s)(mu:FQ (H x))(he:e=x\/H e=some (.own x))(k:∀b u,b≠e->s.heap.get? b=some u->h'.get? b=some u)(x_:∃u,h'.get? e=some u)
 (new:cP X.prog X.w (upd H x o) h' x o):Inv X pins σ (upd H x o) { s with heap:=h',toks:=t' }:=I.un (Un.write mu he k x_) (I.bB.write mu he k x_ new)
theorem Inv.yc {FU:List (Addr×Obj)}(I:Inv X pins σ H s)(h:∀p∈FU,s.heap.get? p.1=some p.2/\H p.1=none/\p.1≠X.env.locals/\p.1 ∉ X.fs /\ ∀v,p.2.data ≠ .cell v):Inv X FU σ H s :=
 ⟨I.ok,I.os,I.bare,I.base,I.loc,I.cell,I.free,I.iA,λp a=>(aaE.mp a).elim (λz=>I.pin p (ags _ z)) (h p),I.bB,I.len⟩
theorem vg {N:List Str}(hN:N.Nodup){i j:Nat}{x:Str}(a:N[i]? = some x)(b:N[j]? = some x):i=j:=by
 obtain⟨f,c⟩:=aaB.mp a
 obtain⟨h,e⟩:=aaB.mp b
 exact(afJ hN).mp (c.trans e.symm)
theorem tH {M:Model}{A:aaV}{E:Value->aat->Prop}{i:Nat}{x:Str}{v:V}{u:Value}{Q:Unit->aat->Prop}(I:Inv X pins σ H s)(hN:X.N.Nodup)(hi:X.N[i]? = some x)(hx:Loc X.env.scope x)(r:RelV v u)
   (h:∀s',Inv X pins (σ.set i (some v)) H s'->(∃a,acW a s.heap s'.heap/\(a=X.env.locals\/X.env.cells.lookup x=some a))->Q () s') (hf:X.fn x=true\/X.env.scope.names.lookup x=some .local:=by first|exact .inl rfl|exact .inr rfl|assumption):wpAny M A (storeName X.env x u) Q E s:=by
 obtain⟨m,hn,hl⟩:=id I.loc
 have T4:(X.env.scope.kind == .class||(X.env.scope.kind == .module&&X.env.locals != X.env.globals))=false:=by rw[I.ok.kind];rfl
 have ab:i < σ.length:=by rw[I.len];exact(aaB.mp hi).1
 have ve:=I.ve
 have tracked:∀{a:Addr} {h':Heap},(∃o,s.heap.get? a=some o/\H a=none)->acW a s.heap h'->fE X.prog X.w H h':=fun {a h'} ha f b ob e=>by
   obtain⟨_,_,qo⟩:=ha
   refine(I.bB b ob e).pO (λc w' hc q=>(f.2 c ?_).trans q) (λ_ q=>q) λ_ _ q=>q
   rintro rfl
   rcases hc with rfl|hc
   . rw[qo]at e;cases e
   . rw[qo]at hc;cases hc
 rcases hx with hk|hk
 . refine wpAny_storeName_local hk hn (λh' XB f=>?_) T4
   obtain⟨oL,_,_,tI,_⟩:=id hn
   refine h _ ⟨I.ok,I.os,I.bare,⟨λb o e n hb hx=>?_,λb o e n hb hx=>?_,I.base.free,λb o e hx=>?_,I.base.mL,I.base.lu,I.base.mM⟩,⟨_,XB,λj y v' l e2 e3=>?_⟩,λy c e=>?_,I.free,I.iA,λp hp=>?_,tracked ⟨oL,tI,I.free⟩ f,by simpa using I.len⟩ ⟨_,f,.inl rfl⟩
   . exact(f.2 b (aaN (aa0 (aaH e) I.ok.above))).trans (I.base.keep b o e n hb hx)
   . obtain⟨sl,l⟩:=I.base.slot b o e n hb hx
     exact⟨sl,(f.2 b (aaN (aa0 (aaH e) I.ok.above))).trans l⟩
   . obtain⟨o',l⟩:=I.base.there b o e hx
     exact⟨o',(f.2 b (aaN (aa0 (aaH e) I.ok.above))).trans l⟩
   . by_cases hj:j=i
     . subst hj
       rw[hi]at l;cases l
       rw[ab5 ab]at e2
       cases e2
       exact⟨u,r,.inl ⟨hk,by simp⟩⟩
     . rw[aaU (acg hj)]at e2
       obtain⟨u',r',q⟩:=hl j y v' l e2 e3
       refine⟨u',r',?_⟩
       rcases q with⟨k,e⟩|⟨k,c,e,z⟩
       . refine .inl ⟨k,?_⟩
         have:y≠x:=λe=>hj (vg hN l (e ▸ hi))
         simp[this,e]
       . exact .inr ⟨k,c,e,z.sameBut f (ve y c e)⟩
   . obtain⟨w',z⟩:=I.cell y c e
     exact⟨w',z.sameBut f (ve y c e)⟩
   . obtain⟨e,n,ne,nf,d⟩:=I.pin p hp
     exact⟨(f.2 p.1 ne).trans e,n,ne,nf,d⟩
 . have tJ:X.fn x=true:=by
     rcases hf with z|z
     . exact z
     . rw[z]at hk;cases hk
   obtain⟨c,hc⟩:=I.ok.has x (.inl hk)
   obtain⟨w',z⟩:=I.cell x c hc
   refine wpAny_storeName_cell I.ok.kind hk hc z (λh' mr f=>?_)
   obtain⟨oc,RA,T5⟩:=id z
   refine h { s with heap:=h' } ⟨I.ok,I.os,I.bare,⟨λb o e n hb hx=>?_,λb o e n hb hx=>?_,I.base.free,λb o e hx=>?_,I.base.mL,I.base.lu,I.base.mM⟩,⟨m,hn.sameBut f (acg (ve x c hc)),λj y v' l e2 e3=>?_⟩,λy c' e=>?_,I.free,I.iA,λp hp=>?_,tracked ⟨oc,RA,I.iA x c hc⟩ f,by simpa using I.len⟩ ⟨c,f,.inr hc⟩
   . exact(f.2 b (aaN (aa0 (aaH e) (I.ok.Ba x c tJ hc)))).trans (I.base.keep b o e n hb hx)
   . obtain⟨sl,l⟩:=I.base.slot b o e n hb hx
     exact⟨sl,(f.2 b (aaN (aa0 (aaH e) (I.ok.Ba x c tJ hc)))).trans l⟩
   . obtain⟨o',l⟩:=I.base.there b o e hx
     exact⟨o',(f.2 b (aaN (aa0 (aaH e) (I.ok.Ba x c tJ hc)))).trans l⟩
   . by_cases hj:j=i
     . subst hj
       rw[hi]at l;cases l
       rw[ab5 ab]at e2
       cases e2
       exact⟨u,r,.inr ⟨.inl hk,c,hc,mr⟩⟩
     . rw[aaU (acg hj)]at e2
       obtain⟨u',r',q⟩:=hl j y v' l e2 e3
       refine⟨u',r',?_⟩
       rcases q with q|⟨k,c',e,z'⟩
       . exact .inl q
       . refine .inr ⟨k,c',e,z'.sameBut f ?_⟩
         rintro rfl
         exact hj (vg hN l (I.ok.inj _ _ _ e hc ▸ hi))
   . by_cases RB:c'=c
     . subst RB;exact⟨_,mr⟩
     . obtain⟨w2,z2⟩:=I.cell y c' e
       exact⟨w2,z2.sameBut f RB⟩
   . obtain⟨e,n,ne,nf,d⟩:=I.pin p hp
     refine⟨(f.2 p.1 ?_).trans e,n,ne,nf,d⟩
     intro q
     rw[q,RA]at e
     have q':oc=p.2:=abN e
     exact d w' (by rw[<- q'];exact T5)
theorem ly {M:Model}{A:aaV}{E:Value->aat->Prop}{i:Nat}{x:Str}{v:V}{u:Value}{Q:Unit->aat->Prop}(I:Inv X pins σ H s)(hN:X.N.Nodup)(hi:X.N[i]? = some x)(hx:Loc X.env.scope x)(r:RelV v u)
  (h:∀s',Inv X pins (σ.set i (some v)) H s'->Q () s') (hf:X.fn x=true\/X.env.scope.names.lookup x=some .local:=by first|exact .inl rfl|exact .inr rfl|assumption):wpAny M A (storeName X.env x u) Q E s :=
 tH I hN hi hx r (λs' a _=>h s' a) hf
theorem Inv.Qb {s':aat}{ch:List Addr}(I:Inv X pins σ H s)(ho:s'.os=s.os)(u:Un (mq X.stack) ch H H' s.heap s'.heap)(bB:fE X.prog X.w H' s'.heap)(hg:aeE s'.gens)
  (pd:∀b∈ch,(b∈X.ex\/X.s₀.heap.objs.size<=b)/\b≠X.env.locals/\(∀x c,X.env.cells.lookup x=some c->c≠b) /\ ∀p∈X.pn++pins,p.1≠b):Inv X pins σ H' s':=by
 obtain⟨f,g',d',t',a⟩:=s'
 have e:a=s.os:=ho
 subst e
 exact I.call (g':=g') (t':=t') (d':=d') u bB hg pd
end
abbrev XK:=Value->Option Addr->Hp->Prop
abbrev St:=List (Option V)
abbrev VK:=V->Hp->Prop
abbrev TE:=St->Hp->VK->Prop
abbrev TT:=St->Hp->(Bool->Hp->Prop)->Prop
abbrev TA:=St->Hp->(List V->Hp->Prop)->Prop
structure Ends where
 nx:St->Hp->Prop
 rt:VK
 bk:St->Hp->Prop:=λ_ _=>False
 ct:St->Hp->Prop:=λ_ _=>False
abbrev TS:=Ends->St->Hp->Prop
def EP (X:Cx)(pins:List (Addr×Obj))(σ:St)(Q:VK)(u:Value)(s':aat):Prop:=∃v H',Inv X pins σ H' s'/\RelV v u/\Q v H'
def TP (X:Cx)(pins:List (Addr×Obj))(σ:St)(Q:Bool->Hp->Prop)(b:Bool)(s':aat):Prop:=∃H',Inv X pins σ H' s'/\Q b H'
def AP (X:Cx)(pins:List (Addr×Obj))(σ:St)(Q:List V->Hp->Prop)(us:List Value)(s':aat):Prop:=∃vs H',Inv X pins σ H' s'/\Vals vs us/\Q vs H'
noncomputable def SP (X:Cx)(pins:List (Addr×Obj))(D:Ends)(f:Flow)(s':aat):Prop :=
 match f with
 |.next=>∃σ' H',Inv X pins σ' H' s'/\D.nx σ' H'
 |.brk=>∃σ' H',Inv X pins σ' H' s'/\D.bk σ' H'
 |.cont=>∃σ' H',Inv X pins σ' H' s'/\D.ct σ' H'
 |.ret u=>∃v σ' H',Inv X pins σ' H' s'/\RelV v u/\D.rt v H'
noncomputable def PE (X:Cx)(e:Expr)(t:TE):Prop :=
 ∀(pins:List (Addr×Obj)) (s:aat) (σ:St) (H:Hp) (Q:VK),Inv X pins σ H s->t σ H Q->wpAny (model X.prog X.w) X.A (eval e X.env) (EP X pins σ Q) X.xe s
noncomputable def PT (X:Cx)(e:Expr)(t:TT):Prop :=
 ∀(pins:List (Addr×Obj)) (s:aat) (σ:St) (H:Hp) (Q:Bool->Hp->Prop),Inv X pins σ H s->t σ H Q->wpAny (model X.prog X.w) X.A (isTrue e X.env (eval e X.env)) (TP X pins σ Q) X.xe s
noncomputable def PW (X:Cx)(e:Expr)(t:TT):Prop :=
 ∀(whole:Sem Value) (pins:List (Addr×Obj)) (s:aat) (σ:St) (H:Hp) (Q:Bool->Hp->Prop),Inv X pins σ H s->t σ H Q->wpAny (model X.prog X.w) X.A (isTrue e X.env whole) (TP X pins σ Q) X.xe s
theorem PW.pt {X:Cx}{e:Expr}{t:TT}(h:PW X e t):PT X e t:=h _
noncomputable def PA (X:Cx)(es:List Expr)(t:TA):Prop :=
 ∀(pos:Pos) (pins:List (Addr×Obj)) (s:aat) (σ:St) (H:Hp) (Q:List V->Hp->Prop),Inv X pins σ H s->t σ H Q->wpAny (model X.prog X.w) X.A (spliced (adl pos (aaZ es X.env))) (AP X pins σ Q) X.xe s
noncomputable def PS (X:Cx)(st:Stmt)(t:TS):Prop :=
 ∀(pins:List (Addr×Obj)) (s:aat) (σ:St) (H:Hp) (D:Ends),Inv X pins σ H s->t D σ H->wpAny (model X.prog X.w) X.A (exec st X.env) (SP X pins D) X.xe s
noncomputable def gR (X:Cx)(st:List Stmt)(t:TS):Prop :=
 ∀(pins:List (Addr×Obj)) (s:aat) (σ:St) (H:Hp) (D:Ends),Inv X pins σ H s->t D σ H->wpAny (model X.prog X.w) X.A (execs st X.env) (SP X pins D) X.xe s
theorem aT {α:Type}{t:Sem α}{Q Q':α->aat->Prop}{M:Model}{A:aaV}{E:Value->aat->Prop}{s:aat}(h:wpAny M A t Q E s)(hQ:∀a s,Q a s->Q' a s):wpAny M A t Q' E s:=aeK h hQ λ_ _ x=>x
section
variable {X:Cx}
noncomputable def T6 (i:Nat):TE:=λσ H Q=>∃v,σ[i]? = some (some v)/\Q v H
noncomputable def tC (v:V):TE:=λ_ H Q=>Q v H
theorem KJ {i:Nat}{x:Str}{pos:Pos}(hN:X.N[i]? = some x)(hv:KG X.env.scope x)(hd:(x == ("__debug__":Str))=false:=by decide)(j3:(x == ("__classdict__":Str))=false:=by decide):PE X (.Name x pos) (T6 i):=by
 intro pins s σ H Q I h
 obtain⟨v,e,h⟩:=h
 obtain⟨m,b,a⟩:=I.loc
 obtain⟨u,r,l⟩:=a i x v hN e hv
 have fin:EP X pins σ Q u s:=⟨v,H,I,r,h⟩
 rcases l with⟨hk,hm⟩|⟨hk,c,hc,uG⟩
 . exact wpAny_Name (wpAny_loadName_local I.ok.kind hk b hm fin) hd
 . rcases hk with hk|hk
   . exact wpAny_Name (wpAny_loadName_cell I.ok.kind hk hc uG fin) hd
   . exact wpAny_Name (wpAny_loadName_free I.ok.kind hk hc uG fin j3) hd
theorem KL {i j pos}:PE X (.Constant (.int i) j pos) (tC (.int i)):=λ_ _ _ H _ I h=>wpAny_Constant_int ⟨.int i,H,I.tok _,⟨_,rfl⟩,h⟩
theorem Qc {b j pos}:PE X (.Constant (.bool b) j pos) (tC (.bl b)):=λ_ _ _ H _ I h=>Constant_bool ⟨.bl b,H,I,rfl,h⟩
theorem KN {j pos}:PE X (.Constant .none j pos) (tC .ay):=λ_ _ _ H _ I h=>Constant_none ⟨.ay,H,I,rfl,h⟩
theorem KO {x j pos}:PE X (.Constant (.str x) j pos) (tC (.str x)):=λ_ _ _ H _ I h=>ag2 ⟨.str x,H,I.tok _,⟨_,rfl⟩,h⟩
def Gl (X:Cx)(x:Str):Prop:=X.env.kindOf x=some .globalImplicit
theorem rZ {E:Value->aat->Prop}{pins:List (Addr×Obj)}{s:aat}{σ:St}{H:Hp}{x:Str}{u:Value}{pos:Pos}{Q:Value->aat->Prop}(I:Inv X pins σ H s)(hg:Gl X x)(hm:X.mg x=some u)(h:Q u s)
  (hd:(x == ("__debug__":Str))=false:=by decide):wpAny (model X.prog X.w) X.A (eval (.Name x pos) X.env) Q E s :=
 afn I.ok.kind hg (Calls.loadGlobal_global (by rw[I.ok.glob];exact I.mod.glob.keeps I.bk) hm h) hd
theorem iG {E:Value->aat->Prop}{pins:List (Addr×Obj)}{s:aat}{σ:St}{H:Hp}{x:Str}{u:Value}{pos:Pos}{Q:Value->aat->Prop}(I:Inv X pins σ H s)(hg:Gl X x)(hm:X.mg x=none)(hv:acq x=some u)(h:Q u s)
  (hn:x ≠ "__name__":=by decide) (hd:(x == ("__debug__":Str))=false:=by decide):wpAny (model X.prog X.w) X.A (eval (.Name x pos) X.env) Q E s:=by
 obtain⟨c,a,b⟩:=I.mod.blt
 exact afn I.ok.kind hg (Calls.loadGlobal_builtin (by rw[I.ok.glob];exact I.mod.glob.keeps I.bk) hm (by rw[I.ok.blt];exact a.keeps I.bk) ((b x hn).trans hv) h) hd
theorem yd {x:Str}{v:V}{u:Value}{pos:Pos}(hg:Gl X x)(hm:X.mg x=some u)(r:RelV v u)(hd:(x == ("__debug__":Str))=false:=by decide):PE X (.Name x pos) (tC v):=
 λ_ _ _ H _ I h=>rZ I hg hm ⟨v,H,I,r,h⟩ hd
theorem Il {x:Str}{v:V}{u:Value}{pos:Pos}(hg:Gl X x)(hm:X.mg x=none)(hv:acq x=some u)(r:RelV v u)(hn:x ≠ "__name__":=by decide)(hd:(x == ("__debug__":Str))=false:=by decide):PE X (.Name x pos) (tC v):=
 λ_ _ _ H _ I h=>iG I hg hm hv ⟨v,H,I,r,h⟩ hn hd
variable {a b:Expr}{ta tb:TE}{pos:Pos}
noncomputable def tB (t:TE):TT:=λσ H Q=>t σ H λx H1=>∃c,x = .bl c/\Q c H1
variable {tA FV:TT}{rest:List Expr}
noncomputable def T7 (t u:TT):TT:=λσ H Q=>t σ H λc H1=>if c=true then u σ H1 Q else Q false H1
noncomputable def XC (t u:TT):TT:=λσ H Q=>t σ H λc H1=>if c=true then Q true H1 else u σ H1 Q
noncomputable def T8 (t:TT):TT:=λσ H Q=>t σ H λc H1=>Q (!c) H1
theorem Im (ha:PT X a tA):PW X (.BoolOp .And [a] pos) tA:=by
 intro b pins s σ H Q I h
 refine isTrue_and (aT (ha pins s σ H Q I h) λc s1 e=>?_)
 cases c with
 |true=>exact isTrue_and_nil e
 |false=>exact e
theorem KP (ha:PT X a tA):PW X (.BoolOp .Or [a] pos) tA:=by
 intro b pins s σ H Q I h
 refine isTrue_or (aT (ha pins s σ H Q I h) λc s1 e=>?_)
 cases c with
 |false=>exact isTrue_or_nil e
 |true=>exact e
theorem KQ (ha:PT X a tA)(hb:PW X (.BoolOp .And (b::rest) pos) FV):PW X (.BoolOp .And (a::b::rest) pos) (T7 tA FV):=by
 intro i pins s σ H Q I h
 refine isTrue_and (aT (ha pins s σ H _ I h) λc s1 ⟨H1,e,f⟩=>?_)
 cases c with
 |true=>exact hb i pins s1 σ H1 Q e f
 |false=>exact⟨H1,e,f⟩
theorem Qd (ha:PT X a tA)(hb:PW X (.BoolOp .Or (b::rest) pos) FV):PW X (.BoolOp .Or (a::b::rest) pos) (XC tA FV):=by
 intro i pins s σ H Q I h
 refine isTrue_or (aT (ha pins s σ H _ I h) λc s1 ⟨H1,e,f⟩=>?_)
 cases c with
 |true=>exact⟨H1,e,f⟩
 |false=>exact hb i pins s1 σ H1 Q e f
theorem KR (ha:PT X a tA):PT X (.UnaryOp .Not a pos) (T8 tA):=by
 intro pins s σ H Q I h
 exact isTrue_not (ha pins s σ H (λc H1=>Q (!c) H1) I h)
noncomputable def Qe (ta tb:TE):TE:=λσ H Q=>ta σ H λx H1=>∃c,x = .bl c/\if c=true then tb σ H1 Q else Q (.bl false) H1
noncomputable def T9 (ta tb:TE):TE:=λσ H Q=>ta σ H λx H1=>∃c,x = .bl c/\if c=true then Q (.bl true) H1 else tb σ H1 Q
noncomputable def Qf (ta:TE):TE:=λσ H Q=>ta σ H λx H1=>∃c,x = .bl c/\Q (.bl (!c)) H1
theorem KS {op}{t:TE}(h:PE X a t):PE X (.BoolOp op [a] pos) t:=λpins s σ H Q I hw=>BoolOp_one (h pins s σ H Q I hw)
theorem KU (ha:PE X a ta)(hb:PE X (.BoolOp .And (b::rest) pos) tb):PE X (.BoolOp .And (a::b::rest) pos) (Qe ta tb):=by
 intro pins s σ H Q I h
 refine BoolOp_and (aT (ha pins s σ H _ I h) λv s1 ⟨x,H1,f,i,e⟩=>?_)
 obtain⟨c,rfl,e⟩:=e
 cases i
 refine abq ?_
 cases c with
 |true=>exact hb pins s1 σ H1 Q f e
 |false=>exact⟨.bl false,H1,f,rfl,e⟩
theorem Qg (ha:PE X a ta)(hb:PE X (.BoolOp .Or (b::rest) pos) tb):PE X (.BoolOp .Or (a::b::rest) pos) (T9 ta tb):=by
 intro pins s σ H Q I h
 refine BoolOp_or (aT (ha pins s σ H _ I h) λv s1 ⟨x,H1,f,i,e⟩=>?_)
 obtain⟨c,rfl,e⟩:=e
 cases i
 refine abq ?_
 cases c with
 |false=>exact hb pins s1 σ H1 Q f e
 |true=>exact⟨.bl true,H1,f,rfl,e⟩
theorem KY (ha:PE X a ta):PE X (.UnaryOp .Not a pos) (Qf ta):=by
 intro pins s σ H Q I h
 refine UnaryOp_ (aT (ha pins s σ H _ I h) λv s1 ⟨x,H1,f,e,b⟩=>?_)
 obtain⟨c,rfl,b⟩:=b
 cases e
 exact not_of (abq ⟨.bl (!c),H1,f,rfl,b⟩)
noncomputable def XD (t:TT)(ta tb:TE):TE:=λσ H Q=>t σ H λc H1=>if c=true then ta σ H1 Q else tb σ H1 Q
theorem DF {c:Expr}(hc:PT X c tA)(ha:PE X a ta)(hb:PE X b tb):PE X (.IfExp c a b pos) (XD tA ta tb):=by
 intro pins s σ H Q I h
 refine wpAny_IfExp (aT (hc pins s σ H _ I h) λd s1 ⟨H1,e,f⟩=>?_)
 cases d with
 |true=>exact ha pins s1 σ H1 Q e f
 |false=>exact hb pins s1 σ H1 Q e f
end
noncomputable def da (K:aaI)(H:Hp)(a:Addr)(xs:List V):Prop :=
 Rd H a (.lst xs) \/
  ∃(o:Obj) (au:Array Value) (n:Nat),K.lookup a=some o/\o.cls = .type "list" /\ o.dict=none/\o.data = .seq au n/\au.size<=aaP/\Vals xs au.toList
noncomputable def dS (K:aaI)(H:Hp)(a:Addr)(xs:List V):Prop :=
 Rd H a (.tup xs) \/
  ∃(o:Obj) (au:Array Value) (n:Nat),K.lookup a=some o/\o.cls = .type "tuple" /\ o.dict=none/\o.data = .seq au n/\au.size<=aaP/\Vals xs au.toList
noncomputable def T_:Value->Option V
 |.none=>some .ay
 |.bool b=>some (.bl b)
 |.int i _=>some (.int i)
 |.str x _=>some (.str x)
 |.bytes b _=>some (.A9 b)
 |.float b _=>some (.gi b)
 |.ref a=>some (.ref a)
 |.type n=>some (.ty n)
 |_=>none
theorem RelV.abs {x:V}{u:Value}(r:RelV x u):T_ u=some x:=by
 cases x with
 |ay=>cases r;rfl
 |bl _=>cases r;rfl
 |int _=>obtain⟨t,rfl⟩:=r;rfl
 |str _=>obtain⟨t,rfl⟩:=r;rfl
 |A9 _=>obtain⟨t,rfl⟩:=r;rfl
 |gi _=>obtain⟨t,rfl⟩:=r;rfl
 |ref _=>cases r;rfl
 |ty _=>cases r;rfl
theorem RelV.inj {x y:V}{u:Value}(r:RelV x u)(q:RelV y u):x=y:=abN (r.abs.symm.trans q.abs)
theorem Vals.inj:∀{xs ys:List V} {us:List Value},Vals xs us->Vals ys us->xs=ys
 |_,_,_,.nil,.nil=>rfl
 |_,_,_,.cons r t,.cons r' t'=>by rw[r.inj r',Vals.inj t t']
section
variable {X:Cx}{pins:List (Addr×Obj)}{σ:St}{H:Hp}{s:aat}{a:Addr}{xs ys:List V}
theorem da.of {K:aaI}(h:H a=some (.lst xs)):da K H a xs:=.inl (.inl h)
theorem Inv.list (I:Inv X pins σ H s)(h:da X.K H a xs):∃au:List Value,Vals xs au/\PlainL s.heap a au.toArray/\xs.length<=aaP:=by
 rcases h with h|⟨o,au,n,hk,hc,hd,hs,hz,r⟩
 . obtain⟨z,au,n,r,e⟩:=h.ok I.bB
   exact⟨au,r,⟨_,n,e,rfl,rfl,rfl⟩,z⟩
 . refine⟨au.toList,r,⟨o,n,I.iZ a o hk,hc,hd,by simpa using hs⟩,?_⟩
   have e:=r.length
   simp only[adw]at e
   omega
theorem Inv.KZ (I:Inv X pins σ H s)(h:dS X.K H a xs):∃au:List Value,Vals xs au/\fD s.heap a au.toArray/\xs.length<=aaP:=by
 rcases h with h|⟨o,au,n,hk,hc,hd,hs,hz,r⟩
 . obtain⟨z,au,r,p⟩:=h.ok I.bB
   exact⟨au,r,p,z⟩
 . refine⟨au.toList,r,⟨o,I.iZ a o hk,hc,⟨n,by simpa using hs⟩,hd⟩,?_⟩
   have e:=r.length
   simp only[adw]at e
   omega
theorem Inv.tuple (I:Inv X pins σ H s)(h:dS X.K H a xs):∃au:List Value,Vals xs au/\IsTup s.heap a au.toArray/\xs.length<=aaP :=
 let⟨au,r,p,z⟩:=I.KZ h
 ⟨au,r,p.t,z⟩
theorem Inv.vh (I:Inv X pins σ H s)(h:da X.K H a xs)(h':da X.K H a ys):xs=ys:=by
 obtain⟨i,r,⟨o,n,e,_,_,d⟩,_⟩:=I.list h
 obtain⟨its',f,⟨j,k,c,_,_,b⟩,_⟩:=I.list h'
 rw[e]at c;cases c
 rw[d]at b
 injection b with d1 _
 have:i=its':=by simpa using congrArg ag3 d1
 subst this
 exact r.inj f
theorem Inv.mN (I:Inv X pins σ H s)(h:dS X.K H a xs)(h':dS X.K H a ys):xs=ys:=by
 obtain⟨i,r,⟨o,e,_,n,d⟩,_⟩:=I.tuple h
 obtain⟨its',f,⟨j,c,_,k,b⟩,_⟩:=I.tuple h'
 rw[e]at c;cases c
 rw[d]at b
 injection b with d1 _
 have:i=its':=by simpa using congrArg ag3 d1
 subst this
 exact r.inj f
end
noncomputable abbrev Cx.kr (X:Cx)(E:Value->aat->Prop):Cx:={ X with xe:=E }
noncomputable abbrev Cx.ye (X:Cx):Cx:=X.kr λ_ _=>False
theorem Cx.Ok.kr {X:Cx}(ok:X.Ok)(E:Value->aat->Prop):(X.kr E).Ok :=
 ⟨ok.mod,ok.kind,ok.glob,ok.blt,ok.above,ok.inj,ok.has,ok.Ba,ok.hd,ok.frames,ok.vb,ok.KH,ok.bs,ok.tG,ok.vc,ok.vd,ok.jz,ok.ya⟩
theorem Cx.Ok.iH {X:Cx}{E:Value->aat->Prop}(ok:(X.kr E).Ok):X.Ok :=
 ⟨ok.mod,ok.kind,ok.glob,ok.blt,ok.above,ok.inj,ok.has,ok.Ba,ok.hd,ok.frames,ok.vb,ok.KH,ok.bs,ok.tG,ok.vc,ok.vd,ok.jz,ok.ya⟩
section
variable {X:Cx}{pins:List (Addr×Obj)}{σ:St}{H:Hp}{s:aat}{E:Value->aat->Prop}
theorem Inv.kr (I:Inv X pins σ H s)(E:Value->aat->Prop):Inv (X.kr E) pins σ H s:=⟨I.ok.kr E,I.os,I.bare,I.base,I.loc,I.cell,I.free,I.iA,I.pin,I.bB,I.len⟩
theorem Inv.iH (I:Inv (X.kr E) pins σ H s):Inv X pins σ H s:=⟨I.ok.iH,I.os,I.bare,I.base,I.loc,I.cell,I.free,I.iA,I.pin,I.bB,I.len⟩
theorem SP.iH {D:Ends}{f:Flow}{s':aat}(h:SP (X.kr E) pins D f s'):SP X pins D f s':=by
 cases f with
 |next=>obtain⟨a,b,I,q⟩:=h;exact⟨a,b,I.iH,q⟩
 |brk=>obtain⟨a,b,I,q⟩:=h;exact⟨a,b,I.iH,q⟩
 |cont=>obtain⟨a,b,I,q⟩:=h;exact⟨a,b,I.iH,q⟩
 |ret u=>obtain⟨v,a,b,I,r,q⟩:=h;exact⟨v,a,b,I.iH,r,q⟩
theorem gR.ye {st:List Stmt}{t:TS}(h:gR X.ye st t):gR X st t:=λpins s σ H D I hw =>
 aeK (h pins s σ H D (I.kr _) hw) (λ_ _ q=>q.iH) λ_ _ z=>ada z
end
section
variable {X:Cx}{st:Stmt}{rest:List Stmt}{t u:TS}{e:Expr}{te:TE}{pos:Pos}
noncomputable def zF:TS:=λD σ H=>D.nx σ H
noncomputable def Ua (t u:TS):TS:=λD σ H=>t { D with nx:=u D } σ H
theorem Io:gR X [] zF:=λ_ _ σ H _ I h=>aeL ⟨σ,H,I,h⟩
theorem DH (h1:PS X st t)(h2:gR X rest u):gR X (st::rest) (Ua t u):=by
 intro pins s σ H D I h
 refine wpAny_execs_cons (aT (h1 pins s σ H { D with nx:=u D } I h) λf s1 q=>?_)
 cases f with
 |next =>
  obtain⟨b,c,a,q⟩:=q
  exact h2 pins s1 b c D a q
 |ret v=>exact q
 |brk=>exact q
 |cont=>exact q
theorem Ip (h1:PS X st t):gR X [st] t:=by
 intro pins s σ H D I h
 refine wpAny_execs_cons (aT (h1 pins s σ H D I h) λf s1 q=>?_)
 cases f with
 |next=>exact aeL q
 |ret v=>exact q
 |brk=>exact q
 |cont=>exact q
noncomputable def Qh:TS:=λD σ H=>D.ct σ H
theorem Iq:PS X (.Pass pos) zF:=λ_ _ σ H _ I h=>wpAny_Pass ⟨σ,H,I,h⟩
theorem xV:PS X (.Continue pos) Qh:=λ_ _ σ H _ I h=>wpAny_Continue ⟨σ,H,I,h⟩
theorem Inv.quiet {pins:List (Addr×Obj)}{σ:St}{H:Hp}{s:aat}(I:Inv X pins σ H s):interactive X.env=false:=by simp[interactive,I.ok.kind]
theorem K0 {x j pos pos'}:PS X (.Expr (.Constant (.str x) j pos) pos') zF:=λ_ s σ H _ I h=>wpAny_Expr (ag2 (show SP X _ _ .next { s with toks:=s.toks+1 } from⟨σ,H,I.tok _,h⟩)) I.quiet
noncomputable def Qi (te:TE):TS:=λD σ H=>te σ H λ_ H1=>D.nx σ H1
theorem Ir (he:PE X e te)(hs:adW e none pos.line X.env=pure false:=by rfl):PS X (.Expr e pos) (Qi te):=by
 intro pins s σ H D I h
 exact wpAny_Expr_any (aT (he pins s σ H _ I h) λv s1 ⟨x,H1,a,c,b⟩=>⟨σ,H1,a,b⟩) I.quiet hs
noncomputable def Ub (te:TE):TS:=λD σ H=>te σ H D.rt
theorem K1 (he:PE X e te):PS X (.Return (some e) pos) (Ub te):=by
 intro pins s σ H D I h
 exact wpAny_Return_some (aT (he pins s σ H _ I h) λv s1 ⟨x,H1,b,a,c⟩=>⟨x,σ,H1,b,a,c⟩)
noncomputable def Uc (c:TT)(t u:TS):TS:=λD σ H=>c σ H λb H1=>if b=true then t D σ H1 else u D σ H1
theorem Qj {c:Expr}{a b:List Stmt}{tc:TT}(hc:PT X c tc)(ha:gR X a t)(hb:gR X b u):PS X (.If c a b pos) (Uc tc t u):=by
 intro pins s σ H D I h
 refine wpAny_If (aT (hc pins s σ H _ I h) λd s1 ⟨H1,e,f⟩=>?_)
 cases d with
 |true=>exact ha pins s1 σ H1 D e f
 |false=>exact hb pins s1 σ H1 D e f
end
abbrev TG:=V->St->Hp->(St->Hp->Prop)->Prop
abbrev tK:=List V->St->Hp->(St->Hp->Prop)->Prop
noncomputable def PG (X:Cx)(target:Expr)(t:TG):Prop :=
 ∀(pins:List (Addr×Obj)) (s:aat) (σ:St) (H:Hp) (v:V) (u:Value) (Q:St->Hp->Prop),Inv X pins σ H s->RelV v u->t v σ H Q ->
  wpAny (model X.prog X.w) X.A (ad3 target X.env u) (λ_ a=>∃σ' H',Inv X pins σ' H' a/\Q σ' H') X.xe s
noncomputable def pe (X:Cx)(ts:List Expr)(t:tK):Prop :=
 ∀(pins:List (Addr×Obj)) (s:aat) (σ:St) (H:Hp) (vs:List V) (us:List Value) (Q:St->Hp->Prop),Inv X pins σ H s->Vals vs us->t vs σ H Q ->
  wpAny (model X.prog X.w) X.A (agD ((ab2 ts X.env).map (·.2)) us) (λ_ a=>∃σ' H',Inv X pins σ' H' a/\Q σ' H') X.xe s
abbrev DJ:=V->V->V->Hp->(Hp->Prop)->Prop
noncomputable def DL (X:Cx)(t:DJ):Prop :=
 ∀(pins:List (Addr×Obj)) (s:aat) (σ:St) (H:Hp) (o i v:V) (ov iv u:Value) (Q:Hp->Prop),Inv X pins σ H s->RelV o ov->RelV i iv->RelV v u->t o i v H Q ->
  wpAny (model X.prog X.w) X.A (ahp ov iv u) (λ_ a=>∃H',Inv X pins σ H' a/\Q H') X.xe s
section
variable {X:Cx}{pos:Pos}
noncomputable def FW (i:Nat):TG:=λv σ H Q=>Q (σ.set i (some v)) H
theorem Iu {i:Nat}{x:Str}(hN:X.N.Nodup)(hi:X.N[i]? = some x)(hx:Loc X.env.scope x)(hf:X.fn x=true\/X.env.scope.names.lookup x=some .local:=by first|exact .inl rfl|exact .inr rfl|assumption):PG X (.Name x pos) (FW i):=by
 intro pins s σ H v u Q I r h
 exact wpAny_assign_Name (ly I hN hi hx r (λb a=>⟨_,H,a,h⟩) hf)
noncomputable def Ud:tK:=λa σ H Q=>a = []/\Q σ H
noncomputable def Qk (t:TG)(u:tK):tK:=λa σ H Q=>∃v r,a=v::r/\t v σ H λb c=>u r b c Q
theorem Iv:pe X [] Ud:=by
 intro pins s σ H a us Q I r h
 obtain⟨e,h⟩:=h
 subst e
 cases r
 exact assignInOrder_nil ⟨σ,H,I,h⟩
theorem DM {e:Expr}{es:List Expr}{t:TG}{u:tK}(h1:PG X e t)(h2:pe X es u)
  (hs:(ab2 (e::es) X.env).map (·.2)=ad3 e X.env::(ab2 es X.env).map (·.2):=by rfl):pe X (e::es) (Qk t u):=by
 intro pins s σ H j us Q I r h
 obtain⟨v,i,f,h⟩:=h
 subst f
 cases r with
 |cons r rr =>
  rw[hs]
  refine afe (aT (h1 pins s σ H _ _ _ I r h) λ_ s1 ⟨a,H1,c,b⟩=>?_)
  exact h2 pins s1 a H1 _ _ Q c rr b
noncomputable def Ue (K:aaI)(n:Nat)(t:tK):TG:=λv σ H Q=>∃a xs,v = .ref a/\dS K H a xs/\xs.length=n/\t xs σ H Q
theorem K2 {es:List Expr}{k:Nat}{t:tK}{n:Nat}(hc:X.calm=true)(h:pe X es t)
  (hn:(ab2 es X.env).length=n:=by rfl) (ck:(ab2 es X.env).findIdx? (·.1)=none:=by rfl):PG X (.Tuple es k pos) (Ue X.K n t):=by
 intro pins s σ H v u Q I r hw
 obtain⟨a,xs,p,f,x,hw⟩:=hw
 subst p
 cases r
 obtain⟨z,c,j,y⟩:=I.tuple f
 refine assign_Tuple_tuple (I.ok.hd hc) j (by simp[hn,<- x,c.length]) ck λq i=>?_
 have l:Inv X pins σ H { s with heap:=q }:=I.kept (t':=s.toks) λb o e=>i b o (aaN (aaH e)) e
 exact h pins _ σ H xs _ Q l (by simpa using c) hw
noncomputable def Ug (to ti:TE)(t:DJ):TG:=λv σ H Q=>to σ H λo H1=>ti σ H1 λi b=>t o i v b λa=>Q σ a
theorem K3 {o i:Expr}{to ti:TE}{t:DJ}(ho:PE X o to)(hi:PE X i ti)(hs:DL X t)
  (ha:∀v,ad3 (.Subscript o i pos) X.env v=(do
   let ov <- adh [v] (eval o X.env)
   let iv <- adh [v,ov] (eval i X.env)
   age pos
   adh [v,ov,iv] (ahp ov iv v)
   release [v,ov,iv] []):=by intro _;rfl):PG X (.Subscript o i pos) (Ug to ti t):=by
 intro pins s σ H v u Q I r h
 rw[ha]
 refine aas (aa1 (aT (ho pins s σ H _ I h) λov s1 ⟨x,H1,j,l,f⟩=>?_))
 refine aas (aa1 (aT (hi pins s1 σ H1 _ j f) λiv s2 ⟨y,e,k,b,n⟩=>?_))
 refine aas (aey (aas (aa1 (aT (hs pins s2 σ e x y v ov iv u _ k l b r n) λ_ s3 ⟨a,c,p⟩=>?_))))
 exact wpAny_release ⟨σ,a,c,p⟩
noncomputable def DN (te:TE)(g:TG):TS:=λD σ H=>te σ H λx H1=>g x σ H1 D.nx
theorem K4 {tg e:Expr}{te:TE}{g:TG}(he:PE X e te)(hg:PG X tg g)(hs:ad4 [tg] e pos.line X.env=pure false:=by rfl)(hw:adz [tg] e X.env=pure none:=by rfl)
  (h1:(ab2 [tg] X.env).map (·.2)= [ad3 tg X.env]:=by rfl):PS X (.Assign [tg] e pos) (DN te g):=by
 intro pins s σ H D I h
 refine wpAny_Assign_stores (aT (he pins s σ H _ I h) λv s1 ⟨x,H1,b,a,c⟩=>?_) hs hw
 rw[h1]
 exact aT (hg pins s1 σ H1 x v _ b a c) λ_ s2 q=>q
theorem K5 {i:Nat}{x:Str}{e:Expr}{te:TE}{pos':Pos}(hN:X.N.Nodup)(hi:X.N[i]? = some x)(hx:Loc X.env.scope x)(he:PE X e te)(hs:adW e (some (.Name x pos')) pos.line X.env=pure false:=by rfl)(hf:X.fn x=true\/X.env.scope.names.lookup x=some .local:=by first|exact .inl rfl|exact .inr rfl|assumption):
  PS X (.Assign [.Name x pos'] e pos) (DN te (FW i)):=by
 intro pins s σ H D I h
 refine wpAny_Assign_Name (aT (he pins s σ H _ I h) λv s1 ⟨y,H1,b,a,f⟩=>?_) hs
 exact ly b hN hi hx a (λs2 c=>⟨_,H1,c,f⟩) hf
noncomputable def Uh (i j:Nat)(ta:TA):TS:=λD σ H=>ta σ H λa H1=>∃v w,a = [v,w]/\D.nx ((σ.set i (some v)).set j (some w)) H1
theorem K6 {i j:Nat}{x y:Str}{a b:Expr}{ta:TA}{px py pt:Pos}{kt k2 mv}(hc:X.calm=true)(hN:X.N.Nodup)(hi:X.N[i]? = some x)(hj:X.N[j]? = some y)(vk:i≠j)
  (hx:X.env.scope.names.lookup x=some .local) (hy:X.env.scope.names.lookup y=some .local) (ha:PA X [a,b] ta)
  (hw:adz [.Tuple [.Name x px,.Name y py] kt pt] (.Tuple [a,b] k2 mv) X.env=pure (some [x,y]))
  (hs:ad4 [.Tuple [.Name x px,.Name y py] kt pt] (.Tuple [a,b] k2 mv) pos.line X.env=pure false:=by rfl):
  PS X (.Assign [.Tuple [.Name x px,.Name y py] kt pt] (.Tuple [a,b] k2 mv) pos) (Uh i j ta):=by
 intro pins s σ H D I h
 rw[exec_Assign_arm]
 refine aas (aey ?_)
 rw[hs]
 refine aas (aau ?_)
 rw[if_neg (by decide)]
 refine aas (Tuple_ (aT (ha _ pins s σ H _ I h) λus s1 ⟨vs,H1,z,r1,f⟩=>?_))
 obtain⟨v,w,e1,f⟩:=f
 subst e1
 obtain⟨c,u2,rfl,l,u⟩:∃c u2,us = [c,u2]/\RelV v c/\RelV w u2:=by
  cases r1 with
  |cons p q =>
   cases q with
   |cons p' q' =>
    cases q'
    exact⟨_,_,rfl,p,p'⟩
 refine aba ?_ (by show 2<=aaP;decide)
 have I2:Inv X pins σ H1 { s1 with heap:=s1.heap.push { cls:=.type "tuple",data:=.seq [c,u2].toArray } }:=z.kept (t':=s1.toks) λb o e=>aaw _ e
 rw[hw]
 refine aas (aau ?_)
 show wpAny (model X.prog X.w) X.A (do rule "assign.swapped-stores";let items <- unpackItems (.ref s1.heap.objs.size) 2 none;agD [λv=>bindName X.env y v,λv=>bindName X.env x v] items.reverse;pure Flow.next) _ _ _
 refine aas (ab8 (aas (unpackItems_tuple (items:=#[c,u2]) (I.ok.hd hc) (IsTup.new s1.heap _) λh' n=>?_)))
 have r:=I2.kept (h':=h') (t':=s1.toks) λb o e=>n b o (aaN (aaH e)) e
 show wpAny _ _ (agD [λv=>bindName X.env y v,λv=>bindName X.env x v] [u2,c] >>= λ_=>pure Flow.next) _ _ _
 refine aas (afe (wpAny_bindName (ly r hN hj (.inl hy) u (λs2 I4=>?_) (.inr hy))))
 refine afe (wpAny_bindName (ly I4 hN hi (.inl hx) l (λs3 k=>assignInOrder_nil (aau ?_)) (.inr hx)))
 rw[List.set_comm _ _ (acg vk)]at k
 exact⟨_,H1,k,f⟩
end
section
variable {X:Cx}{pos:Pos}
noncomputable def K7 (c:TT)(tb:TS):TS:=λD σ H=>∃W:Nat->St->Hp->Prop,(∃m,W m σ H) /\ ∀m σ H,W m σ H ->
 c σ H λb H1=>if b=true then ∃N:St->Hp->Prop,(∀σ' H',N σ' H'->∃m',m' < m/\W m' σ' H')/\tb { D with nx:=N,ct:=N,bk:=D.nx } σ H1 else D.nx σ H1
theorem DP {c:Expr}{body:List Stmt}{tc:TT}{tb:TS}(hp:aeF (model X.prog X.w) X.A X.env X.xe)(hc:PT X c tc)(hb:gR X body tb):PS X (.While c body [] pos) (K7 tc tb):=by
 intro pins s σ H D I h
 obtain⟨W,⟨m0,z⟩,turn⟩:=h
 refine wpAny_While (codeAny_whileLoop (λn s'=>∃σ' H',Inv X pins σ' H' s'/\W n σ' H') ?_ m0 ⟨σ,H,I,z⟩)
 rintro n s1 ⟨i,H1,I1,y⟩
 refine ac3 hp (aT (hc pins s1 i H1 _ I1 (turn n i H1 y)) λb s2 ⟨r,x,k⟩=>?_)
 cases b with
 |true =>
  obtain⟨N,u,k⟩:=k
  rw[if_pos rfl]
  refine ac3 hp (aT (hb pins s2 i r _ x k) λf s3 j=>?_)
  cases f with
  |next =>
   obtain⟨e,a,o,l⟩:=j
   obtain⟨p,hm,q⟩:=u e a l
   exact⟨p,hm,e,a,o,q⟩
  |cont =>
   obtain⟨e,a,o,l⟩:=j
   obtain⟨p,hm,q⟩:=u e a l
   exact⟨p,hm,e,a,o,q⟩
  |brk=>exact j
  |ret v=>exact j
 |false =>
  rw[if_neg abZ]
  exact aeL ⟨i,r,x,k⟩
end
structure It where
 go:Nat->Hp->Prop
 yg:Nat->Hp->V->Hp->Prop
 stop:Nat->Hp->Prop
noncomputable def gU (X:Cx)(pins:List (Addr×Obj))(H:Hp)(b:Addr):Prop :=
 H b=none/\b≠X.env.locals/\b ∉ X.fs/\(b∈X.ex\/X.s₀.heap.objs.size<=b)/\(∀x c,X.env.cells.lookup x=some c->c≠b) /\ ∀p∈X.pn++pins,p.1≠b
theorem Inv.mO {X:Cx}{pins:List (Addr×Obj)}{σ:St}{H H':Hp}{s:aat}{b:Addr}(I:Inv X pins σ H s)(hb:s.heap.objs.size<=b)(hn:H' b=none):gU X pins H' b:=by
 refine⟨hn,ag4 (aa0 I.lt hb),I.T3 hb,.inr (abt I.sz hb),λx c e z=>?_,λp a z=>?_⟩
 . obtain⟨v,q⟩:=I.cell x c e
   exact absurd (aa0 q.lt (by rw[z];exact hb)) (acf _)
 . exact absurd (aa0 (aaH (I.pin p a).1) (by rw[z];exact hb)) (acf _)
structure Turn (P:aaY)(w:World)(K:aaI)(tg:Expr)(J:It)(fp:List Addr)(it:Addr)(tn:Nat->Heap->Prop):Prop where
 mem:it∈fp
 obj:∀i h,tn i h->∀b∈fp,∃o,h.get? b=some o /\ ∀v,o.data ≠ .cell v
 keep:∀i h h',tn i h->(∀b∈fp,∀o,h.get? b=some o->h'.get? b=some o)->tn i h'
 item:∀(X:Cx),X.prog=P->X.w=w->X.K=K->X.calm=true->∀(i:Nat) (pins:List (Addr×Obj)) (s:aat) (σ:St) (H:Hp) (E:Value->aat->Prop),Inv X pins σ H s->(∀b∈fp,gU X pins H b)->tn i s.heap->J.go i H ->
  wpAny (model P w) X.A (adQ (.ref it)) (λr s1=>∃u,r=some u /\
   wpAny (model P w) X.A (afX tg (.ref it) u) (λ_ s2=>∃x H',Inv X pins σ H' s2/\RelV x u/\J.yg i H x H'/\tn (i+1) s2.heap /\ ∀b∈fp,H' b=none) E s1) E s
 done:∀(X:Cx),X.prog=P->X.w=w->X.K=K->X.calm=true->∀(i:Nat) (pins:List (Addr×Obj)) (s:aat) (σ:St) (H:Hp) (E:Value->aat->Prop),Inv X pins σ H s->(∀b∈fp,gU X pins H b)->tn i s.heap->J.stop i H ->
  wpAny (model P w) X.A (adQ (.ref it)) (λr s1=>r=none/\Inv X pins σ H s1) E s
 self:∀(A:aaV) (i:Nat) (s:aat) (Q:Value->aat->Prop) (E:Value->aat->Prop),tn i s.heap->Q (.ref it) s->wpAny (model P w) A (agf (.ref it)) Q E s
abbrev TI:=St->Hp->(It->Hp->Prop)->Prop
noncomputable def RC (X:Cx)(pins:List (Addr×Obj))(σ:St)(tg:Expr)(R:It->Hp->Prop)(K8:Value)(s2:aat):Prop :=
 ∃(it:Addr) (fp:List Addr) (tn:Nat->Heap->Prop) (J:It) (H':Hp),K8 = .ref it/\Inv X pins σ H' s2/\Turn X.prog X.w X.K tg J fp it tn/\tn 0 s2.heap/\(∀b∈fp,gU X pins H' b)/\R J H'
noncomputable def PI (X:Cx)(tg iter:Expr)(wi:TI):Prop :=
 ∀(pins:List (Addr×Obj)) (s:aat) (σ:St) (H:Hp) (R:It->Hp->Prop),Inv X pins σ H s->wi σ H R ->
  wpAny (model X.prog X.w) X.A (eval iter X.env) (λv s1=>wpAny (model X.prog X.w) X.A (agf v) (RC X pins σ tg R) X.xe s1) X.xe s
theorem uH {M : Model} {A : aaV} {E : Value -> aat -> Prop} {s : aat} {tg : Expr} {it : Addr} {u : Value} {o : Obj} {n : String} {vs : Array Value} {Q : Unit -> aat -> Prop} (ho : s.heap.get? it = some o) (hc : o.cls = .type n) (hd : o.data = .fields vs)
   (hn : ["enumerate", "zip", "dict_itemiterator", "dict_reverseitemiterator", "odict_iterator", "itertools.zip_longest", "itertools.pairwise"].contains n = false) (hQ : Q () s): wpAny M A (afX tg (.ref it) u) Q E s := by
 unfold afX
 cases tg <;> first
   |exact aau hQ
   | (cases u <;> first
       |exact aau hQ
       | (refine aas (wpAny_load ho ?_)
          rw[hc, hd]
          show wpAny M A (if (["enumerate", "zip", "dict_itemiterator", "dict_reverseitemiterator", "odict_iterator", "itertools.zip_longest", "itertools.pairwise"].contains n && vs[0]? == some (acX _))= true then _ else _) Q E s
          rw[if_neg (by intro h; rw[hn, adR]at h; cases h)]
          exact aau hQ))
noncomputable def FX (K:aaI)(a:Addr):It :=
 ⟨λi H=>∃xs x,da K H a xs/\xs[i]? = some x,λi H x b=>b=H /\ ∀xs,da K H a xs->xs[i]? = some x,λi H=>∃xs,da K H a xs/\xs.length<=i⟩
noncomputable def K9 (K:aaI)(a:Addr):It :=
 ⟨λi H=>∃xs x,dS K H a xs/\xs[i]? = some x,λi H x b=>b=H /\ ∀xs,dS K H a xs->xs[i]? = some x,λi H=>∃xs,dS K H a xs/\xs.length<=i⟩
noncomputable def Bd (lo:Int)(n:Nat):It:=⟨λi _=>i<n,λi H x a=>a=H/\x = .int (lo+i),λi _=>n<=i⟩
theorem Be {P:aaY}{w:World}{K:aaI}{tg:Expr}(a it:Addr):Turn P w K tg (FX K a) [it] it (λi h=>h.IsListIter it a i) where
 mem:=by simp
 obj:=λi h st b f=>by
  have e:b=it:=by simpa using f
  subst e
  obtain⟨o,e,c,d⟩:=st
  exact⟨o,e,λv z=>by rw[d]at z;cases z⟩
 keep:=λi h l st k=>st.at λo e=>k it (by simp) o e
 item:=by
  intro X hP hw hK hc i pins s σ H E I hf st n
  subst hP hw hK
  obtain⟨xs,x,j,q⟩:=n
  obtain⟨au,y,p,hz⟩:=I.list j
  obtain⟨u,hu,ru⟩:=y.get q
  obtain⟨f0,f1,f2,r,f4,f5⟩:=hf it (by simp)
  refine af6 st p.isList (x:=u) (by simpa using hu) λl dh sb=>?_
  have I1:Inv X pins σ H { s with heap:=l }:=I.turned (t':=s.toks) (λb o f e=>(sb.2 b f).trans e) f0 f1 r f4 f5
  obtain⟨o,e,c,d⟩:=id dh
  exact⟨u,rfl,uH (s:={ s with heap:=l }) e c d (by decide) ⟨x,H,I1,ru,⟨rfl,λys hy=>by rw[I.vh hy j];exact q⟩,dh,λb f=>(hf b f).1⟩⟩
 done:=by
  intro X hP hw hK hc i pins s σ H E I hf st n
  subst hP hw hK
  obtain⟨xs,j,q⟩:=n
  obtain⟨au,y,p,hz⟩:=I.list j
  obtain⟨f0,f1,f2,r,f4,f5⟩:=hf it (by simp)
  have hl:=y.length
  exact agg (I.ok.hd hc) st p.isList (by simp;omega) λl eb=>⟨rfl,I.turned (t':=s.toks) (λb o f e=>eb b o f e) f0 f1 r f4 f5⟩
 self:=λ_ _ _ _ _ st h=>wpAny_pyIter_listiter st h
theorem zG {P:aaY}{w:World}{K:aaI}{tg:Expr}(a it:Addr):Turn P w K tg (K9 K a) [it] it (λi h=>h.IsTupleIter it a i) where
 mem:=by simp
 obj:=λi h st b f=>by
  have e:b=it:=by simpa using f
  subst e
  obtain⟨o,e,c,d⟩:=st
  exact⟨o,e,λv z=>by rw[d]at z;cases z⟩
 keep:=λi h l st k=>st.at λo e=>k it (by simp) o e
 item:=by
  intro X hP hw hK hc i pins s σ H E I hf st n
  subst hP hw hK
  obtain⟨xs,x,j,q⟩:=n
  obtain⟨au,y,p,hz⟩:=I.tuple j
  obtain⟨u,hu,ru⟩:=y.get q
  obtain⟨f0,f1,f2,r,f4,f5⟩:=hf it (by simp)
  refine wpAny_pyNext_tuple_item st (show s.heap.IsTuple a au.toArray from p) (x:=u) (by simpa using hu) λl dh sb=>?_
  have I1:Inv X pins σ H { s with heap:=l }:=I.turned (t':=s.toks) (λb o f e=>(sb.2 b f).trans e) f0 f1 r f4 f5
  obtain⟨o,e,c,d⟩:=id dh
  exact⟨u,rfl,uH (s:={ s with heap:=l }) e c d (by decide) ⟨x,H,I1,ru,⟨rfl,λys hy=>by rw[I.mN hy j];exact q⟩,dh,λb f=>(hf b f).1⟩⟩
 done:=by
  intro X hP hw hK hc i pins s σ H E I hf st n
  subst hP hw hK
  obtain⟨xs,j,q⟩:=n
  obtain⟨au,y,p,hz⟩:=I.tuple j
  obtain⟨f0,f1,f2,r,f4,f5⟩:=hf it (by simp)
  have hl:=y.length
  exact wpAny_pyNext_tuple_end (I.ok.hd hc) st (show s.heap.IsTuple a au.toArray from p) (by simp;omega) λl eb=>⟨rfl,I.turned (t':=s.toks) (λb o f e=>eb b o f e) f0 f1 r f4 f5⟩
 self:=λ_ _ _ _ _ st h=>wpAny_pyIter_tupleiter st h
theorem zH {P:aaY}{w:World}{K:aaI}{tg:Expr}(it:Addr)(lo:Int)(n:Nat):Turn P w K tg (Bd lo n) [it] it (λi h=>IsRangeIter h it (lo+(i:Nat)*1) ((n:Int)-(i:Nat)) 1) where
 mem:=by simp
 obj:=λi h st b a=>by
  have e:b=it:=by simpa using a
  subst e
  exact⟨_,st,λv z=>by
   have z':Data.fields _=aff v:=z
   cases z'⟩
 keep:=λi h c st k=>k it (by simp) _ st
 item:=by
  intro X q hw p j i pins s σ H E I hf st f
  subst q hw p
  obtain⟨f0,f1,f2,l,f4,r⟩:=hf it (by simp)
  have W:=Walks.range (prog:=X.prog) (w:=X.w) (I.ok.hd j) it lo 1 n
  refine W.item i s _ _ f st λv c x hv u kk=>?_
  obtain⟨t,rfl⟩:=hv
  have I1:Inv X pins σ H { s with heap:=c,toks:=x }:=I.turned (λb o a e=>kk b o (by simpa using a) e) f0 f1 l f4 r
  refine⟨_,rfl,uH (s:={ s with heap:=c,toks:=x }) (n:="range_iterator") u rfl rfl (by decide) ⟨.int (lo+i),H,I1,⟨t,?_⟩,⟨rfl,rfl⟩,u,λb a=>(hf b a).1⟩⟩
  rw[Int.mul_one]
 done:=by
  intro X q hw p j i pins s σ H E I hf st f
  subst q hw p
  obtain⟨f0,f1,f2,l,f4,r⟩:=hf it (by simp)
  exact wpAny_pyNext_range_end (I.ok.hd j) st (by have:n<=i:=f;omega) λc y=>⟨rfl,I.turned (t':=s.toks) (λb o a e=>y b o a e) f0 f1 l f4 r⟩
 self:=λ_ _ _ _ _ st h=>wpAny_pyIter_rangeiter st h
section
variable {X:Cx}{tg:Expr}
noncomputable def Ql (K:aaI)(tl:TE):TI:=λσ H R=>tl σ H λx H1=>∃a,x = .ref a/\(∃xs,da K H1 a xs)/\R (FX K a) H1
noncomputable def Ui (K:aaI)(tl:TE):TI:=λσ H R=>tl σ H λx H1=>∃a,x = .ref a/\(∃xs,dS K H1 a xs)/\R (K9 K a) H1
theorem yh {l:Expr}{tl:TE}(hl:PE X l tl):PI X tg l (Ql X.K tl):=by
 intro pins s σ H R I h
 refine aT (hl pins s σ H _ I h) λv s1 ⟨x,H1,c,k,i⟩=>?_
 obtain⟨a,e,⟨xs,f⟩,q⟩:=i
 subst e
 cases k
 obtain⟨u,r,p,n⟩:=c.list f
 refine aeq p.isList ?_
 refine⟨s1.heap.objs.size,[s1.heap.objs.size],_,_,H1,rfl,c.kept (t':=s1.toks) λb o e=>aaw _ e,Be a _,⟨_,aaG _ rfl,rfl,rfl⟩,λb j=>?_,q⟩
 have e:b=s1.heap.objs.size:=by simpa using j
 subst e
 exact c.mO (aaC _) (c.bB.fresh (aaC _))
theorem K_ {l:Expr}{tl:TE}(hl:PE X l tl):PI X tg l (Ui X.K tl):=by
 intro pins s σ H R I h
 refine aT (hl pins s σ H _ I h) λv s1 ⟨x,H1,c,n,j⟩=>?_
 obtain⟨a,e,⟨xs,f⟩,q⟩:=j
 subst e
 cases n
 obtain⟨i,u,p,r⟩:=c.tuple f
 refine adF (show s1.heap.IsTuple a i.toArray from p) ?_
 refine⟨s1.heap.objs.size,[s1.heap.objs.size],_,_,H1,rfl,c.kept (t':=s1.toks) λb o e=>aaw _ e,zG a _,⟨_,aaG _ rfl,rfl,rfl⟩,λb k=>?_,q⟩
 have e:b=s1.heap.objs.size:=by simpa using k
 subst e
 exact c.mO (aaC _) (c.bB.fresh (aaC _))
theorem vn {pins:List (Addr×Obj)}{σ:St}{H:Hp}{s:aat}{R:It->Hp->Prop}{E:Value->aat->Prop}{lo hi:Int}{t u v:Tok}{tk:Nat}(I:Inv X pins σ H s)(h1:-(2 ^ 62)<=lo)(h2:lo<2 ^ 62)(h3:-(2 ^ 62)<=hi)(h4:hi<2 ^ 62)
   (q:R (Bd lo (hi-lo).toNat) H):wpAny (model X.prog X.w) X.A (agf (.ref s.heap.objs.size)) (RC X pins σ tg R) E { s with heap:=s.heap.push { cls:=.type "range",data:=.fields #[.int lo t,.int hi u,.int 1 v] },toks:=tk }:=by
 refine wpAny_pyIter_range (IsRange.new ..) (small_one h1 h2 h3 h4) ?_
 have a:Inv X pins σ H { s with heap:=s.heap.push { cls:=.type "range",data:=.fields #[.int lo t,.int hi u,.int 1 v] },toks:=tk }:=I.kept λb o e=>aaw _ e
 refine⟨(s.heap.push { cls:=.type "range",data:=.fields #[.int lo t,.int hi u,.int 1 v] }).objs.size,[(s.heap.push { cls:=.type "range",data:=.fields #[.int lo t,.int hi u,.int 1 v] }).objs.size],_,_,H,rfl,
   a.kept (t':=tk) λb o e=>aaw _ e,zH _ lo (hi-lo).toNat,?_,λb f=>?_,q⟩
 . have h:lo+((0:Nat):Int)*1=lo:=by simp
   have c:(((hi-lo).toNat:Nat):Int)-((0:Nat):Int)=Builtin.Range.rangeSize lo hi 1:=by rw[rangeSize_one];split<;>omega
   show IsRangeIter _ _ (lo+((0:Nat):Int)*1) ((((hi-lo).toNat:Nat):Int)-((0:Nat):Int)) 1
   rw[h,c]
   exact aaG _ rfl
 . have e:b=(s.heap.push { cls:=.type "range",data:=.fields #[.int lo t,.int hi u,.int 1 v] }).objs.size:=by simpa using f
   subst e
   exact a.mO (aaC _) (a.bB.fresh (aaC _))
noncomputable def Qm (ta:TA):TI:=λσ H R=>ta σ H λa H1=>∃j:Int,a = [.int j] /\ -(2 ^ 62)<=j/\j<2 ^ 62/\R (Bd 0 j.toNat) H1
noncomputable def Qn (ta:TA):TI:=λσ H R=>ta σ H λa H1=>∃i j:Int,a = [.int i,.int j]/\(-(2 ^ 62)<=i/\i<2 ^ 62 /\ -(2 ^ 62)<=j/\j<2 ^ 62)/\R (Bd i (j-i).toNat) H1
theorem Bf {a:Expr}{ta:TA}{p pos:Pos}(hg:Gl X "range")(hm:X.mg "range" = none)(ha:PA X [a] ta)(hs:aaZ [a] X.env = [(false,eval a X.env)]:=by rfl):PI X tg (.Call (.Name "range" p) [a] [] pos) (Qm ta):=by
 intro pins s σ H R I h
 refine Call_ (iG I hg hm boot_range (acm (aT (ha pos pins s σ H _ I h) λus s1 ⟨k,H1,c,f,b⟩=>?_) hs rfl))
 obtain⟨j,e,b,i,q⟩:=b
 subst e
 cases f with
 |cons r rr =>
  cases rr
  obtain⟨t,rfl⟩:=r
  exact call_range_1 (vn c (by omega) (by omega) b i (by simpa using q))
theorem Bg {a b:Expr}{ta:TA}{p pos:Pos}(hg:Gl X "range")(hm:X.mg "range" = none)(ha:PA X [a,b] ta)(hs:aaZ [a,b] X.env = [(false,eval a X.env),(false,eval b X.env)]:=by rfl)(mP:aaZ [b] X.env = [(false,eval b X.env)]:=by rfl):
  PI X tg (.Call (.Name "range" p) [a,b] [] pos) (Qn ta):=by
 intro pins s σ H R I h
 refine Call_ (iG I hg hm boot_range (acm (aT (ha pos pins s σ H _ I h) λus s1 ⟨v,H1,k,l,c⟩=>?_) (by rw[hs,mP]) (by rw[mP];rfl)))
 obtain⟨i,j,e,⟨c,n,o,f⟩,q⟩:=c
 subst e
 cases l with
 |cons r rr =>
  cases rr with
  |cons r' rr =>
   cases rr
   obtain⟨t,rfl⟩:=r
   obtain⟨u,rfl⟩:=r'
   exact call_range_2 (vn k c n o f q)
noncomputable def Uj (wi:TI)(g:TG)(tb:TS):TS:=λD σ H=>wi σ H λJ H1=>∃W:Nat->Nat->St->Hp->Prop,(∃m,W 0 m σ H1) /\ ∀i m σ H,W i m σ H ->
 (J.stop i H/\D.nx σ H)\/(J.go i H /\ ∃N:St->Hp->Prop,(∀σ' H',N σ' H'->∃m',m' < m/\W (i+1) m' σ' H') /\ ∀x H',J.yg i H x H'->g x σ H' λa b=>tb { D with nx:=N,ct:=N,bk:=D.nx } a b)
noncomputable def mQ (fp:List Addr)(h:Heap):List (Addr×Obj):=fp.filterMap λb=>(h.get? b).map λo=>(b,o)
theorem i_ {fp:List Addr}{h:Heap}{b:Addr}{o:Obj}(hb:b∈fp)(e:h.get? b=some o):(b,o)∈mQ fp h:=acw.mpr ⟨b,hb,by rw[e];rfl⟩
theorem Bh {fp:List Addr}{h:Heap}{p:Addr×Obj}(hp:p∈mQ fp h):p.1∈fp/\h.get? p.1=some p.2:=by
 obtain⟨b,c,e⟩:=acw.mp hp
 cases q:h.get? b with
 |none=>rw[q]at e;cases e
 |some o =>
  rw[q]at e
  have a:(b,o)=p:=abN e
  subst a
  exact⟨c,q⟩
theorem Inv.pinned {pins:List (Addr×Obj)}{σ:St}{H:Hp}{s:aat}{fp:List Addr}(I:Inv X pins σ H s)(hf:∀b∈fp,gU X pins H b)(ho:∀b∈fp,∃o,s.heap.get? b=some o /\ ∀v,o.data ≠ .cell v):Inv X (pins++mQ fp s.heap) σ H s :=
 I.yc λp f=>(aaE.mp f).elim (λz=>I.pin p (abv _ z)) λz=>by
  obtain⟨c,e⟩:=Bh z
  obtain⟨f0,f1,f2,_⟩:=hf p.1 c
  obtain⟨o,a,d⟩:=ho p.1 c
  rw[e]at a;cases a
  exact⟨e,f0,f1,f2,d⟩
theorem Inv.lz {pins pl:List (Addr×Obj)}{σ:St}{H:Hp}{s:aat}(I:Inv X (pins++pl) σ H s):Inv X pins σ H s:=I.yc λp a=>I.pin p (abv _ (ags _ a))
theorem La {iter:Expr}{body:List Stmt}{wi:TI}{g:TG}{tb:TS}{pos:Pos}(hp:aeF (model X.prog X.w) X.A X.env X.xe)(hc:X.calm=true)(hi:PI X tg iter wi)(hg:PG X tg g)(hb:gR X body tb)
   (hs:∀x,abD iter X.env x=pure x:=by intro _;rfl):PS X (.For tg iter body [] pos) (Uj wi g tb):=by
 intro pins s σ H D I h
 refine wpAny_For (aT (hi pins s σ H _ I h) λv s1 h1=>aT h1 λK8 s2 h2=>?_) hs
 obtain⟨it,q,tn,J,H2,e,I2,T,RD,f2,W,⟨m0,w0⟩,turn⟩:=h2
 subst e
 have pP:∀{H':Hp},(∀b∈q,H' b=none)->∀b∈q,gU X pins H' b:=λhn b hb=>⟨hn b hb,(f2 b hb).2⟩
 refine codeAny_forLoop_any (λn s'=>∃i σ' H',Inv X pins σ' H' s'/\tn i s'.heap/\(∀b∈q,H' b=none)/\W i n σ' H') ?_ m0 ⟨0,σ,H2,I2,RD,λb hb=>(f2 b hb).1,w0⟩
 rintro n s3 ⟨i,p,y,I3,pf,RE,w3⟩
 rcases turn i n p y w3 with⟨stop,qn⟩|⟨go,N,hN,step⟩
 . refine ac3 hp (aT (T.done X rfl rfl rfl hc i pins s3 p y X.xe I3 (pP RE) pf stop) λr s4 ⟨z,I4⟩=>?_)
   subst z
   exact aeL ⟨p,y,I4,qn⟩
 . refine ac3 hp (aT (T.item X rfl rfl rfl hc i pins s3 p y X.xe I3 (pP RE) pf go) λr s4 ⟨u,z,h4⟩=>?_)
   subst z
   refine ac3 hp (aT h4 λ_ s5 ⟨x,H5,I5,r5,y5,Lb,Lc⟩=>?_)
   have ab:=I5.pinned (pP Lc) (T.obj _ _ Lb)
   refine ac3 hp (aT (hg _ s5 p H5 x u _ ab r5 (step x H5 y5)) λ_ s6 ⟨σ6,H6,I6,q6⟩=>?_)
   refine ac3 hp (aT (hb _ s6 σ6 H6 _ I6 q6) λf s7 k=>?_)
   have again:∀{c:St} {a:Hp},Inv X (pins++mQ q s5.heap) c a s7->N c a->∃m,m<n /\ ∃i σ' H',Inv X pins σ' H' s7/\tn i s7.heap/\(∀b∈q,H' b=none)/\W i m σ' H':=fun {c a} j l=>by
    obtain⟨m',hm,w7⟩:=hN c a l
    refine⟨m',hm,i+1,c,a,j.lz,T.keep _ _ _ Lb λb hb o e=>(j.pin (b,o) (abv _ (abv _ (i_ hb e)))).1,λb hb=>?_,w7⟩
    obtain⟨o,e,d⟩:=T.obj _ _ Lb b hb
    exact(j.pin (b,o) (abv _ (abv _ (i_ hb e)))).2.1
   cases f with
   |next=>obtain⟨c,a,j,l⟩:=k;exact again j l
   |cont=>obtain⟨c,a,j,l⟩:=k;exact again j l
   |brk=>obtain⟨c,a,j,k⟩:=k;exact⟨c,a,j.lz,k⟩
   |ret v=>obtain⟨x7,c,a,j,r7,k⟩:=k;exact⟨x7,c,a,j.lz,r7,k⟩
end
abbrev R2:=V->V->Hp->VK->Prop
noncomputable def aY (X:Cx)(f:Value->Value->Sem Value)(r:R2):Prop :=
 ∀(pins:List (Addr×Obj)) (s:aat) (σ:St) (H:Hp) (x y:V) (v u:Value) (Q:VK),Inv X pins σ H s->RelV x v->RelV y u->r x y H Q ->
  wpAny (model X.prog X.w) X.A (f v u) (EP X pins σ Q) X.xe s
noncomputable def Bi (X:Cx)(f:Value->Sem Value)(r:V->Hp->VK->Prop):Prop :=
 ∀(pins:List (Addr×Obj)) (s:aat) (σ:St) (H:Hp) (x:V) (v:Value) (Q:VK),Inv X pins σ H s->RelV x v->r x H Q ->
  wpAny (model X.prog X.w) X.A (f v) (EP X pins σ Q) X.xe s
noncomputable def cu (X:Cx)(f:Value)(r:List V->Hp->VK->Prop):Prop :=
 ∀(pins:List (Addr×Obj)) (s:aat) (σ:St) (H:Hp) (xs:List V) (us:List Value) (Q:VK),Inv X pins σ H s->Vals xs us->r xs H Q ->
  wpAny (model X.prog X.w) X.A (call f us) (EP X pins σ Q) X.xe s
noncomputable def Uk (X:Cx)(r:V->Hp->(Bool->Hp->Prop)->Prop):Prop :=
 ∀(pins:List (Addr×Obj)) (s:aat) (σ:St) (H:Hp) (x:V) (v:Value) (Q:Bool->Hp->Prop),Inv X pins σ H s->RelV x v->r x H Q ->
  wpAny (model X.prog X.w) X.A (truthy v) (TP X pins σ Q) X.xe s
noncomputable def Bj (r:R2)(ta tb:TE):TE:=λσ H Q=>ta σ H λx H1=>tb σ H1 λy a=>r x y a Q
noncomputable def XE (r:V->Hp->VK->Prop)(ta:TE):TE:=λσ H Q=>ta σ H λx H1=>r x H1 Q
noncomputable def rI (C:Int->Int->Prop)(g:Int->Int->V):R2:=λx y H Q=>∃i j,x = .int i/\y = .int j/\C i j/\Q (g i j) H
noncomputable def mw (g:Int->Int->V):R2:=λx y H Q=>∃i j,x = .int i/\y = .int j/\Q (g i j) H
noncomputable def rU (g:Int->V):V->Hp->VK->Prop:=λx H Q=>∃i,x = .int i/\Q (g i) H
section
variable {X:Cx}{a b c:Expr}{ta tb tc:TE}{pos:Pos}
theorem DQ (ha:PE X a ta)(hb:PE X b tb){pins:List (Addr×Obj)}{s:aat}{σ:St}{H:Hp}{R:V->V->Hp->Prop}(I:Inv X pins σ H s)
  (h:ta σ H λx H1=>tb σ H1 λy H2=>R x y H2) {Q:Value->aat->Prop} {f:Value->Value->Sem Value}
  (hf:∀v u s2 x y H2,Inv X pins σ H2 s2->RelV x v->RelV y u->R x y H2->wpAny (model X.prog X.w) X.A (f v u) Q X.xe s2):
  wpAny (model X.prog X.w) X.A (eval a X.env) (λv s₁=>wpAny (model X.prog X.w) X.A (eval b X.env) (λu s₂=>wpAny (model X.prog X.w) X.A (f v u) Q X.xe s₂) X.xe s₁) X.xe s:=by
 refine aT (ha pins s σ H _ I h) λv s1 ⟨x,H1,i,c,l⟩=>?_
 refine aT (hb pins s1 σ H1 _ i l) λu s2 ⟨y,H2,k,e,j⟩=>?_
 exact hf v u s2 x y H2 k c e j
theorem Qo {op:Operator}{r:R2}(ho:aY X (abp op) r)(ha:PE X a ta)(hb:PE X b tb):PE X (.BinOp a op b pos) (Bj r ta tb):=by
 intro pins s σ H Q I h
 exact wpAny_BinOp (DQ ha hb I h λv u s2 x y e i f c q=>ho pins s2 σ e x y v u Q i f c q)
theorem Qp {op:UnaryOp}{r:V->Hp->VK->Prop}(ho:Bi X (unaryOp op) r)(ha:PE X a ta):PE X (.UnaryOp op a pos) (XE r ta):=by
 intro pins s σ H Q I h
 exact UnaryOp_ (aT (ha pins s σ H _ I h) λv s1 ⟨x,H1,c,b,e⟩=>ho pins s1 σ H1 x v Q c b e)
theorem Bk {f:Value->Value->Sem Value}{C:Int->Int->Prop}{g:Int->Int->Int}
  (rule:∀(i j:Int) (t u:Tok) (s:aat) (Q:Value->aat->Prop) (E:Value->aat->Prop),C i j->Q (.int (g i j) s.toks) { s with toks:=s.toks+1 }->wpAny (model X.prog X.w) X.A (f (.int i t) (.int j u)) Q E s):
  aY X f (rI C λi j=>.int (g i j)):=by
 intro pins s σ H x y v u Q I e a h
 obtain⟨i,j,rfl,rfl,b,q⟩:=h
 obtain⟨t,rfl⟩:=e
 obtain⟨c,rfl⟩:=a
 exact rule i j t c s _ _ b ⟨.int (g i j),H,I.tok _,⟨_,rfl⟩,q⟩
theorem zI {f:Value->Value->Sem Value}{g:Int->Int->Int}
  (rule:∀(i j:Int) (t u:Tok) (s:aat) (Q:Value->aat->Prop) (E:Value->aat->Prop),Q (.int (g i j) s.toks) { s with toks:=s.toks+1 }->wpAny (model X.prog X.w) X.A (f (.int i t) (.int j u)) Q E s):
  aY X f (mw λi j=>.int (g i j)):=by
 intro pins s σ H x y v u Q I c a h
 obtain⟨i,j,rfl,rfl,q⟩:=h
 obtain⟨t,rfl⟩:=c
 obtain⟨b,rfl⟩:=a
 exact rule i j t b s _ _ ⟨.int (g i j),H,I.tok _,⟨_,rfl⟩,q⟩
theorem zJ {f:Value->Value->Sem Value}{g:Int->Int->Bool}
  (rule:∀(i j:Int) (t u:Tok) (s:aat) (Q:Value->aat->Prop) (E:Value->aat->Prop),Q (.bool (g i j)) s->wpAny (model X.prog X.w) X.A (f (.int i t) (.int j u)) Q E s):
  aY X f (mw λi j=>.bl (g i j)):=by
 intro pins s σ H x y v u Q I c a h
 obtain⟨i,j,rfl,rfl,q⟩:=h
 obtain⟨t,rfl⟩:=c
 obtain⟨b,rfl⟩:=a
 exact rule i j t b s _ _ ⟨.bl (g i j),H,I,rfl,q⟩
def Ul (i j:Int):Prop:=0<j/\j<1073741824
def Ld (i j:Int):Prop:=0<=j/\j<=1000000/\i.natAbs<2 ^ 64
def DR (i j:Int):Prop:=(-(2 ^ 64)<i/\i<2 ^ 64)\/(-(2 ^ 64)<j/\j<2 ^ 64)
theorem DR.ok {i j:Int}(h:DR i j):IntMulOk i j:=by
 rcases h with⟨h1,h2⟩|⟨h1,h2⟩
 . exact .of_left (intBits_le_64 h1 h2)
 . exact .of_right (intBits_le_64 h1 h2)
theorem Le:aY X (abp .Add) (mw λi j=>.int (i+j)):=zI λ_ _ _ _ _ _ _ q=>add_int q
theorem Lf:aY X (abp .Sub) (mw λi j=>.int (i-j)):=zI λ_ _ _ _ _ _ _ q=>sub_int q
theorem Lg:aY X (abp .Mult) (rI DR λi j=>.int (i*j)):=Bk λ_ _ _ _ _ _ _ a q=>mul_int q a.ok
theorem Iw:aY X (abp .FloorDiv) (rI Ul λi j=>.int (i / j)):=Bk λi j _ _ _ _ _ a q=>by
 have c:(0:Int)<j:=a.1
 have b:j<1073741824:=a.2
 exact floordiv_int (by omega) (by rw[Int.fdiv_eq_ediv_of_nonneg i (by omega)];exact q) (.inl (PyProof.noPylong_small (by omega)))
theorem Lh:aY X (abp .Mod) (rI (λ_ j=>0<j) λi j=>.int (i % j)):=Bk λi j _ _ _ _ _ a q=>by
 have b:(0:Int)<j:=a
 exact mod_int' (by omega) (by rw[Int.fmod_eq_emod_of_nonneg i (by omega)];exact q)
theorem Li:aY X (abp .Pow) (rI Ld λi j=>.int (i ^ j.toNat)):=Bk λ_ _ _ _ _ _ _ a q=>pow_int_small a.1 a.2.1 a.2.2 q
theorem Lj:aY X (abp .LShift) (rI Ld λi j=>.int (i*2 ^ j.toNat)):=Bk λ_ _ _ _ _ _ _ a q=>lshift_int_small a.1 a.2.1 a.2.2 q
theorem Lk:aY X (abp .BitAnd) (mw λi j=>.int (ach i j)):=zI λ_ _ _ _ _ _ _ q=>and_int q
theorem Qq:aY X (abp .BitOr) (mw λi j=>.int (ad5 i j)):=zI λ_ _ _ _ _ _ _ q=>or_int q
theorem XF {f:Value->Sem Value}{g:Int->Int}
  (rule:∀(i:Int) (t:Tok) (s:aat) (Q:Value->aat->Prop) (E:Value->aat->Prop),Q (.int (g i) s.toks) { s with toks:=s.toks+1 }->wpAny (model X.prog X.w) X.A (f (.int i t)) Q E s):
  Bi X f (rU λi=>.int (g i)):=by
 intro pins s σ H x v Q I a h
 obtain⟨i,rfl,q⟩:=h
 obtain⟨t,rfl⟩:=a
 exact rule i t s _ _ ⟨.int (g i),H,I.tok _,⟨_,rfl⟩,q⟩
theorem Ll:Bi X (unaryOp .USub) (rU λi=>.int (-i)):=XF λ_ _ _ _ _ q=>neg_int q
end
section
variable {X:Cx}{a b c:Expr}{ta tb tc:TE}{pos:Pos}
theorem Bl {pins:List (Addr×Obj)}{σ:St}{H:Hp}{s:aat}{Q:VK}{k k':Bool}(I:Inv X pins σ H s)(q:Q (.bl k) H)(e:k=k'):EP X pins σ Q (.bool k') s:=by
 subst e
 exact⟨.bl k,H,I,rfl,q⟩
theorem Qr:aY X (aa8 .Lt) (mw λi j=>.bl (decide (i<j))):=zJ λ_ _ _ _ _ _ _ q=>lt_int q
theorem Qs:aY X (aa8 .LtE) (mw λi j=>.bl (decide (i<=j))):=zJ λ_ _ _ _ _ _ _ q=>le_int q
theorem Qt:aY X (aa8 .Gt) (mw λi j=>.bl (decide (j<i))):=zJ λ_ _ _ _ _ _ _ q=>gt_int q
theorem Qu:aY X (aa8 .GtE) (mw λi j=>.bl (decide (j<=i))):=zJ λ_ _ _ _ _ _ _ q=>ge_int q
theorem Lm:aY X (aa8 .Is) (λx y H Q=>y = .ay/\Q (.bl (decide (x = .ay))) H):=by
 intro pins s σ H x y v u Q I a b h
 obtain⟨rfl,q⟩:=h
 cases b
 refine is_none_gen (Bl I q ?_)
 cases x<;>first
  | (cases a;rfl)
  | (obtain⟨t,rfl⟩:=a;rfl)
theorem Iy:aY X (aa8 .IsNot) (λx y H Q=>y = .ay/\Q (.bl (!decide (x = .ay))) H):=by
 intro pins s σ H x y v u Q I a b h
 obtain⟨rfl,q⟩:=h
 cases b
 refine isnot_none_gen (Bl I q ?_)
 cases x<;>first
  | (cases a;rfl)
  | (obtain⟨t,rfl⟩:=a;rfl)
theorem Iz {op:CmpOp}{r:R2}(ho:aY X (aa8 op) r)(ha:PE X a ta)(hb:PE X b tb)(hm:adA op b=false):PE X (.Compare a [op] [b] pos) (Bj r ta tb):=by
 intro pins s σ H Q I h
 exact wpAny_Compare1 (DQ ha hb I h λv u s2 x y e i f c q=>ho pins s2 σ e x y v u Q i f c q) hm
noncomputable def qp (t:TE):TT:=λσ H Q=>t σ H λx a=>∃k,x = .bl k/\Q k a
theorem IA {op:CmpOp}{r:R2}(ho:aY X (aa8 op) r)(ha:PE X a ta)(hb:PE X b tb)(hm:adA op b=false):PT X (.Compare a [op] [b] pos) (qp (Bj r ta tb)):=by
 intro pins s σ H Q I h
 refine wpAny_isTrue_Compare1 (aT (ha pins s σ H _ I h) λv s1 ⟨x,H1,p,r1,o⟩=>aT (hb pins s1 σ H1 _ p o) λu s2 ⟨y,n,q,i,q2⟩=>
  aT (ho pins s2 σ n x y v u _ q r1 i q2) λc s3 ⟨z,f,j,l,k,e,q3⟩=>?_) hm
 subst e
 cases l
 exact abq ⟨f,j,q3⟩
noncomputable def vo (r r':R2)(ta tb tc:TE):TE:=λσ H Q=>ta σ H λx H1=>tb σ H1 λy c=>r x y c λz a=>∃k,z = .bl k /\
 (if k=true then tc σ a λe b=>r' y e b Q else Q (.bl false) a)
theorem DU {op b8:CmpOp}{r r':R2}(ho:aY X (aa8 op) r)(hZ:aY X (aa8 b8) r')(ha:PE X a ta)(hb:PE X b tb)(hc:PE X c tc)
  (hm:ag5 [op,b8] [b,c]=false:=by with_unfolding_all rfl):PE X (.Compare a [op,b8] [b,c] pos) (vo r r' ta tb tc):=by
 intro pins s σ H Q I h
 refine Compare_chain (aT (ha pins s σ H _ I h) λv s1 ⟨x,H1,I1,r1,q1⟩=>chain_link (aT (hb pins s1 σ H1 _ I1 q1) λu s2 ⟨y,q,I2,i,q2⟩=>
  aT (ho pins s2 σ q x y v u _ I2 r1 i q2) λd s3 ⟨z,f,j,p,k,e,l⟩=>?_)) hm
 subst e
 cases p
 refine abq ?_
 cases k with
 |false=>exact ite_ff ⟨.bl false,f,j,rfl,l⟩
 |true=>exact ite_tt (chain_last (aT (hc pins s3 σ f _ j l) λo s4 ⟨z',H4,I4,n,q4⟩=>hZ pins s4 σ H4 y z' u o Q I4 i n q4))
theorem DV {op b8:CmpOp}{r r':R2}(ho:aY X (aa8 op) r)(hZ:aY X (aa8 b8) r')(ha:PE X a ta)(hb:PE X b tb)(hc:PE X c tc)
  (hm:ag5 [op,b8] [b,c]=false:=by with_unfolding_all rfl):PT X (.Compare a [op,b8] [b,c] pos) (qp (vo r r' ta tb tc)):=by
 intro pins s σ H Q I h
 refine isTrue_chain (aT (ha pins s σ H _ I h) λv s1 ⟨x,H1,I1,r1,q1⟩=>test_link (aT (hb pins s1 σ H1 _ I1 q1) λu s2 ⟨y,H2,I2,i,q2⟩=>
  aT (ho pins s2 σ H2 x y v u _ I2 r1 i q2) λd s3 ⟨z,f,j,q,k,e,l⟩=>?_)) hm
 subst e
 cases q
 refine abq ?_
 cases k with
 |false =>
  obtain⟨k',e',q'⟩:=l
  cases e'
  exact ite_ff ⟨f,j,q'⟩
 |true =>
  refine ite_tt (test_last (aT (hc pins s3 σ f _ j l) λp s4 ⟨z',H4,I4,o,q4⟩=>aT (hZ pins s4 σ H4 y z' u p _ I4 i o q4) λd' s5 ⟨z2,H5,I5,r5,k2,n,q5⟩=>?_))
  subst n
  cases r5
  exact abq ⟨H5,I5,q5⟩
noncomputable def DX (K:aaI)(x:V)(H:Hp)(k:Bool):Prop :=
 match x with
 |.ay=>k=false
 |.bl b=>k=b
 |.int i=>k=(i != 0)
 |.str y=>y.length<=aaP/\k=((y.length:Int) != 0)
 |.A9 y=>y.size<=aaP/\k=((y.size:Int) != 0)
 |.ref p=>(∃xs,da K H p xs/\k = !xs.isEmpty)\/(∃xs,dS K H p xs/\k = !xs.isEmpty) \/ ∃dD,H p=some (.dK dD)/\k = !dD.isEmpty
 |_=>False
theorem zK {κ:Type}{dD:List (κ×V)}{vs:List (κ×Value)}(r:KV dD vs):(!vs.isEmpty)= !dD.isEmpty:=by
 cases r<;>rfl
theorem qq {xs:List V}{au:List Value}(r:Vals xs au):(!au.toArray.isEmpty)= !xs.isEmpty:=by
 cases r<;>simp
theorem kE:(aaP:Nat)<2 ^ 63:=by rw[acr];decide
theorem Ln:Uk X (λx H Q=>∃k,DX X.K x H k/\Q k H):=by
 intro pins s σ H x v Q I c h
 obtain⟨k,e,q⟩:=h
 have z:=kE
 have u:aaP=16777216:=acr
 cases x with
 |ay =>
  cases c
  have a:k=false:=e
  subst a
  exact truthy_none ⟨H,I,q⟩
 |bl b =>
  cases c
  have a:k=b:=e
  subst a
  exact abq ⟨H,I,q⟩
 |int i =>
  obtain⟨t,rfl⟩:=c
  have a:k=(i != 0):=e
  subst a
  exact PySem.P.truthy_int ⟨H,I,q⟩
 |str y =>
  obtain⟨t,rfl⟩:=c
  obtain⟨n,a⟩:y.length<=aaP/\k=((y.length:Int) != 0):=e
  subst a
  exact PySem.P.truthy_str (by omega) ⟨H,I.tok _,q⟩
 |A9 y =>
  obtain⟨t,rfl⟩:=c
  obtain⟨n,a⟩:y.size<=aaP/\k=((y.size:Int) != 0):=e
  subst a
  exact PySem.W.truthy_bytes (by omega) ⟨H,I.tok _,q⟩
 |ref p =>
  cases c
  have a:(∃xs,da X.K H p xs/\k = !xs.isEmpty)\/(∃xs,dS X.K H p xs/\k = !xs.isEmpty) \/ ∃dD,H p=some (.dK dD)/\k = !dD.isEmpty:=e
  rcases a with⟨xs,hx,a⟩|⟨xs,hx,a⟩|⟨dD,hx,a⟩
  . subst a
    obtain⟨o,r,f,j⟩:=I.list hx
    have hlen:=r.length
    exact wpAny_truthy_list f.isList (by simp only[aaA];omega) ⟨H,I.tok _,by rw[qq r];exact q⟩
  . subst a
    obtain⟨o,r,f,j⟩:=I.tuple hx
    have hlen:=r.length
    exact truthy_tuple f (by simp only[aaA];omega) ⟨H,I.tok _,by rw[qq r];exact q⟩
  . subst a
    obtain⟨j,l,vs,r,m⟩:dD.length<=aaP/\(p == ac_)=false /\ ∃vs,KV dD vs/\s.heap.DictOf (rY X.prog X.w) p vs:=I.bB p _ hx
    have hlen:dD.length=vs.length:=Paired.length r
    exact wpAny_truthy_dict l m (by omega) ⟨H,I.tok _,by rw[zK r];exact q⟩
 |_=>exact(show False from e).elim
theorem DY (ha:PE X a ta)(he:∀whole,isTrue a X.env whole=(do let v <- whole;age a.pos;adh [v] (truthy v))):
  PT X a (λσ H Q=>ta σ H λx H'=>∃k,DX X.K x H' k/\Q k H'):=by
 intro pins s σ H Q I h
 exact isTrue_plain (aT (ha pins s σ H _ I h) λv s1 ⟨x,H1,c,b,e⟩=>Ln pins s1 σ H1 x v Q c b e) (he _)
theorem zL:aY X (abp .Add) (λx y H Q=>∃i j,x = .str i/\y = .str j/\i.length+j.length<=aaP/\Q (.str (i++j)) H):=by
 intro pins s σ H x y v u Q I e a h
 obtain⟨i,j,rfl,rfl,b,q⟩:=h
 obtain⟨t,rfl⟩:=e
 obtain⟨c,rfl⟩:=a
 exact add_str (λc f=>⟨.str (i++j),H,I.tok _,⟨_,rfl⟩,q⟩) b
theorem vals1 {x:V}{us:List Value}(r:Vals [x] us):∃u,us = [u]/\RelV x u:=by
 cases r with
 |cons r1 r2=>cases r2;exact⟨_,rfl,r1⟩
theorem vals2 {x y:V}{us:List Value}(r:Vals [x,y] us):∃u w',us = [u,w']/\RelV x u/\RelV y w':=by
 cases r with
 |cons r1 r2 =>
  cases r2 with
  |cons r3 r4=>cases r4;exact⟨_,_,rfl,r1,r3⟩
theorem Bm (hc:X.calm=true):cu X (.builtin "max") (λxs H Q=>∃i j,xs = [.int i,.int j]/\Q (.int (if j>i then j else i)) H):=by
 intro pins s σ H xs us Q I r h
 obtain⟨i,j,rfl,q⟩:=h
 obtain⟨u,a,rfl,⟨t,rfl⟩,⟨b,rfl⟩⟩:=vals2 r
 refine max_two_ints (I.ok.hd hc) λe c k=>⟨_,H,I.kept k,?_,q⟩
 by_cases hj:j>i
 . rw[if_pos hj,if_pos hj];exact⟨_,rfl⟩
 . rw[if_neg hj,if_neg hj];exact⟨_,rfl⟩
theorem Bn (hc:X.calm=true):cu X (.builtin "min") (λxs H Q=>∃i j,xs = [.int i,.int j]/\Q (.int (if j<i then j else i)) H):=by
 intro pins s σ H xs us Q I r h
 obtain⟨i,j,rfl,q⟩:=h
 obtain⟨u,a,rfl,⟨t,rfl⟩,⟨b,rfl⟩⟩:=vals2 r
 refine min_two_ints (I.ok.hd hc) λe c k=>⟨_,H,I.kept k,?_,q⟩
 by_cases hj:j<i
 . rw[if_pos hj,if_pos hj];exact⟨_,rfl⟩
 . rw[if_neg hj,if_neg hj];exact⟨_,rfl⟩
theorem tL:cu X (.type "int") (λxs H Q=>(∃i,xs = [.int i]/\Q (.int i) H) \/ ∃k,xs = [.bl k]/\Q (.int (if k then 1 else 0)) H):=by
 intro pins s σ H xs us Q I r h
 rcases h with⟨i,rfl,q⟩|⟨k,rfl,q⟩
 . obtain⟨u,rfl,t,rfl⟩:=vals1 r
   exact call_int_int ⟨.int i,H,I,⟨_,rfl⟩,q⟩
 . obtain⟨u,rfl,a⟩:=vals1 r
   cases a
   exact call_int_bool ⟨.int (if k then 1 else 0),H,I.tok _,⟨_,rfl⟩,q⟩
end
structure aC (k:Nat)(A:aaV):Prop where
 hd:A.handled=none
 dp:A.depth+3*k+5<recursionLimit
 un:A.units+16*k+200<cLine
 gd:A.guards=some []
theorem aC.deeper {k:Nat}{A:aaV}(r:aC (k+1) A)(env:Env):aC k (A.deeper env):=
 ⟨r.hd,by have:=r.dp;show A.depth+1+3*k+5<_;omega,by have:=r.un;show A.units+3+16*k+200<_;omega,by first|exact r.gd| (simp[Around.deeper];exact r.gd)⟩
theorem aC.depth {k:Nat}{A:aaV}(r:aC k A):A.depth<recursionLimit:=by have:=r.dp;omega
theorem aC.units {k:Nat}{A:aaV}(r:aC k A):A.units+64<cLine:=by have:=r.un;omega
noncomputable def Lo:TA:=λ_ H Q=>Q [] H
noncomputable def Qv (ta:TE)(tr:TA):TA:=λσ H Q=>ta σ H λx H1=>tr σ H1 λxs a=>Q (x::xs) a
section
variable {X:Cx}{e:Expr}{es:List Expr}{te:TE}{t:TA}{pos:Pos}
theorem qr:PA X [] Lo:=λ_ _ _ _ H Q I h=>aht ⟨[],H,I,.nil,h⟩
theorem kF (ha:PE X e te)(hr:PA X es t)(hs:aaZ (e::es) X.env=(false,eval e X.env)::aaZ es X.env:=by rfl):PA X (e::es) (Qv te t):=by
 intro pos pins s σ H Q I h
 rw[hs]
 show wpAny _ _ (spliced ((false,eval e X.env)::adl pos (aaZ es X.env))) _ _ s
 refine ag6 (aT (ha pins s σ H _ I h) λu s1 ⟨x,H1,f,j,c⟩=>?_)
 exact aT (hr pos pins s1 σ H1 _ f c) λus s2 ⟨xs,b,i,a,k⟩=>⟨x::xs,b,i,.cons j a,k⟩
noncomputable def Um (t:TA):TE:=λσ H Q=>t σ H λxs H1=>xs.length<=aaP /\ ∀p,H1 p=none->Q (.ref p) (upd H1 p (.tup xs))
noncomputable def Uo (t:TA):TE:=λσ H Q=>t σ H λxs H1=>xs.length<=aaP /\ ∀p,H1 p=none->Q (.ref p) (upd H1 p (.lst xs))
theorem Lp {x1}(h:PA X es t):PE X (.Tuple es x1 pos) (Um t):=by
 intro pins s σ H Q I c
 refine wpAny_Tuple_spliced (aT (h pos pins s σ H _ I c) λus s1 ⟨xs,H1,a,r,z,q⟩=>⟨by rw[<- r.length];exact z,?_⟩)
 have hf:H1 s1.heap.objs.size=none:=a.bB.fresh (aaC _)
 refine⟨.ref s1.heap.objs.size,upd H1 s1.heap.objs.size (.tup xs),a.laid (t':=s1.toks) (λb u e=>aaw _ e) (aaC _) ?_,rfl,q _ hf⟩
 exact⟨z,us,r,⟨_,aaG _ rfl,rfl,⟨_,rfl⟩,rfl⟩⟩
theorem Bo (h:PA X es t):PE X (.List es pos) (Uo t):=by
 intro pins s σ H Q I c
 refine wpAny_List_spliced (aT (h pos pins s σ H _ I c) λus s1 ⟨xs,H1,a,r,z,q⟩=>⟨by rw[<- r.length];exact z,?_⟩)
 have hf:H1 s1.heap.objs.size=none:=a.bB.fresh (aaC _)
 refine⟨.ref s1.heap.objs.size,upd H1 s1.heap.objs.size (.lst xs),a.laid (t':=s1.toks) (λb u e=>aaw _ e) (aaC _) ?_,rfl,q _ hf⟩
 exact⟨z,us,0,r,aaG _ rfl⟩
end
abbrev Sp:=List V->Hp->VK->XK->Prop
abbrev mR:=List Env->Hp->aat->XK->Value->aat->Prop
structure zM (P:aaY)(w:World)(K:aaI)(mg:Str->Option Value)(base:Heap)(A:aaV)(outer:List Env)(s:aat)(H:Hp):Prop where
 frames:A.frames=some outer
 mod:Mod K mg base
 bs:∀b o,base.get? b=some o->s.heap.get? b=some o/\H b=none
 tG:base.objs.size<=s.heap.objs.size
 jz:s.heap.FunFrames base outer
 ya:∀b∈mq outer,H b=none
 bB:fE P w H s.heap
 bare:aeE s.gens
noncomputable def CE (outer:List Env)(P:aaY)(w:World)(H:Hp)(s:aat)(Q:VK)(u:Value)(s':aat):Prop :=
 ∃v H',s'.os=s.os/\aeE s'.gens/\Un (mq outer) [] H H' s.heap s'.heap/\fE P w H' s'.heap/\RelV v u/\Q v H'
noncomputable def CR (CX:mR)(outer:List Env)(P:aaY)(w:World)(H:Hp)(s:aat)(Q:VK)(E:XK)(r:Result)(s':aat):Prop :=
 match r with
 |.ok (.ret u)=>CE outer P w H s Q u s'
 |.ok _=>False
 |.error e=>CX outer H s E e s'
structure dE (P:aaY)(w:World)(K:aaI)(mg:Str->Option Value)(base:Heap)(CX:mR)(k:Nat)(f:Addr)(fd:abR)(ps:List Str)(sp:Sp):Prop where
 len:∀vs H Q E,sp vs H Q E->vs.length=ps.length
 run:∀(A:aaV) (outer:List Env) (s:aat) (H:Hp) (args:Args) (us:List Value) (vs:List V) (Q:VK) (E:XK),aC k A->zM P w K mg base A outer s H->ahq s fd args (ps.zip us)->Vals vs us->sp vs H Q E ->
  aek (model P w) A (.call (.ref f) args) (CR CX outer P w H s Q E) s
theorem dE.imp {P:aaY}{w:World}{K:aaI}{mg:Str->Option Value}{base:Heap}{CX:mR}{k:Nat}{f:Addr}{fd:abR}{ps:List Str}{sp RF:Sp}(F:dE P w K mg base CX k f fd ps sp)
  (h:∀vs H Q E,RF vs H Q E->sp vs H Q E):dE P w K mg base CX k f fd ps RF :=
 ⟨λvs H Q E q=>F.len vs H Q E (h _ _ _ _ q),λA outer s H args us vs Q E b he c a e=>F.run A outer s H args us vs Q E b he c a (h _ _ _ _ e)⟩
section
variable {X:Cx}{pins:List (Addr×Obj)}{σ:St}{H:Hp}{s s':aat}
theorem Inv.Up (I:Inv X pins σ H s):zM X.prog X.w X.K X.mg X.base X.A X.stack s H :=
 ⟨I.ok.frames,I.ok.mod,I.bs,abt I.ok.tG I.sz,I.stack,I.yb,I.bB,I.bare⟩
theorem Inv.after {Q:VK}{u:Value}(I:Inv X pins σ H s)(h:CE X.stack X.prog X.w H s Q u s'):EP X pins σ Q u s':=by
 obtain⟨v,f,os,bare,un,a,r,q⟩:=h
 obtain⟨e,g,d,t,c⟩:=s'
 obtain rfl:c=s.os:=os
 exact⟨v,f,I.call (h':=e) (g':=g) (d':=d) (t':=t) (ch:=[]) un a bare (λb z=>absurd z (by simp)),r,q⟩
end
noncomputable def zN (sp:Sp)(pg:List V)(E:XK)(t:TA):TE:=λσ H Q=>t σ H λa H1=>sp (a++pg) H1 Q E
noncomputable def Binds (K:aaI)(fd:abR)(ps:List Str)(ds:List Value):Prop :=
 ∀(s:aat) (us:List Value),K.In s.heap->(us++ds).length=ps.length->ahq s fd ⟨us,[]⟩ (ps.zip (us++ds))
theorem Binds.all {K:aaI}{fd:abR}{ps:List Str}(h:∀us:List Value,us.length=ps.length->bindArgs fd ⟨us,[]⟩=pure (ps.zip us)):Binds K fd ps []:=λs us _ a=>by
 rw[ab9]at a ⊢
 exact .of_eq (h us a)
def Passes (CX:mR)(X:Cx)(E:XK):Prop:=∀(pins:List (Addr×Obj)) (σ:St) (H:Hp) (s:aat) (e:Value) (s':aat),Inv X pins σ H s->CX X.stack H s E e s'->X.xe e s'
section
variable {X:Cx}{CX:mR}{k:Nat}{f C:Addr}{fd:abR}{ps:List Str}{sp:Sp}{pg:List V}{ds:List Value}{E:XK}{x m:Str}{p pos apos:Pos}{e o:Expr}{es:List Expr}{ta:TE}{t:TA}
theorem Bq {pins:List (Addr×Obj)}{σ:St}{H:Hp}{s:aat}{Q:VK}{us:List Value}{vs:List V}(F:dE X.prog X.w X.K X.mg X.base CX k f fd ps sp)(hr:aC k X.A)(hb:Binds X.K fd ps ds)(hd:Vals pg ds)(hx:Passes CX X E)
  (I:Inv X pins σ H s) (r:Vals vs us) (h:sp (vs++pg) H Q E):wpAny (model X.prog X.w) X.A (call (.ref f) us) (EP X pins σ Q) X.xe s:=by
 have b:Vals (vs++pg) (us++ds):=r.append hd
 have i:(us++ds).length=ps.length:=by rw[<- b.length];exact F.len _ _ _ _ h
 refine wpAny_call (aeM (F.run X.A X.stack s H ⟨us,[]⟩ (us++ds) (vs++pg) Q E hr I.Up (hb s us I.iZ i) b h) λr c a=>?_)
 cases r with
 |error e=>exact hx pins σ H s e c I a
 |ok fl =>
  cases fl with
  |ret u=>exact I.after a
  |next=>exact ada a
  |brk=>exact ada a
  |cont=>exact ada a
theorem IB (F:dE X.prog X.w X.K X.mg X.base CX k f fd ps sp)(hr:aC k X.A)(hg:Gl X x)(hm:X.mg x=some (.ref f))(hk:acx X.K (.ref f)=true)(hb:Binds X.K fd ps ds)(hd:Vals pg ds)(hx:Passes CX X E)
  (ha:PA X (e::es) t) (jB:(x == ("__debug__":Str))=false:=by decide) (he:aaZ (e::es) X.env=(false,eval e X.env)::aaZ es X.env:=by rfl) (j4:(adl pos (aaZ es X.env)).any (·.1)=false:=by rfl):
  PE X (.Call (.Name x p) (e::es) [] pos) (zN sp pg E t):=by
 intro pins s σ H Q I h
 refine acY (rZ I hg hm ?_ jB)
 refine PySem.W.callWith_K (h₀:=X.base) I.ok.mod.va hk (aT (ha pos pins s σ H _ I h) λus s1 ⟨b,H1,a,r,q⟩=>⟨a.iZ,?_⟩) he j4
 exact Bq F hr hb hd hx a r q
theorem DZ (F:dE X.prog X.w X.K X.mg X.base CX k f fd ps sp)(hr:aC k X.A)(hg:Gl X x)(hm:X.mg x=some (.ref f))(hk:acx X.K (.ref f)=true)(hb:Binds X.K fd ps ds)(hd:Vals pg ds)(hx:Passes CX X E)
  (jB:(x == ("__debug__":Str))=false:=by decide):PE X (.Call (.Name x p) [] [] pos) (zN sp pg E Lo):=by
 intro pins s σ H Q I h
 refine acY (rZ I hg hm ?_ jB)
 exact PySem.W.callWith_K0 I.iZ hk (Bq (us:=[]) F hr hb hd hx I .nil h)
structure Mk (K:aaI)(C f:Addr):Prop where
 makes:PySem.W.makesIn K C=true
 init:PySem.W.findIn K (.ref C) "__init__" = some (some (.ref f))
 fn:PySem.W.isFn K (.ref f)=true
 kp:acx K (.ref C)=true
end
structure js (N P:List Str)(sc:Scope):Prop where
 kind:sc.kind = .function
 co:sc.isCoroutine=false
 gen:sc.isGenerator=false
 nd:N.Nodup
 pre:N.take P.length=P
 par:∀x∈P,sc.names.lookup x=some .local\/sc.names.lookup x=some .cell
 Lq:∀y∈sc.names,y.2 ≠ .free
theorem tM {kindOf:Str->Option acO}{x:Str}:∀{binds:List (Str×Value)} {m:Str->Option Value},(∀v,(x,v) ∉ binds)->bindL kindOf binds m x=m x
 | [],_,_=>rfl
 | (n,v)::r,m,h=>by
  unfold bindL
  rw[tM λw hw=>h w (aaR _ hw)]
  split
  . have:x≠n:=by rintro rfl;exact h v aaO
    simp[this]
  . rfl
theorem tN {kindOf:Str->Option acO}{x:Str}:∀{binds:List (Str×Value)} {m:Str->Option Value},(∀v,(x,v) ∉ binds)->bindC kindOf binds m x=m x
 | [],_,_=>rfl
 | (n,v)::r,m,h=>by
  unfold bindC
  rw[tN λw hw=>h w (aaR _ hw)]
  split
  . rfl
  . have:x≠n:=by rintro rfl;exact h v aaO
    simp[this]
theorem tO {kindOf:Str->Option acO}{x:Str}{v:Value}:∀{P:List Str} {vs:List Value} {i:Nat} {m:Str->Option Value},P.Nodup->P[i]? = some x->vs[i]? = some v->kindOf x=some .local ->
  bindL kindOf (P.zip vs) m x=some v
 | [],_,_,_,_,h,_,_=>by simp at h
 |_::_,[],_,_,_,_,h,_=>by simp at h
 |p::P,w::vs,0,m,nd,h1,h2,hk=>by
  simp at h1 h2;subst h1;subst h2
  show bindL kindOf ((p,w)::P.zip vs) m p=_
  unfold bindL
  rw[tM λv a=>(ab_.mp nd).1 (afY a).1,if_pos hk]
  simp
 |p::P,w::vs,i+1,m,nd,h1,h2,hk=>by
  show bindL kindOf ((p,w)::P.zip vs) m x=_
  unfold bindL
  exact tO (i:=i) (ab_.mp nd).2 (by simpa using h1) (by simpa using h2) hk
theorem tP {kindOf:Str->Option acO}{x:Str}{v:Value}:∀{P:List Str} {vs:List Value} {i:Nat} {m:Str->Option Value},P.Nodup->P[i]? = some x->vs[i]? = some v->kindOf x≠some .local ->
  bindC kindOf (P.zip vs) m x=some v
 | [],_,_,_,_,h,_,_=>by simp at h
 |_::_,[],_,_,_,_,h,_=>by simp at h
 |p::P,w::vs,0,m,nd,h1,h2,hk=>by
  simp at h1 h2;subst h1;subst h2
  show bindC kindOf ((p,w)::P.zip vs) m p=_
  unfold bindC
  rw[tN λv a=>(ab_.mp nd).1 (afY a).1,if_neg hk]
  simp
 |p::P,w::vs,i+1,m,nd,h1,h2,hk=>by
  show bindC kindOf ((p,w)::P.zip vs) m x=_
  unfold bindC
  exact tP (i:=i) (ab_.mp nd).2 (by simpa using h1) (by simpa using h2) hk
noncomputable def start (N:List Str)(vs:List V):St:=vs.map some++aaW (N.length-vs.length) none
noncomputable def mS (CX:mR)(P:aaY)(w:World)(K:aaI)(mg:Str->Option Value)(base:Heap)(N:List Str)(qual:Str)(scope:Scope)(f:Addr)(cd:Value)(A:aaV)(outer:List Env)(s:aat)(H:Hp)(E:XK):Cx where
 prog:=P
 w:=w
 K:=K
 mg:=mg
 base:=base
 A:=A.deeper (aeN qual scope s.heap.objs.size f cd)
 N:=N
 s₀:=s
 H₀:=H
 env:=aeN qual scope s.heap.objs.size f cd
 outer:=outer
 stack:=aeN qual scope s.heap.objs.size f cd::outer
 ex:=[]
 calm:=true
 fn:=λ_=>true
 pn:=[]
 xe:=λe c=>wpAny (model P w) (A.deeper (aeN qual scope s.heap.objs.size f cd)) (leaving (aeN qual scope s.heap.objs.size f cd) e) (λ_ a=>CX outer H s E e a) (λb a=>CX outer H s E b a) c
theorem vq {sc:Scope}{n:Nat}{x:Str}(h:sc.names.lookup x=some .cell):∃c,(abO n sc.names []).lookup x=some c:=by
 have q:=af7 sc.names n [] (.inl h)
 exact adm.mp q
theorem Br {CX:mR}{P:aaY}{w:World}{K:aaI}{mg:Str->Option Value}{base:Heap}{N ps:List Str}{qual:Str}{scope:Scope}{f:Addr}{cd:Value}{A:aaV}{outer:List Env}{s s1:aat}{H:Hp}{E:XK}{us:List Value}{vs:List V}
   (S:js N ps scope) (hd:A.handled=none) (e0:zM P w K mg base A outer s H) (hl:vs.length=ps.length) (r:Vals vs us)
   (x:InCallC s s.heap.objs.size (bindL (aeN qual scope s.heap.objs.size f cd).kindOf (ps.zip us) λ_=>none) (abO (s.heap.objs.size+1) scope.names []) (bindC (aeN qual scope s.heap.objs.size f cd).kindOf (ps.zip us) λ_=>none) s1):
   Inv (mS CX P w K mg base N qual scope f cd A outer s H E) [] (start N vs) H s1:=by
 have j4:ps.length<=N.length:=by have:=congrArg afc S.pre;rw[ab3]at this;omega
 obtain⟨h1,tk,rfl,hk⟩:=x.done
 have Bs:∀b:Addr,b ∉ (mS CX P w K mg base N qual scope f cd A outer s H E).ex:=λb z=>absurd (show b∈([]:List Addr) from z) (by simp)
 refine⟨⟨e0.mod,S.kind,rfl,rfl,aaC _,λy z c h1 j=>?_,λy l=>?_,λy c _ h=>?_,λ_=>hd,Around.frames_deeper e0.frames,.inr ⟨rfl,rfl⟩,λb z=>absurd z (Bs b),e0.bs,e0.tG,λb _ _=>Bs b,λb z=>absurd z (Bs b),e0.jz,e0.ya⟩,
   rfl,e0.bare,Un.kept hk,⟨_,x.toInCall.ns,λi y v h1 j h3=>?_⟩,λy c h=>⟨_,x.cell y c h⟩,e0.bB.fresh (aaC _),λy c h=>?_,λp o=>absurd (show p∈([]:List (Addr×Obj)) from o) (by simp),e0.bB.kept hk,?_⟩
 . exact name_of_addr x.apart (abV h1) (abV j)
 . have l:scope.names.lookup y=some .cell\/scope.names.lookup y=some .free:=l
   rcases l with l|l
   . exact vq l
   . exact absurd rfl (S.Lq _ (abV l))
 . exact adk (x.above y c (abV h))
 . have hi:i<vs.length:=by
     unfold start at j
     by_cases hi:i<vs.length
     . exact hi
     . rw[abz (by simpa using hi)]at j
       rw[afU]at j
       split at j<;>cases j
   have ha:vs[i]? = some v:=by
     unfold start at j
     rw[aaS (by simpa using hi),abE]at j
     cases e:vs[i]? with
     |none=>rw[e]at j;cases j
     |some a=>rw[e]at j;cases j;rfl
   obtain⟨u,hu,rv⟩:=r.get ha
   have o:ps[i]? = some y:=by
     rw[<- S.pre,abi (by omega)];exact h1
   have RG:ps.Nodup:=by rw[<- S.pre];exact S.nd.sublist (afu _ _)
   refine⟨u,rv,?_⟩
   rcases S.par y (aa6 o)with k|k
   . exact .inl ⟨k,tO RG o hu k⟩
   . obtain⟨c,e⟩:=vq (n:=s.heap.objs.size+1) k
     refine .inr ⟨.inl k,c,e,?_⟩
     have q:=x.cell y c e
     rw[tP RG o hu (by show scope.names.lookup y≠_;rw[k];decide)]at q
     exact q
 . exact e0.bB.fresh (adk (x.above y c (abV h)))
 . unfold start
   show _=N.length
   rw[acd,aaM,List.length_replicate]
   omega
theorem Qw {CX:mR}{P:aaY}{w:World}{K:aaI}{mg:Str->Option Value}{base:Heap}{k:Nat}{f:Addr}{name qual:Str}{params:Arguments}{body:List Stmt}{scope:Scope}{dV kV doc pm dZ ct oc:Value}{an od:Option Addr}
  {vt:Array (Option Value)} {N ps:List Str} {sp:Sp} (lk:K.lookup f=some ⟨oc,od,.func (adn name qual params body scope dV kV doc pm an dZ ct),vt⟩) (j3:ae0 K dZ qual=true) (S:js N ps scope)
  (len:∀vs H Q E,sp vs H Q E->vs.length=ps.length)
  (zO:∀(A:aaV) (outer:List Env) (s:aat) (H:Hp) (vs:List V) (Q:VK) (E:XK),aC k (A.deeper (aeN qual scope s.heap.objs.size f dZ))->sp vs H Q E ->
    ∃t,gR (mS CX P w K mg base N qual scope f dZ A outer s H E) body t/\t { nx:=λ_ H'=>Q .ay H',rt:=Q } (start N vs) H):
  dE P w K mg base CX (k+1) f (adn name qual params body scope dV kV doc pm an dZ ct) ps sp:=by
 refine⟨len,λA outer s H args us vs Q E i c hb r p=>?_⟩
 have hl:=len _ _ _ _ p
 have l:K.In s.heap:=c.mod.va.keeps λb o e=>(c.bs b o e).1
 have lim:s.heap.NoLimit:=c.mod.nolimit.keeps λb o e=>(c.bs b o e).1
 have uI:∀y∈ps.zip us,scope.names.lookup y.1=some .local\/(scope.names.lookup y.1=some .cell/\((abO (s.heap.objs.size+1) scope.names []).lookup y.1).isSome=true):=λ⟨n,v⟩ hy=>by
  rcases S.par n (afY hy).1 with q|q
  . exact .inl q
  . exact .inr ⟨q,af7 _ _ _ (.inl q)⟩
 refine codeAny_call_function i.depth (l _ _ lk) rfl S.co S.gen rfl (PySem.W.codeRec_of l j3) (hb _ _ _ _ ?_)
 refine wpAny_newFunctionEnv_cells S.kind uI λenv he s1 x=>?_
 subst he
 refine⟨lim.keeps x.toInCall.keep,codeAny_func ?_⟩
 obtain⟨t,ht,hq⟩:=zO A outer s H vs Q E (i.deeper _) p
 have I:Inv (mS CX P w K mg base N qual scope f dZ A outer s H E) [] (start N vs) H s1:=Br S i.hd c hl r x
 refine aeK (ht [] s1 (start N vs) H _ I hq) (λz s' a=>?_) λe s' a=>a
 have fin:∀{h:St} {H':Hp} {v:V} {u:Value},Inv (mS CX P w K mg base N qual scope f dZ A outer s H E) [] h H' s'->RelV v u->Q v H'->CE outer P w H s Q u s' :=
  fun {h H' v u} J j q=>⟨v,H',J.os,J.bare,J.base,J.bB,j,q⟩
 cases z with
 |ret u =>
  obtain⟨v,h,H',J,j,q⟩:=a
  exact fin J j q
 |next =>
  obtain⟨h,H',J,q⟩:=a
  exact fin (v:=V.ay) (u:=acE) J rfl q
 |brk =>
  obtain⟨_,_,_,q⟩:=a
  exact ada q
 |cont =>
  obtain⟨_,_,_,q⟩:=a
  exact ada q
section
variable {X:Cx}{x:Str}{p pos:Pos}{e:Expr}{es:List Expr}{t:TA}{id T:String}{r:List V->Hp->VK->Prop}
noncomputable def RH (r:List V->Hp->VK->Prop)(t:TA):TE:=λσ H Q=>t σ H λa H1=>r a H1 Q
theorem vx (hc:cu X (.builtin id) r)(hg:Gl X x)(hm:X.mg x=none)(hv:acq x=some (.builtin id))(ha:PA X (e::es) t)(hn:x ≠ "__name__":=by decide)(jB:(x == ("__debug__":Str))=false:=by decide)
  (he:aaZ (e::es) X.env=(false,eval e X.env)::aaZ es X.env:=by rfl) (j4:(adl pos (aaZ es X.env)).any (·.1)=false:=by rfl):PE X (.Call (.Name x p) (e::es) [] pos) (RH r t):=by
 intro pins s σ H Q I h
 refine acY (iG I hg hm hv ?_ hn jB)
 exact aeO (aT (ha pos pins s σ H _ I h) λus s1 ⟨b,H1,c,a,f⟩=>hc pins s1 σ H1 b us Q c a f) he j4
theorem Bt (hc:cu X (.type T) r)(hg:Gl X x)(hm:X.mg x=none)(hv:acq x=some (.type T))(ha:PA X (e::es) t)(hn:x ≠ "__name__":=by decide)(jB:(x == ("__debug__":Str))=false:=by decide)
  (he:aaZ (e::es) X.env=(false,eval e X.env)::aaZ es X.env:=by rfl) (j4:(adl pos (aaZ es X.env)).any (·.1)=false:=by rfl):PE X (.Call (.Name x p) (e::es) [] pos) (RH r t):=by
 intro pins s σ H Q I h
 refine acY (iG I hg hm hv ?_ hn jB)
 exact acm (aT (ha pos pins s σ H _ I h) λus s1 ⟨b,H1,c,a,f⟩=>hc pins s1 σ H1 b us Q c a f) he j4
end
end L2
namespace HT
open PySem PyProof.Rows
section
open PySem.SeqAt
open PySem.AutoSeq1 (wpAny_loadPart')
open PySem.MeetsSeq PySem.MeetsSeq2 PySem.MeetsSeq3
end
section
variable {prog:aaY}{w:World}{A:aaV}{E:Value->aat->Prop}{s:aat}
theorem IC {t b:Addr}{vs ws:List Value}{Q:Value->aat->Prop}(ht:IsTup s.heap t vs.toArray)(hb:IsTup s.heap b ws.toArray)(hv:vs ≠ [])
   (h1:ws = []->Q (.ref t) s) (h2:ws ≠ []->Q (.ref s.heap.objs.size) { s with heap:=s.heap.push { cls:=.type "tuple",data:=.seq (vs++ws).toArray } })
   (hsz:vs.length+ws.length<=aaP):wpAny (model prog w) A (abp .Add (.ref t) (.ref b)) Q E s:=by
 obtain⟨⟨cls,o,data,h⟩,c,i,n,hd⟩:=id ht
 obtain⟨⟨p,k,data2,j⟩,a,f,l,hd2⟩:=id hb
 simp only at i hd f hd2
 subst i hd f hd2
 have e:vs.toArray++ws.toArray=(vs++ws).toArray:=by simp
 by_cases hw:ws = []
 . exact afK ⟨_,c,rfl⟩ ⟨_,a,rfl⟩ afL agE aes aen (aef _ _)
    (tuple_addW1 t b vs.toArray ws.toArray n l o k h j (by simpa using hv) (by simp[hw])) ⟨c,a,h1 hw⟩
 . refine afK ⟨_,c,rfl⟩ ⟨_,a,rfl⟩ afL agE aes aen (aef _ _)
    (tuple_addW2 t b vs.toArray ws.toArray n l o k h j (by simpa using hv) (by simpa using hw) (by rw[aaA,aaA];exact hsz)) ⟨c,a,?_⟩
   rw[e]
   exact h2 hw
noncomputable def bA (n d:Nat):Option Int->Nat
 |none=>d
 |some v=>if v<0 then(v+(n:Int)).toNat else min v.toNat n
theorem jC (n d:Nat):bA n d none=d:=rfl
theorem yi (n d k:Nat):bA n d (some (k:Int))=min k n:=by
 show(if(k:Int)<0 then((k:Int)+(n:Int)).toNat else min (k:Int).toNat n)=min k n
 rw[if_neg (by omega),abK]
theorem Lr (n d:Nat)(hd:d<=n)(o:Option Int):bA n d o<=n:=by
 cases o with
 |none=>exact hd
 |some v =>
  show(if v<0 then(v+(n:Int)).toNat else min v.toNat n)<=n
  by_cases hv:v<0
  . rw[if_pos hv];omega
  . rw[if_neg hv];exact Nat.min_le_right _ _
theorem yj (v:Int)(n d:Nat):(if v<0 then max (v+(n:Int)) 0 else min v (n:Int))=((bA n d (some v):Nat):Int):=by
 show(if v<0 then max (v+(n:Int)) 0 else min v (n:Int))=(((if v<0 then(v+(n:Int)).toNat else min v.toNat n):Nat):Int)
 by_cases hv:v<0
 . simp only[if_pos hv];omega
 . simp only[if_neg hv];omega
theorem zP (lo hi:Option Int)(n:Nat):abT lo hi 1 (n:Int)=(((bA n 0 lo:Nat):Int),((bA n n hi:Nat):Int)):=by
 have a:¬((1:Int)<0):=by omega
 unfold abT
 simp only[a,if_false]
 refine Prod.ext ?_ ?_
 . cases lo with
   |none=>rfl
   |some v=>exact yj v n 0
 . cases hi with
   |none=>rfl
   |some v=>exact yj v n n
theorem zQ (i j:Nat):aca (i:Int) (j:Int) 1=j-i:=by
 unfold aca
 have a:(1:Int)>0:=by omega
 simp only[a,if_true,Int.ediv_one]
 split<;>omega
theorem gW {v:Value}{o:Option Int}{Q:Option Int->aat->Prop}(p:ado v o)(h:Q o s):wpAny (model prog w) A (Builtin.Slice.slicePartIndex v) Q E s:=by
 cases p with
 |none=>exact slicePart_none h
 |int i t=>exact slicePart_int h
theorem jD {sl:Addr}{vl vu:Value}{lo hi:Option Int}{n:Nat}{Q:Int×Int×Nat->aat->Prop}(hs:s.heap.IsSliceOf sl vl vu .none)(pl:ado vl lo)(pu:ado vu hi)
  (h:Q (((bA n 0 lo:Nat):Int),1,bA n n hi-bA n 0 lo) s):wpAny (model prog w) A (ac5 (.ref sl) (pure (n:Int))) Q E s:=by
 obtain⟨os,b,c,a⟩:=id hs
 unfold ac5 afz
 refine aas (aas (acT b a (x:=vl) rfl (aas (acT b a (x:=vu) rfl (aas (acT b a (x:=.none) rfl (aau ?_)))))))
 refine aas (slicePart_none ?_)
 show wpAny _ _ (if((1:Int)== 0)=true then _ else _) _ _ s
 rw[if_neg (by decide)]
 refine aas (gW pl (aas (gW pu (aas (aau ?_)))))
 show wpAny _ _ (match abT lo hi 1 (n:Int)with| (lo,hi)=>pure (lo,(1:Int),aca lo hi 1)) _ _ s
 rw[zP lo hi n]
 show wpAny _ _ (pure (((bA n 0 lo:Nat):Int),(1:Int),aca ((bA n 0 lo:Nat):Int) ((bA n n hi:Nat):Int) 1)) _ _ s
 rw[zQ]
 exact aau h
theorem D1 (xs:Array Value)(i k:Nat):((aaz k).filterMap λ(m:Nat)=>xs[((i:Int)+(m:Int)*1).toNat]?).toArray=((xs.toList.drop i).take k).toArray:=by
 have e:(λ(m:Nat)=>xs[((i:Int)+(m:Int)*1).toNat]?)=λm=>xs[i+m]?:=by
  funext m
  have:((i:Int)+(m:Int)*1).toNat=i+m:=by omega
  rw[this]
 rw[e]
 have:=pick_run xs i k
 rw[List.filterMap_map]at this
 have a:((λx=>xs[x]?) ∘ λx=>i+x)=λm=>xs[i+m]?:=rfl
 rw[a]at this
 rw[this]
theorem o_ {t sl:Addr}{items:Array Value}{vl vu:Value}{lo hi:Option Int}{Q:Value->aat->Prop}(ht:IsTup s.heap t items)(hs:s.heap.IsSliceOf sl vl vu .none)(pl:ado vl lo)(pu:ado vu hi)
  (hw:¬(bA items.size 0 lo=0/\bA items.size items.size hi=items.size))
  (h:Q (.ref s.heap.objs.size) { s with heap:=s.heap.push { cls:=.type "tuple",data:=.seq ((items.toList.drop (bA items.size 0 lo)).take (bA items.size items.size hi-bA items.size 0 lo)).toArray } })
  (hsz:items.size<=aaP):wpAny (model prog w) A (ael (.ref t) (.ref sl)) Q E s:=by
 have a:sizeOk (.seq ((items.toList.drop (bA items.size 0 lo)).take (bA items.size items.size hi-bA items.size 0 lo)).toArray):=by
  show((items.toList.drop (bA items.size 0 lo)).take (bA items.size items.size hi-bA items.size 0 lo)).toArray.size<=aaP
  rw[aaA,ab3,adp,adw]
  omega
 have l:bA items.size items.size hi<=items.size:=Lr _ _ (aaC _) hi
 obtain⟨os,f,b,i⟩:=id hs
 have e:s.TypeIs (.ref sl) "slice":=⟨os,f,b⟩
 unfold ael
 try with_reducible refine aa1 ?_
 first|refine aas (aau ?_)|skip
 refine aas (adK ht.typeIs (by decide) ?_)
 refine aas (abf (name:=aa4 "__getitem__") ht.typeIs aa9
  (aa7 aa9 ht.typeIs aeW ?_ (afg _ _)))
 show wpAny _ _ (ac6 (.ref t) >>= _) _ _ s
 refine aas (agF ht ?_)
 refine aas (adq e ?_)
 rw[if_pos (by decide)]
 refine aas (jD hs pl pu ?_)
 have c:¬((((bA items.size 0 lo:Nat):Int)== 0&&(1:Int)== 1&&(bA items.size items.size hi-bA items.size 0 lo)== items.size)=true):=by
  intro q
  rw[aav,aav]at q
  have k:((bA items.size 0 lo:Nat):Int)=0:=eq_of_beq q.1.1
  have j:bA items.size items.size hi-bA items.size 0 lo=items.size:=eq_of_beq q.2
  exact hw ⟨by omega,by omega⟩
 show wpAny _ _ (if(((bA items.size 0 lo:Nat):Int)== 0&&(1:Int)== 1&&(bA items.size items.size hi-bA items.size 0 lo)== items.size)=true then _ else _) _ _ s
 rw[if_neg c,D1]
 first
  |exact aas (m:=abJ _) (aba (aau ⟨_,rfl,aau h⟩) a)
  |exact aas (m:=abJ _) (aba (aas (aau (aau ⟨_,rfl,aau h⟩))) a)
  |exact aas (aas (m:=abJ _) (aba (aau (aau ⟨_,rfl,aau h⟩)) a))
  |exact aas (aas (m:=abJ _) (aba (aau ⟨_,rfl,aau h⟩) a))
end
end HT
namespace L2
open PySem PySem.Spec PyProof.Rows
abbrev TO:=St->Hp->(Option Int->Hp->Prop)->Prop
noncomputable def PO (X:Cx)(e:Option Expr)(t:TO):Prop :=
 ∀(pins:List (Addr×Obj)) (s:aat) (σ:St) (H:Hp) (Q:Option Int->Hp->Prop),Inv X pins σ H s->t σ H Q ->
  wpAny (model X.prog X.w) X.A (evalPart e X.env) (λu a=>∃o H',Inv X pins σ H' a/\ado u o/\Q o H') X.xe s
noncomputable def ID:TO:=λ_ H Q=>Q none H
noncomputable def Qx (t:TE):TO:=λσ H Q=>t σ H λx H1=>∃i,x = .int i/\Q (some i) H1
section
variable {X:Cx}{e:Expr}{te:TE}{lo hi:Option Expr}{tl th:TO}{pos p2:Pos}
theorem IE:PO X none ID:=by
 intro pins s σ H Q I h
 rw[evalPart_none]
 exact aau ⟨none,H,I,.none,h⟩
theorem IF (h:PE X e te):PO X (some e) (Qx te):=by
 intro pins s σ H Q I hw
 rw[evalPart_some]
 refine aT (h pins s σ H _ I hw) λu s1 ⟨x,H1,b,a,c⟩=>?_
 obtain⟨i,rfl,q⟩:=c
 obtain⟨t,rfl⟩:=a
 exact⟨some i,H1,b,.int i t,q⟩
noncomputable def ph (X:Cx)(r:V->Option Int->Option Int->Hp->VK->Prop):Prop :=
 ∀(pins:List (Addr×Obj)) (s:aat) (σ:St) (H:Hp) (x:V) (v vl vu:Value) (lo hi:Option Int) (sl:Addr) (Q:VK),Inv X pins σ H s->RelV x v->s.heap.IsSliceOf sl vl vu .none->ado vl lo->ado vu hi->r x lo hi H Q ->
  ∃T id,typeLookup (.type T) "__getitem__" = pure (some (.builtin id))/\s.TypeIs v T/\wpAny (model X.prog X.w) X.A (ael v (.ref sl)) (EP X pins σ Q) X.xe s
theorem ph.or {r r':V->Option Int->Option Int->Hp->VK->Prop}(h:ph X r)(h':ph X r'):ph X (λx lo hi H Q=>r x lo hi H Q\/r' x lo hi H Q):=by
 intro pins s σ H x v b i lo hi a Q I e f c pu q
 rcases q with q|q
 . exact h pins s σ H x v b i lo hi a Q I e f c pu q
 . exact h' pins s σ H x v b i lo hi a Q I e f c pu q
noncomputable def XG (r:V->Option Int->Option Int->Hp->VK->Prop)(te:TE)(tl th:TO):TE:=λσ H Q=>te σ H λx H1=>tl σ H1 λl b=>th σ b λu a=>r x l u a Q
theorem D2 {r:V->Option Int->Option Int->Hp->VK->Prop}(hr:ph X r)(he:PE X e te)(hl:PO X lo tl)(hu:PO X hi th):PE X (.Subscript e (.Slice lo hi none p2) pos) (XG r te tl th):=by
 intro pins s σ H Q I h
 refine Subscript_ (aT (he pins s σ H _ I h) λv s1 ⟨x,H1,y,r1,p⟩=>?_)
 refine wpAny_Slice (aT (hl pins s1 σ H1 _ y p) λc s2 ⟨l,o,I2,j,q2⟩=>aT (hu pins s2 σ o _ I2 q2) λa s3 ⟨u,f,n,pu,q3⟩=>?_)
 rw[evalPart_none]
 refine aau ?_
 have z:Inv X pins σ f { s3 with heap:=s3.heap.push { cls:=.type "slice",data:=.fields #[c,a,.none] } }:=n.kept (t':=s3.toks) λb ob q=>aaw _ q
 obtain⟨T,id,hT,k,i⟩:=hr pins { s3 with heap:=s3.heap.push { cls:=.type "slice",data:=.fields #[c,a,.none] } } σ f x v c a l u s3.heap.objs.size Q z r1 (ag7 ..) j pu q3
 show wpAny (model X.prog X.w) X.A (agG e (.Slice lo hi none p2) v (.ref s3.heap.objs.size)) (EP X pins σ Q) X.xe { s3 with heap:=s3.heap.push { cls:=.type "slice",data:=.fields #[c,a,.none] } }
 exact tail_any (ops:=[.ref s3.heap.objs.size,v]) k hT i (by with_unfolding_all rfl)
noncomputable def mU (xs:List V)(lo hi:Option Int):List V:=(xs.drop (HT.bA xs.length 0 lo)).take (HT.bA xs.length xs.length hi-HT.bA xs.length 0 lo)
theorem pq (xs:List V)(lo hi:Option Int):(mU xs lo hi).length<=xs.length:=by
 unfold mU
 rw[ab3,adp]
 omega
noncomputable def Lv (K:aaI):V->Option Int->Option Int->Hp->VK->Prop:=λx lo b H Q=>∃a xs,x = .ref a/\dS K H a xs /\
 ¬(HT.bA xs.length 0 lo=0/\HT.bA xs.length xs.length b=xs.length) /\ ∀p,H p=none->Q (.ref p) (upd H p (.tup (mU xs lo b)))
theorem Lw:ph X (Lv X.K):=by
 intro pins s σ H x v z p lo c u Q I l n i pu h
 obtain⟨a,xs,rfl,j,hw,q⟩:=h
 cases l
 obtain⟨k,r,f,e⟩:=I.tuple j
 have hlen:k.toArray.size=xs.length:=by rw[aaA];exact r.length.symm
 refine⟨"tuple",_,aa9.lookup,f.typeIs,?_⟩
 refine HT.o_ f n i pu (by rw[hlen];exact hw) ?_ (by rw[hlen];exact e)
 rw[hlen]
 refine⟨.ref s.heap.objs.size,_,I.laid (t':=s.toks) (o:=.tup (mU xs lo c)) (λb y q=>aaw _ q) (aaC _) ?_,rfl,q _ (I.bB.fresh (aaC _))⟩
 exact⟨abt (pq xs lo c) e,_,(r.drop (HT.bA xs.length 0 lo)).take (HT.bA xs.length xs.length c-HT.bA xs.length 0 lo),fD.new _ _⟩
noncomputable def Qy (K:aaI):R2:=λx y H Q=>∃a b xs ys,x = .ref a/\y = .ref b/\dS K H a xs/\dS K H b ys/\xs ≠ []/\xs.length+ys.length<=aaP /\
 (ys = []->Q (.ref a) H)/\(ys ≠ []->∀p,H p=none->Q (.ref p) (upd H p (.tup (xs++ys))))
theorem Vals.r6 {xs:List V}{us:List Value}(r:Vals xs us):us = []↔ xs = []:=by
 cases r with
 |nil=>simp
 |cons _ _=>simp
theorem IG:aY X (abp .Add) (Qy X.K):=by
 intro pins s σ H x y v u Q I n j h
 obtain⟨a,b,xs,ys,rfl,rfl,k,hb,l,f,p,q2⟩:=h
 cases n
 cases j
 obtain⟨au,e,i,_⟩:=I.tuple k
 obtain⟨lA,c,r,_⟩:=I.tuple hb
 refine HT.IC i r (λz=>l (e.r6.mp z)) (λz=>⟨.ref a,H,I,rfl,p (c.r6.mp z)⟩) (λz=>?_) (by rw[<- e.length,<- c.length];exact f)
 refine⟨.ref s.heap.objs.size,_,I.laid (t':=s.toks) (o:=.tup (xs++ys)) (λb ob q=>aaw _ q) (aaC _) ?_,rfl,q2 (λw=>z (c.r6.mpr w)) _ (I.bB.fresh (aaC _))⟩
 exact⟨by rw[acd];exact f,_,e.append c,fD.new _ _⟩
end
noncomputable def kG (n:Nat)(i:Int):Option Nat:=if 0<=i then(if i<n then some i.toNat else none)else if -(n:Int)<=i then some (i+n).toNat else none
noncomputable def dU {α:Type}(xs:List α)(i:Int):Option α:=(kG xs.length i).bind λj=>xs[j]?
theorem yk {n:Nat}{i:Int}{j:Nat}(h:kG n i=some j):afh i n=some j/\j<n /\ -(n:Int)<=i/\i<n:=by
 unfold kG at h
 by_cases h0:0<=i
 . rw[if_pos h0]at h
   by_cases h1:i<n
   . rw[if_pos h1]at h
     have e:i.toNat=j:=abN h
     exact⟨by rw[ahO h0 h1,e],by omega,by omega,h1⟩
   . rw[if_neg h1]at h;cases h
 . rw[if_neg h0]at h
   by_cases h1:-(n:Int)<=i
   . rw[if_pos h1]at h
     have e:(i+n).toNat=j:=abN h
     exact⟨by rw[seqIndex_neg (by omega) h1,e],by omega,h1,by omega⟩
   . rw[if_neg h1]at h;cases h
theorem r_ {α:Type}{xs:List α}{i:Int}{v:α}(h:dU xs i=some v):∃j,afh i xs.length=some j/\xs[j]? = some v/\j<xs.length /\ -(xs.length:Int)<=i/\i<xs.length:=by
 unfold dU at h
 cases e:kG xs.length i with
 |none=>rw[e]at h;cases h
 |some j =>
  rw[e]at h
  obtain⟨a,b,f,c⟩:=yk e
  exact⟨j,a,h,b,f,c⟩
theorem IH {α:Type}{xs:List α}{j:Nat}{v:α}(h:xs[j]? = some v):dU xs (j:Int)=some v:=by
 have a:j<xs.length:=(aaB.mp h).1
 have e:kG xs.length (j:Int)=some j:=by
  unfold kG
  rw[if_pos (by omega),if_pos (by omega)];simp
 unfold dU;rw[e];exact h
def sd (b:Expr):Prop:=∀o i,subscripted b false o i=operate [o,i] (ael o i)
noncomputable def mV (X:Cx)(r:R2):Prop :=
 ∀(value slice:Expr) (pins:List (Addr×Obj)) (s:aat) (σ:St) (H:Hp) (x y:V) (v u:Value) (Q:VK),Inv X pins σ H s->RelV x v->RelV y u->r x y H Q ->
  subscripted slice false v u=operate [v,u] (ael v u)->wpAny (model X.prog X.w) X.A (agG value slice v u) (EP X pins σ Q) X.xe s
noncomputable def RJ (X:Cx)(id:String)(r:V->List V->Hp->VK->Prop):Prop :=
 ∀(pins:List (Addr×Obj)) (s:aat) (σ:St) (H:Hp) (x:V) (xs:List V) (v:Value) (us:List Value) (Q:VK),Inv X pins σ H s->RelV x v->Vals xs us->r x xs H Q ->
  wpAny (model X.prog X.w) X.A (call (.builtin id) (v::us)) (EP X pins σ Q) X.xe s
section
variable {X:Cx}{a b:Expr}{ta tb:TE}{pos:Pos}
theorem mV.or {r r':R2}(h:mV X r)(h':mV X r'):mV X (λx y H Q=>r x y H Q\/r' x y H Q):=by
 intro value slice pins s σ H x y v u Q I b a q c
 rcases q with q|q
 . exact h value slice pins s σ H x y v u Q I b a q c
 . exact h' value slice pins s σ H x y v u Q I b a q c
theorem Qz {r:R2}(hr:mV X r)(ha:PE X a ta)(hb:PE X b tb)(hs:sd b):PE X (.Subscript a b pos) (Bj r ta tb):=by
 intro pins s σ H Q I h
 exact Subscript_ (DQ ha hb I h λv u s2 x y e i f c q=>hr a b pins s2 σ e x y v u Q i f c q (hs _ _))
noncomputable def Lx (K:aaI):R2:=λx y H Q=>∃p xs i v,x = .ref p/\y = .int i/\da K H p xs/\dU xs i=some v/\Q v H
noncomputable def Ly (K:aaI):R2:=λx y H Q=>∃p xs i v,x = .ref p/\y = .int i/\dS K H p xs/\dU xs i=some v/\Q v H
noncomputable def Lz:R2:=λx y H Q=>∃z i c,x = .str z/\y = .int i/\z.length<=aaP/\dU z.cps.toList i=some c/\Q (.str ⟨#[c]⟩) H
theorem II:mV X (Lx X.K):=by
 intro value slice pins s σ H x y v u Q I rx n h f
 obtain⟨p,xs,i,z,rfl,rfl,k,he,q⟩:=h
 cases rx
 obtain⟨t,rfl⟩:=n
 obtain⟨o,r,b,hz⟩:=I.list k
 obtain⟨j,a,l,h3,h4,h5⟩:=r_ he
 obtain⟨w,e,vm⟩:=r.get l
 have hl:=r.length
 have hn:=kE
 have fin:EP X pins σ Q w s:=⟨z,H,I,vm,q⟩
 by_cases h0:0<=i
 . have c:i.toNat=j:=by
    rw[ahO h0 h5]at a
    exact abN a
   exact item_listR b.isList h0 (by omega) (by rw[c];simpa using e) fin f
 . have c:(i+(o.toArray.size:Int)).toNat=j:=by
    rw[seqIndex_neg (by omega) h4]at a
    rw[aaA,<- hl]
    exact abN a
   exact aet (x:=w) b.isList.typeIs slot_list_getitem.lookup
    (wpAny_getItem_list_neg (Q:=λr s'=>r=w/\EP X pins σ Q r s') b.isList (by omega) (by rw[aaA]<;>omega) (by omega) (by rw[c];simpa using e) ⟨rfl,fin⟩) f
theorem LA:mV X (Ly X.K):=by
 intro value slice pins s σ H x y v u Q I k e h hs
 obtain⟨p,xs,i,z,rfl,rfl,b,he,q⟩:=h
 cases k
 obtain⟨t,rfl⟩:=e
 obtain⟨au,r,a,hz⟩:=I.tuple b
 obtain⟨j,l,c,h3,h4,h5⟩:=r_ he
 obtain⟨w,n,f⟩:=r.get c
 have hl:=r.length
 have hn:=kE
 have fin:EP X pins σ Q w s:=⟨z,H,I,f,q⟩
 exact aet (x:=w) a.typeIs aa9.lookup
  (getItem_tuple (j:=j) (Q:=λr o=>r=w/\EP X pins σ Q r o) a (by omega) (by omega) (by rw[aaA,<- hl];exact l) (by simpa using n) ⟨rfl,fin⟩) hs
theorem LB:mV X Lz:=by
 intro value slice pins s σ H x y v u Q I l f h o
 obtain⟨z,i,c,rfl,rfl,hz,he,q⟩:=h
 obtain⟨t,rfl⟩:=l
 obtain⟨t',rfl⟩:=f
 obtain⟨j,a,b,h3,k,n⟩:=r_ he
 have r:z.cps.toList.length=z.length:=by simp[Str.length]
 rw[r]at a k n
 have hn:=kE
 exact tail_any (agt s z t) slot_str_getitem.lookup (getItem_str (c:=c) (by
  have p:decide (i < -(2 ^ 63:Int))=false:=decide_eq_false (by omega)
  have e:decide (i>=2 ^ 63)=false:=decide_eq_false (by omega)
  rw[p,e,adB]) (by rw[a];simpa using b) ⟨.str ⟨#[c]⟩,H,I.tok _,⟨_,rfl⟩,q⟩) o
noncomputable def XH (K:aaI):R2:=λx y H Q=>Lx K x y H Q\/Ly K x y H Q\/Lz x y H Q
theorem Bu:mV X (XH X.K):=II.or (LA.or LB)
theorem zR (au:List Value)(n j:Nat)(u:Value):ab4 (·.setIfInBounds j u) { cls:=.type "list",data:=.seq au.toArray n }={ cls:=.type "list",data:=.seq (au.set j u).toArray n }:=by
 simp[ab4]
theorem Inv.lst {pins:List (Addr×Obj)}{σ:St}{H:Hp}{s:aat}{p:Addr}{xs:List V}(I:Inv X pins σ H s)(h:H p=some (.lst xs)):
  ∃(au:List Value) (n:Nat),Vals xs au/\s.heap.get? p=some { cls:=.type "list",data:=.seq au.toArray n }/\xs.length<=aaP:=by
 obtain⟨z,au,n,r,e⟩:=I.bB p _ h
 exact⟨au,n,r,e,z⟩
theorem Inv.LC {pins:List (Addr×Obj)}{σ:St}{H:Hp}{s:aat}{p:Addr}{xs ys:List V}{au its':List Value}{n n':Nat}{f:Obj->Obj}(I:Inv X pins σ H s)(h:H p=some (.lst xs))
  (ho:s.heap.get? p=some { cls:=.type "list",data:=.seq au.toArray n }) (hf:f { cls:=.type "list",data:=.seq au.toArray n }={ cls:=.type "list",data:=.seq its'.toArray n' }) (r:Vals ys its') (hz:ys.length<=aaP) (t:Nat):
  Inv X pins σ (upd H p (.lst ys)) { s with heap:=s.heap.update p f,toks:=t }:=by
 have e:(s.heap.update p f).get? p=some { cls:=.type "list",data:=.seq its'.toArray n' }:=by
  rw[abl f ho (by rw[hf]<;>rfl),hf]
 refine I.write (x:=p) (e:=p) (by rw[h];trivial) (.inl rfl) (λb u a q=>(ab6 _ _ (acg a)).trans q) ⟨_,e⟩ ?_
 exact⟨hz,its',n',r,e⟩
noncomputable def QA:V->V->V->Hp->(Hp->Prop)->Prop:=λo i v H Q=>∃p xs k j,o = .ref p/\i = .int k/\H p=some (.lst xs)/\kG xs.length k=some j/\Q (upd H p (.lst (xs.set j v)))
theorem set_list:DL X QA:=by
 intro pins s σ H o i v ov iv u Q I ro ri rv h
 obtain⟨p,xs,k,j,rfl,rfl,y,hj,q⟩:=h
 cases ro
 obtain⟨t,rfl⟩:=ri
 obtain⟨l,n,r,c,hz⟩:=I.lst y
 obtain⟨a,h2,z,x⟩:=yk hj
 have e:=r.length
 have hn:=kE
 have f:Inv X pins σ (upd H p (.lst (xs.set j v))) { s with heap:=s.heap.update p (ab4 (·.setIfInBounds j u)) }:=
   I.LC y c (zR l n j u) (r.set rv j) (by rw[afZ];exact hz) s.toks
 by_cases h0:0<=k
 . have b:k.toNat=j:=by
    rw[ahO h0 x]at a
    exact abN a
   exact PySem.W.ki_setAt c h0 (by omega) (by rw[aaA,<- e];exact x) (by rw[b];exact⟨_,f,q⟩)
 . have b:(k+(l.toArray.size:Int)).toNat=j:=by
    rw[seqIndex_neg (by omega) z]at a
    rw[aaA,<- e]
    exact abN a
   exact PySem.W.ki_setBack c (by omega) (by rw[aaA,<- e];exact z) (by omega) (by rw[b];exact⟨_,f,q⟩)
theorem vz (lo hi:Option Int)(n:Nat):(ad8 lo hi none n).1=((HT.bA n 0 lo:Nat):Int)/\(ad8 lo hi none n).2.1=((HT.bA n n hi:Nat):Int)/\(ad8 lo hi none n).2.2=1:=by
 refine⟨?_,?_,rfl⟩
 . cases lo with
   |none=>simp[ad8,HT.bA]
   |some i =>
    simp only[ad8,HT.bA,ah0,show(1:Int)>0 by decide,if_true]
    by_cases h:i<0
    . simp only[h,if_true]<;>omega
    . simp only[h,if_false]<;>omega
 . cases hi with
   |none=>simp[ad8,HT.bA]
   |some i =>
    simp only[ad8,HT.bA,ah0,show(1:Int)>0 by decide,if_true]
    by_cases h:i<0
    . simp only[h,if_true]<;>omega
    . simp only[h,if_false]<;>omega
theorem uC (au:List Value)(lo hi:Option Int):slicePick au.toArray lo hi none=((au.drop (HT.bA au.length 0 lo)).take (HT.bA au.length au.length hi-HT.bA au.length 0 lo)).toArray:=by
 obtain⟨a,b,c⟩:=vz lo hi au.toArray.size
 unfold slicePick
 rw[a,b,c]
 simp only[sliceRange_one,pick_run,aaA]<;>rfl
noncomputable def LD (K:aaI):V->Option Int->Option Int->Hp->VK->Prop:=λx lo b H Q=>∃a xs,x = .ref a/\da K H a xs /\ ∀p,H p=none->Q (.ref p) (upd H p (.lst (mU xs lo b)))
theorem IJ:ph X (LD X.K):=by
 intro pins s σ H x v z n lo c u Q I k l i pu h
 obtain⟨a,xs,rfl,j,q⟩:=h
 cases k
 obtain⟨p,r,e,f⟩:=I.list j
 have hlen:=r.length
 refine⟨"list",_,slot_list_getitem.lookup,e.isList.typeIs,?_⟩
 refine wpAny_getItem_list_slice e.isList l i pu .none (by simp) ?_ (by rw[aaA]<;>omega)
 rw[uC,<- hlen]
 refine⟨.ref s.heap.objs.size,_,I.laid (t':=s.toks) (o:=.lst (mU xs lo c)) (λb y q=>aaw _ q) (aaC _) ?_,rfl,q _ (I.bB.fresh (aaC _))⟩
 exact⟨abt (pq xs lo c) f,_,0,(r.drop (HT.bA xs.length 0 lo)).take (HT.bA xs.length xs.length c-HT.bA xs.length 0 lo),aaG _ rfl⟩
noncomputable def ja:V->Bool
 |.ay=>true
 |.bl _=>true
 |.int _=>true
 |.str _=>true
 |_=>false
noncomputable def tR:V->V->Bool
 |.ay,.ay=>true
 |.bl a,.bl b=>a == b
 |.bl a,.int b=>(if a then 1 else 0)== b
 |.int a,.bl b=>a == (if b then 1 else 0)
 |.int a,.int b=>a == b
 |.str a,.str b=>a == b
 |_,_=>false
theorem LF {A:aaV}{s:aat}{y x:V}{u v:Value}(ry:RelV y u)(rx:RelV x v)(fy:ja y=true)(fx:ja x=true):SeqAt.EqAt A s u v (tR y x):=by
 cases y with
 |ay =>
  cases ry
  cases x with
  |ay=>cases rx;exact SeqAt.EqAt.same _
  |bl b=>cases rx;exact SeqAt.EqAt.none_bool b
  |int b=>obtain⟨t,rfl⟩:=rx;exact SeqAt.EqAt.none_int b t
  |str b=>obtain⟨t,rfl⟩:=rx;exact SeqAt.EqAt.none_str b t
  |_=>exact absurd (show false=true from fx) abZ
 |bl a =>
  cases ry
  cases x with
  |ay=>cases rx;exact SeqAt.EqAt.bool_none a
  |bl b=>cases rx;exact SeqAt.EqAt.bool_bool a b
  |int b=>obtain⟨t,rfl⟩:=rx;exact SeqAt.EqAt.bool_int a b t
  |str b=>obtain⟨t,rfl⟩:=rx;exact SeqAt.EqAt.bool_str a b t
  |_=>exact absurd (show false=true from fx) abZ
 |int a =>
  obtain⟨c,rfl⟩:=ry
  cases x with
  |ay=>cases rx;exact SeqAt.EqAt.int_none a c
  |bl b=>cases rx;exact SeqAt.EqAt.int_bool a c b
  |int b=>obtain⟨t,rfl⟩:=rx;exact SeqAt.EqAt.int_int a c b t
  |str b=>obtain⟨t,rfl⟩:=rx;exact agZ a c b t
  |_=>exact absurd (show false=true from fx) abZ
 |str a =>
  obtain⟨c,rfl⟩:=ry
  cases x with
  |ay=>cases rx;exact SeqAt.EqAt.str_none a c
  |bl b=>cases rx;exact SeqAt.EqAt.str_bool a c b
  |int b=>obtain⟨t,rfl⟩:=rx;exact ag0 a c b t
  |str b=>obtain⟨t,rfl⟩:=rx;exact SeqAt.EqAt.str_str a c b t
  |_=>exact absurd (show false=true from fx) abZ
 |_=>exact absurd (show false=true from fy) abZ
noncomputable def FZ (x:V)(u:Value):Bool:=match u with
 |.none=>tR .ay x
 |.bool b=>tR (.bl b) x
 |.int i _=>tR (.int i) x
 |.str z _=>tR (.str z) x
 |_=>false
theorem Bv {x y:V}{u:Value}(r:RelV y u)(f:ja y=true):FZ x u=tR y x:=by
 cases y with
 |ay=>cases r;rfl
 |bl b=>cases r;rfl
 |int i=>obtain⟨t,rfl⟩:=r;rfl
 |str z=>obtain⟨t,rfl⟩:=r;rfl
 |_=>exact absurd (show false=true from f) abZ
theorem vA {A:aaV}{s:aat}{x:V}{v:Value}(rx:RelV x v)(fx:ja x=true):∀{xs:List V} {us:List Value},Vals xs us->xs.all ja=true->∀u∈us,SeqAt.EqAt A s u v (FZ x u)
 |_,_,.nil,_=>λu hu=>by cases hu
 |y::xs,u::us,.cons r t,f=>λa hu=>by
  rw[acu,aav]at f
  rcases aaD.mp hu with rfl|hu
  . rw[Bv r f.1];exact LF r rx f.1 fx
  . exact vA rx fx t f.2 a hu
theorem vB:cu X (.builtin "len") (λxs H Q=>∃p ys,xs = [.ref p]/\(da X.K H p ys\/dS X.K H p ys)/\Q (.int ys.length) H):=by
 intro pins s σ H xs us Q I r h
 obtain⟨p,ys,rfl,a,q⟩:=h
 obtain⟨u,rfl,i⟩:=vals1 r
 cases i
 have j:=kE
 rcases a with a|a
 . obtain⟨f,b,c,e⟩:=I.list a
   have hlen:=b.length
   exact Calls.call_len_list c.isList (by simp only[aaA]<;>omega) ⟨.int ys.length,H,I.tok _,⟨s.toks+1,by rw[aaA,hlen]⟩,q⟩
 . obtain⟨f,b,c,e⟩:=I.tuple a
   have hlen:=b.length
   exact len_tuple c (by simp only[aaA]<;>omega) ⟨.int ys.length,H,I.tok _,⟨s.toks+1,by rw[aaA,hlen]⟩,q⟩
theorem mW:cu X (.type "list") (λxs H Q=>∃p ys,xs = [.ref p]/\(da X.K H p ys\/dS X.K H p ys) /\ ∀l,H l=none->Q (.ref l) (upd H l (.lst ys))):=by
 intro pins s σ H xs us Q I r h
 obtain⟨p,ys,rfl,j,q⟩:=h
 obtain⟨u,rfl,rx⟩:=vals1 r
 cases rx
 have fin:∀(c:List Value),Vals ys c->ys.length<=aaP->∀(a:Heap) (i:Nat),(∀b o',s.heap.get? b=some o'->a.get? b=some o') ->
    a.get? s.heap.objs.size=some { cls:=.type "list",dict:=none,data:=.seq c.toArray i,slots:=#[] }->EP X pins σ Q (.ref s.heap.objs.size) { s with heap:=a }:=λc f k a i v e =>
   ⟨.ref s.heap.objs.size,_,I.laid (t':=s.toks) v (aaC _) (show cP X.prog X.w _ a _ (.lst ys) from⟨k,c,i,f,e⟩),rfl,q _ (I.bB.fresh (aaC _))⟩
 rcases j with j|j
 . obtain⟨c,f,y,k⟩:=I.list j
   have hlen:=f.length
   obtain⟨o,z,x,n,hd⟩:=y.isList
   exact call_list_seq p (.inl rfl) z x hd (λa i v e=>fin c f k a i v e) (by simp only[aaA]<;>omega)
 . obtain⟨c,f,y,k⟩:=I.tuple j
   have hlen:=f.length
   obtain⟨o,z,x,n,hd⟩:=y
   exact call_list_seq p (.inr rfl) z x hd (λa i v e=>fin c f k a i v e) (by simp only[aaA]<;>omega)
theorem mB:cu X (.type "tuple") (λxs H Q=>∃p ys,xs = [.ref p]/\((da X.K H p ys /\ ∀l,H l=none->Q (.ref l) (upd H l (.tup ys)))\/(dS X.K H p ys/\Q (.ref p) H))):=by
 intro pins s σ H xs us Q I r h
 obtain⟨p,ys,rfl,h⟩:=h
 obtain⟨u,rfl,n⟩:=vals1 r
 cases n
 rcases h with⟨hq,q⟩|⟨hq,q⟩
 . obtain⟨i,c,f,j⟩:=I.list hq
   have hlen:=c.length
   refine call_tuple_list f.isList (λa v=>?_) (by simp only[aaA]<;>omega)
   have k:Inv X pins σ H { s with heap:=a }:=I.kept (t':=s.toks) v
   have x:Inv X pins σ (upd H a.objs.size (.tup ys)) { s with heap:=a.push { cls:=.type "tuple",data:=.seq i.toArray } }:=
    k.laid (t':=s.toks) (λb o e=>aaw _ e) (aaC _) (show cP X.prog X.w _ _ _ (.tup ys) from⟨j,i,c,fD.new _ _⟩)
   exact⟨.ref a.objs.size,_,x,rfl,q _ (k.bB.fresh (aaC _))⟩
 . obtain⟨i,c,f,j⟩:=I.tuple hq
   exact call_tuple_same f ⟨.ref p,H,I,rfl,q⟩
def XI (K:aaI)(T:String)(x:V)(H:Hp):Prop:=match x with
 |.str _=>T = "str"
 |.int _=>T = "int"
 |.ref p=>(T = "list" /\ ∃xs,da K H p xs)\/(T = "tuple" /\ ∃o,K.lookup p=some o/\o.cls = .type "tuple" /\ o.dict=none) \/
  (T = "dict" /\ ((∃dD,H p=some (.dK dD)) \/ ∃dD,H p=some (.dT dD)))\/(T = "set" /\ ∃S n,H p=some (.set S n))
 |_=>False
theorem Bw {pins:List (Addr×Obj)}{σ:St}{H:Hp}{s:aat}{T:String}{x:V}{v:Value}(I:Inv X pins σ H s)(r:RelV x v)(ty:XI X.K T x H):
  s.TypeIs v T /\ ∀a,v = .ref a->∃ob,s.heap.get? a=some ob/\ob.dict=none:=by
 cases x with
 |str z =>
  obtain⟨t,rfl⟩:=r
  cases (show T = "str" from ty)
  exact⟨agt s z t,λ_ e=>nomatch e⟩
 |int i =>
  obtain⟨t,rfl⟩:=r
  cases (show T = "int" from ty)
  exact⟨afA s i t,λ_ e=>nomatch e⟩
 |ref p =>
  cases r
  rcases ty with⟨rfl,xs,hq⟩|⟨rfl,o,hk,hc,hd⟩|⟨rfl,hk⟩|⟨rfl,S,n,hk⟩
  . obtain⟨h,_,f,_⟩:=I.list hq
    refine⟨f.isList.typeIs,λa e=>?_⟩
    cases e
    obtain⟨o,n,e,c,hd,_⟩:=f
    exact⟨o,e,hd⟩
  . refine⟨⟨o,I.iZ p o hk,hc⟩,λa e=>?_⟩
    cases e
    exact⟨o,I.iZ _ o hk,hd⟩
  . have z:∃o,s.heap.get? p=some o/\o.ExactDict:=by
     rcases hk with⟨dD,hk⟩|⟨dD,hk⟩
     . obtain⟨_,_,_,_,o,_,_,e,ex,_⟩:=I.bB p _ hk
       exact⟨o,e,ex⟩
     . obtain⟨_,_,_,_,o,_,_,e,ex,_⟩:=I.bB p _ hk
       exact⟨o,e,ex⟩
    obtain⟨o,e,ex⟩:=z
    refine⟨⟨o,e,ex.1⟩,λa b=>?_⟩
    cases b
    exact⟨o,e,ex.2.1⟩
  . obtain⟨o,_,_,_,e,ex,_⟩:=I.bB p _ hk
    refine⟨⟨o,e,ex.1⟩,λa b=>?_⟩
    cases b
    exact⟨o,e,ex.2.1⟩
 |_=>exact ada ty
variable {o e:Expr}{es:List Expr}{to:TE}{t:TA}{name:Str}{apos gF:Pos}{T id:String}{r:V->List V->Hp->VK->Prop}
end
noncomputable def F0 (X:Cx)(id:String)(r:V->List V->Hp->VK->Prop):Prop :=
 ∀(pins:List (Addr×Obj)) (s:aat) (σ:St) (H:Hp) (x:V) (xs:List V) (v:Value) (us:List Value) (Q:VK),Inv X pins σ H s->RelV x v->Vals xs us->r x xs H Q ->
  wpAny (model X.prog X.w) X.A (call (.builtin id) (v::us)) (EP X pins σ Q) X.xe s
theorem Vals.one:∀{x:V} {us:List Value},Vals [x] us->∃u,us = [u]/\RelV x u
 |_,_,.cons r .nil=>⟨_,rfl,r⟩
theorem Vals.two:∀{x y:V} {us:List Value},Vals [x,y] us->∃u v,us = [u,v]/\RelV x u/\RelV y v
 |_,_,_,.cons r (.cons q .nil)=>⟨_,_,rfl,r,q⟩
theorem Vals.zero:∀{us:List Value},Vals [] us->us = []
 |_,.nil=>rfl
theorem Vals.dropLast {xs:List V}{us:List Value}(h:Vals xs us):Vals xs.dropLast us.dropLast:=by
 induction h with
 |nil=>exact .nil
 |cons r t ih =>
  cases t with
  |nil=>exact .nil
  |cons q t'=>exact .cons r ih
theorem Vals.eraseIdx:∀{xs:List V} {us:List Value} (i:Nat),Vals xs us->Vals (xs.eraseIdx i) (us.eraseIdx i)
 |_,_,_,.nil=>.nil
 |_,_,0,.cons _ t=>t
 |_,_,i+1,.cons r t=>.cons r (Vals.eraseIdx i t)
theorem Vals.rep {xs:List V}{us:List Value}(h:Vals xs us):∀k:Nat,Vals (aaW k xs).flatten (aaW k us).flatten
 | 0=>.nil
 |k+1=>by
  rw[acp,acp,ac8,ac8]
  exact Vals.append h (Vals.rep h k)
theorem zS {α:Type}(l:List α):l.eraseIdx (l.length-1)=l.dropLast:=by
 induction l with
 |nil=>rfl
 |cons a r ih =>
  cases r with
  |nil=>rfl
  |cons b r =>
   have e:(a::b::r).length-1=((b::r).length-1)+1:=by
    have c:(a::b::r).length=r.length+2:=rfl
    have f:(b::r).length=r.length+1:=rfl
    omega
   rw[e,aeo,ih]
   all_goals rfl
theorem tS {α:Type}:∀(l:List α) (i:Nat),(l.eraseIdx i).length<=l.length
 | [],_=>aaC _
 |_::_,0=>adI _
 |_::r,i+1=>Nat.succ_le_succ (tS r i)
theorem foldl_rep (au:List Value):∀(k:Nat) (acc:List Value),
  List.foldl (λx1 x2=>x1++x2) acc.toArray (aaW k au.toArray)=(acc++(aaW k au).flatten).toArray
 | 0,acc=>by simp
 |k+1,acc=>by
  have e:acc.toArray++au.toArray=(acc++au).toArray:=by simp
  have a:(acc++au)++(aaW k au).flatten=acc++(aaW (k+1) au).flatten:=by
   rw[acp,ac8,ab7]
  rw[<- a,<- foldl_rep au k (acc++au),<- e,acp,aip]
section
variable {X:Cx}{pins:List (Addr×Obj)}{σ:St}{H:Hp}{s:aat}{l b:Addr}{xs ys zs:List V}
theorem Inv.zT {au its':List Value}{n:Nat}{f:Array Value->Array Value}{t':Nat}(I:Inv X pins σ H s)(hH:H l=some (.lst xs))
  (e:s.heap.get? l=some { cls:=.type "list",data:=.seq au.toArray n }) (hf:f au.toArray=its'.toArray) (hv:Vals ys its') (hz:ys.length<=aaP):
  Inv X pins σ (upd H l (.lst ys)) { s with heap:=s.heap.update l (ab4 f),toks:=t' }:=by
 have q:=PySem.IsL.update e f
 rw[hf]at q
 refine I.write (x:=l) (e:=l) (by rw[hH];exact trivial) (.inl rfl) (λb u a hu=>(ab6 s.heap (ab4 f) (acg a)).trans hu) ⟨_,q⟩ ?_
 exact⟨hz,its',_,hv,q⟩
theorem Inv.Uq {au:List Value}{t':Nat}(I:Inv X pins σ H s)(hv:Vals ys au)(hz:ys.length<=aaP):
  Inv X pins σ (upd H s.heap.objs.size (.lst ys)) { s with heap:=s.heap.push { cls:=.type "list",data:=.seq au.toArray },toks:=t' }:=
 I.laid (λ_ _ q=>aaw _ q) (aaC _) ⟨hz,au,0,hv,aaG _ rfl⟩
theorem Inv.fresh (I:Inv X pins σ H s):H s.heap.objs.size=none:=I.bB.fresh (aaC _)
theorem Inv.zU (I:Inv X pins σ H s)(hH:H l=some (.lst xs)):xs.length<=aaP /\ ∃(au:List Value) (n:Nat),Vals xs au/\xs.length=au.length/\s.heap.get? l=some { cls:=.type "list",data:=.seq au.toArray n }:=by
 obtain⟨z,au,n,r,e⟩:=I.bB l _ hH
 exact⟨z,au,n,r,r.length,e⟩
end
section
variable {X:Cx}
noncomputable def IK:V->List V->Hp->VK->Prop:=λx a H Q=>∃l xs y,x = .ref l/\a = [y]/\H l=some (.lst xs)/\xs.length<aaP/\Q .ay (upd H l (.lst (xs ++ [y])))
theorem tT:F0 X "list.append" IK:=by
 intro pins s σ H x k v us Q I i c h
 obtain⟨l,xs,y,rfl,rfl,a,j,q⟩:=h
 cases i
 obtain⟨u,rfl,f⟩:=c.one
 obtain⟨z,b,n,r,o,e⟩:=I.zU a
 refine adb F.slot_list_append ⟨_,e,rfl⟩ F.entry_list_append (F.args_list_append_2 _ _) (PySem.list_append l b.toArray n u (by rw[aaA];omega)) ⟨e,?_⟩
 refine⟨.ay,_,I.zT (its':=b ++ [u]) a e (by simp) (r.append (.cons f .nil)) ?_,rfl,q⟩
 rw[acd,List.length_singleton]
 omega
noncomputable def Ur:V->List V->Hp->VK->Prop:=λx a H Q=>∃l xs y,x = .ref l/\a = []/\H l=some (.lst xs)/\xs[xs.length-1]? = some y/\Q y (upd H l (.lst xs.dropLast))
theorem LG:F0 X "list.pop" Ur:=by
 intro pins s σ H x vs v us Q I o j h
 obtain⟨l,xs,y,rfl,rfl,b,c,q⟩:=h
 cases o
 have i:=j.zero
 subst i
 obtain⟨z,a,n,r,p,e⟩:=I.zU b
 obtain⟨u,hu,k⟩:=r.get c
 have f:a.toArray[a.toArray.size-1]? = some u:=by
   show a.toArray[a.length-1]? = some u
   rw[<- acy,<- p]
   exact hu
 refine adb F.slot_list_pop ⟨_,e,rfl⟩ F.entry_list_pop (F.args_list_pop_1 _) (MeetsSeq.list_pop_last l a.toArray n u f (by rw[aaA];omega)) ⟨e,?_⟩
 refine⟨y,_,I.zT (its':=a.dropLast) b e ?_ r.dropLast ?_,k,q⟩
 . show a.toArray.eraseIdxIfInBounds (a.toArray.size-1)=a.dropLast.toArray
   rw[aaA,aeJ,zS]
 . rw[List.length_dropLast]
   omega
noncomputable def LI:V->List V->Hp->VK->Prop:=λx a H Q=>∃l xs i k y,x = .ref l/\a = [.int i]/\H l=some (.lst xs) /\ -(2 ^ 63)<=i/\i<2 ^ 63/\afh i xs.length=some k/\xs[k]? = some y/\Q y (upd H l (.lst (xs.eraseIdx k)))
theorem D3:F0 X "list.pop" LI:=by
 intro pins s σ H x vs v us Q I rx j h
 obtain⟨l,xs,i,k,y,rfl,rfl,b,h1,c,o,f,q⟩:=h
 cases rx
 obtain⟨u,rfl,p⟩:=j.one
 obtain⟨t,rfl⟩:=p
 obtain⟨z,a,n,r,hl,e⟩:=I.zU b
 obtain⟨w,hw,vm⟩:=r.get f
 refine adb F.slot_list_pop ⟨_,e,rfl⟩ F.entry_list_pop (F.args_list_pop_2 _ _)
   (MeetsSeq.list_pop_at l a.toArray n i t k w (fitsIndex_both h1 c) (by rw[aaA,<- hl];exact o) (by rw[<- acy];exact hw) (by rw[aaA];omega)) ⟨e,?_⟩
 refine⟨y,_,I.zT (its':=a.eraseIdx k) b e ?_ (r.eraseIdx k) ?_,vm,q⟩
 . show a.toArray.eraseIdxIfInBounds k=(a.eraseIdx k).toArray
   rw[aeJ]
 . have:=tS xs k
   omega
theorem len_rep {α:Type}(xs:List α)(k:Nat):(aaW k xs).flatten.length=k*xs.length:=by
 induction k with
 |zero=>simp
 |succ k ih=>rw[acp,ac8,acd,ih,Nat.succ_mul,ag8]
end
end L2
namespace Bx
open PySem PySem.W PySem.Calls PyProof.Rows
theorem qt {P:Params}{h:Heap}:∀(ns:List Int) (vs:List Value),WellAll P h vs (ns.map WData.int)->acK vs ns:=by
 intro ns
 induction ns with
 |nil =>
  intro vs w
  rw[List.map_nil]at w
  cases w
  exact .nil
 |cons n ns ih =>
  intro vs w
  rw[aaX]at w
  cases w with
  |cons a b =>
   cases a
   exact .cons _ _ (ih _ b)
theorem By {l:adX}{n:Nat}(hn:l.most=some n){P:Params}{h:Heap}{args:List WData}{vals:List Value}
  (zV:l.row.toRowW.claim.pre args=true) (LJ:WellAll P h vals args):
  ∃a vs ns,vals = [adE a]/\args = [WData.list (ns.map WData.int)]/\h.get? a=some { cls:=.type "list",data:=.seq vs.toArray }/\acK vs ns/\ns.length<=n:=by
 have k:WShape.hasAll [] args [.list .int]=true:=(pre_splitW zV).1
 have e:l.pre.holds [] { args:=args }=true:=(pre_splitW zV).2
 obtain⟨d,r,rfl,o,i⟩:=hasAllW_cons k
 obtain rfl:=hasAllW_nil i
 obtain⟨xs,rfl,f⟩:=hasW_list o
 obtain⟨ns,rfl⟩:=items_int f
 have hlen:ns.length<=n:=by
  unfold OpenLaw.pre at e
  have b:(WTm.not (.lt (.lit (.int (n:Int))) (.len (.arg 0)))).holds [] { args:=[.list (ns.map .int)] }=true:=by
   have b:=(holds_andW e).1
   rw[hn]at b
   exact b
  have c:=condW_of b (w_not (w_lt w_lit (w_len_list (w_arg rfl))))
  rw[aaM]at c
  refine Nat.le_of_not_lt λq=>?_
  have j:(n:Int)<((ns.length:Nat):Int):=by omega
  first
   | (rw[decide_eq_true j]at c;exact absurd c (by decide))
   | (simp at c;omega)
 cases LJ with
 |cons w1 w2 =>
  cases w2
  cases w1 with
  |list ho dP=>exact⟨_,_,ns,rfl,rfl,ho,qt ns _ dP,hlen⟩
theorem Bz (l:adX)(args:List WData):l.row.toRowW.claim.post args (.bool true) args=true :=
 postW_of (r:=l.row.toRowW) (X:=(true == true))
  (show WShape.has [] (.bool true) .bool=true by first|rfl|decide|simp[WShape.has,WShape.arms,WShape.armsAll])
  (show(WTm.eq .res (.lit (.bool true))).value [] { args:=args,res:=some (.bool true),after:=args }=some (.bool (true == true)) from w_eq_bool (w_res rfl) w_lit) rfl
theorem xW {l:adX}{n:Nat}{q:aaY}{loose:List Str}{XP:(Str->Option Value)->Heap->Prop}{YP:World->Heap->Prop}{d:DefRec}
  (hn:l.most=some n) (vC:d.params.defaults = [])
  (call:∀(w:World) (s₀ s₁:aat) (mg mb:Str->Option Value) (fa:Addr) (o:Obj) (pm cd doc:Value) (a:Addr) (vs:List Value) (ns:List Int),
   Ground q loose [] XP w s₀ mg mb s₁.heap->YP w s₁.heap ->
   s₁.heap.get? fa=some o->o.data = .func (docDef d.name d.params d.body d.scope pm cd doc)->s₁.heap.CodeRec cd d.name->mg d.name=some (.ref fa) ->
   s₁.heap.get? a=some { cls:=.type "list",data:=.seq vs.toArray }->acK vs ns->ns.length<=n->s₁.gens = #[] ->
   aek (model l.prog w) ae1 (.call (.ref fa) ⟨[.ref a],[]⟩) (λr s'=>r = .ok (.ret (.bool true))/\OldK s₁.heap s'.heap/\s'.os=s₁.os/\aeE s'.gens) s₁):
  WalkO q loose XP YP l.row.toRowW d [] (λf vs=>agu f vs):=by
 intro w s₀ s₁ mg mb G Y fa o pm cd doc s kV j hd p hD x b args vals as h z v k ym
 obtain rfl:s = .none:=Dflts.none hD vC
 obtain rfl:kV = .none:=Dflts.noKw hD
 obtain⟨a,vs,ns,rfl,rfl,y,hints,hlen⟩:=By hn h k
 refine enter_call (aeM (call w s₀ s₁ mg mb fa o pm cd doc a vs ns G Y j (fd_plain hd) p x y hints hlen b) λr s' c=>?_)
 obtain⟨rfl,e,u,i⟩:=c
 exact⟨.inl ⟨.bool true,.bool true,[],rfl,λ_=>rfl,.bool true,Bz l _,λ_=>⟨ahv,λ_ hm=>(nomatch hm)⟩⟩,e,u,i⟩
end Bx
namespace L2
open PySem PySem.Spec PyProof.Rows
theorem gJ:∀{vs:List Value} {ns:List Int},acK vs ns->Vals (ns.map V.int) vs
 |_,_,.nil=>.nil
 |_,_,.cons n t h=>.cons ⟨t,rfl⟩ (gJ h)
def D5 (H:Hp):Prop:=∀b,H b=none \/ ∃o xs,H b=some (.mK o (.lst xs))
theorem D6 {P:aaY}{w:World}{K:aaI}{mg mb:Str->Option Value}{CX:mR}{k:Nat}{fa a:Addr}{fd:abR}{x:Str}{sp:Sp}{s₁:aat}{vs:List Value}{ns:List Int}
  (KX:K.In s₁.heap) (F1:s₁.heap.Ns abr mg) (hb:s₁.heap.Ns afy mb) (RK:∀x:Str,x ≠ "__name__"->mb x=acq x) (Us:s₁.heap.NoLimit) (hg:s₁.gens = #[])
  (ha:s₁.heap.get? a=some { cls:=.type "list",data:=.seq vs.toArray }) (hi:acK vs ns) (hl:ns.length<=aaP) (hr:aC k ae1)
  (F:∀base:Heap,K.In base->base.Ns abr mg->dE P w K mg base CX k fa fd [x] sp) (QB:∀(s:aat) (u:Value),ahq s fd ⟨[u],[]⟩ [(x,u)])
  (tQ:∀H:Hp,D5 H->da K H a (ns.map V.int)->sp [.ref a] H (λv _=>v = .bl true) λ_ _ _=>False)
  (LM:∀H e s',CX [] H s₁ (λ_ _ _=>False) e s'->False):
  aek (model P w) ae1 (.call (.ref fa) ⟨[.ref a],[]⟩) (λr s'=>r = .ok (.ret (.bool true))/\OldK s₁.heap s'.heap/\s'.os=s₁.os/\aeE s'.gens) s₁:=by
 have y:=gJ hi
 have Ut:=hi.length
 have core:∀H:Hp,D5 H->da K H a (ns.map V.int)->fE P w H s₁.heap->(∀b,H b≠none->b=a)->(H a≠none->K.lookup a=none) ->
    aek (model P w) ae1 (.call (.ref fa) ⟨[.ref a],[]⟩) (λr s'=>r = .ok (.ret (.bool true))/\OldK s₁.heap s'.heap/\s'.os=s₁.os/\aeE s'.gens) s₁:=by
  intro H p hS bB hA hK
  have c:∀{b:Addr} {o:Obj},s₁.heap.get? b=some o->H b=none->(lx s₁.heap H).get? b=some o:=λe n=>DD e n
  have Bs:∀{b:Addr} {o:Obj} {f:Array aa_} {ep:Nat},s₁.heap.get? b=some o->o.data = .dict f ep->H b=none:=fun {b o f ep} e d=>by
    cases q:H b with
    |none=>rfl
    |some u =>
      have l:b=a:=hA b (by rw[q];simp)
      subst l
      rw[ha]at e;cases e
      have d':Data.seq vs.toArray _=ag9 f ep:=d
      cases d'
  have j:∀{b:Addr} {m:Str->Option Value},s₁.heap.Ns b m->(lx s₁.heap H).Ns b m:=fun {b m} ⟨o,f,ep,e,d,r⟩=>⟨o,f,ep,c e (Bs e d),d,r⟩
  have RL:K.In (lx s₁.heap H):=λb o e=>c (KX b o e) (by
    cases q:H b with
    |none=>rfl
    |some u =>
      have l:b=a:=hA b (by rw[q];simp)
      subst l
      rw[hK (by rw[q];simp)]at e;cases e)
  have hM:Mod K mg (lx s₁.heap H):=⟨RL,j F1,⟨mb,j hb,RK⟩,let⟨mc,h1,h2⟩:=Us;⟨mc,j h1,h2⟩⟩
  have e0:zM P w K mg (lx s₁.heap H) ae1 [] s₁ H:=⟨rfl,hM,λb o e=>Ij e,Nat.le_of_eq (A_ _ _),trivial,λb hb=>absurd (show b∈([]:List Addr) from hb) (by simp),bB,.of_eq hg⟩
  refine aeM ((F _ RL (j F1)).run ae1 [] s₁ H ⟨[.ref a],[]⟩ [.ref a] [.ref a] _ _ hr e0 (QB s₁ (.ref a)) (.cons rfl .nil) (tQ H p hS)) λr s' h=>?_
  cases r with
  |error e=>exact(LM H e s' h).elim
  |ok fl =>
    cases fl with
    |next=>exact ada h
    |brk=>exact ada h
    |cont=>exact ada h
    |ret u =>
      obtain⟨v,H',os,bare,un,Uu,r',q⟩:=h
      have q':v = .bl true:=q
      subst q'
      obtain rfl:u=acS true:=r'
      refine⟨rfl,OldK.of_keep λb o e=>?_,os,bare⟩
      cases q:H b with
      |none=>exact un.keep b o e q (by intro z;exact absurd (show b∈([]:List Addr) from z) (by simp)) (by simp)
      |some u =>
       rcases p b with z|⟨ob,xs,z⟩
       . rw[q]at z;cases z
       . have z2:=un.lu b ob _ z
         obtain⟨e1,_⟩:=bB b _ z
         obtain⟨e2,_⟩:=Uu b _ z2
         rw[e]at e1;cases e1
         exact e2
 cases hk:K.lookup a with
 |some o =>
  have e:=KX a o hk
  rw[ha]at e
  cases e
  refine core (λ_=>none) (λ_=>.inl rfl) (.inr ⟨_,vs.toArray,_,hk,rfl,rfl,rfl,by rw[aaA,Ut];exact hl,by simpa using y⟩) (λb u z=>by have i:(none:Option HO)=some u:=z;cases i) (λb z=>absurd rfl z) λz=>absurd rfl z
 |none =>
  refine core (λb=>if b=a then some (.mK { cls:=.type "list",data:=.seq vs.toArray } (.lst (ns.map V.int)))else none) (λb=>?_) (.inl (.inr ⟨{ cls:=.type "list",data:=.seq vs.toArray },if_pos rfl⟩)) (λb u z=>?_) (λb z=>?_) λ_=>hk
  . by_cases hb:b=a
    . exact .inr ⟨_,_,if_pos hb⟩
    . exact .inl (if_neg hb)
  . by_cases hb:b=a
    . have i:=(if_pos hb).symm.trans z
      cases i
      subst hb
      exact⟨ha,by rw[aaM];exact hl,vs,_,y,ha⟩
    . have i:=(if_neg hb).symm.trans z
      cases i
  . by_cases hb:b=a
    . exact hb
    . exact absurd (if_neg hb) z
theorem IL {l:adX}{n k:Nat}{q:aaY}{loose:List Str}{XP:(Str->Option Value)->Heap->Prop}{YP:World->Heap->Prop}{d:DefRec}{K:Params->aaI}{CX:World->mR}{sp:World->Sp}{x:Str}
  (hn:l.most=some n) (LN:n<=aaP) (vC:d.params.defaults = []) (hr:aC k ae1)
  (hY:∀(w:World) (h:Heap),YP w h->(K w.params).In h)
  (F:∀(w:World) (mg:Str->Option Value) (fa:Addr) (h:Heap),(K w.params).In h->h.Ns abr mg->mg d.name=some (.ref fa) ->
   ∃fd:abR,(∀(s:aat) (u:Value),ahq s fd ⟨[u],[]⟩ [(x,u)]) /\
    ∀base:Heap,(K w.params).In base->base.Ns abr mg->dE l.prog w (K w.params) mg base (CX w) k fa fd [x] (sp w))
  (tQ:∀(w:World) (H:Hp) (a:Addr) (ns:List Int),ns.length<=n->D5 H->da (K w.params) H a (ns.map V.int)->sp w [.ref a] H (λv _=>v = .bl true) λ_ _ _=>False)
  (LM:∀(w:World) (H:Hp) (s:aat) (e:Value) (s':aat),CX w [] H s (λ_ _ _=>False) e s'->False):
  agH q loose XP YP l.row.toRowW d [] (λf vs=>agu f vs):=by
 refine Bx.xW hn vC λw s₀ r mg mb fa o pm cd doc a vs ns G Y ho hd j3 LK D4 hints hlen i=>?_
 have c:=hY w _ Y
 obtain⟨fd,z,y⟩:=F w mg fa _ c G.T.g LK
 exact D6 c G.T.g G.T.b G.T.builtins G.T.nolimit i D4 hints (abt hlen LN) hr y z (λH p j=>tQ w H a ns hlen p j) λH e s'=>LM w H r e s'
noncomputable def jt (s:Stmt):Arguments:=match s with
 |.FunctionDef _ a _ _ _ _ _ _ _ _=>a
 |_=>{ posonlyargs:=[],args:=[],vararg:=none,kwonlyargs:=[],kw_defaults:=[],kwarg:=none,defaults:=[] }
noncomputable def eV (s:Stmt):List Stmt:=match s with
 |.FunctionDef _ _ b _ _ _ _ _ _ _=>b
 |_=>[]
noncomputable def bC (s:Stmt):Scope:=match s with
 |.FunctionDef _ _ _ _ _ _ sc _ _ _=>sc
 |_=>{ kind:=.function,names:=[],isGenerator:=false,isCoroutine:=false }
abbrev i4:mR:=λ_ _ _ _ _ _=>False
abbrev E0:XK:=λ_ _ _=>False
theorem F3 {X:Cx}:Passes i4 X E0:=λ_ _ _ _ _ _ _ h=>h.elim
structure yn (K:aaI)(x qual:Str)(st:Stmt)(f:Addr)(fd:abR):Prop where
 ex:∃(oc:Value) (od:Option Addr) (kV doc pm:Value) (an:Option Addr) (dZ ct:Value) (vt:Array (Option Value)),
  fd=adn x qual (jt st) (eV st) (bC st) .none kV doc pm an dZ ct/\K.lookup f=some ⟨oc,od,.func fd,vt⟩/\ae0 K dZ qual=true
 kp:acx K (.ref f)=true
section
variable {P:aaY}{w:World}{K:aaI}{mg:Str->Option Value}{base:Heap}
theorem yn.ok {x qual:Str}{st:Stmt}{f:Addr}{fd:abR}{N ps:List Str}{k:Nat}{sp:Sp}(F:yn K x qual st f fd)(S:js N ps (bC st))(len:∀vs H Q E,sp vs H Q E->vs.length=ps.length)
  (zO:∀(dZ:Value) (A:aaV) (outer:List Env) (s:aat) (H:Hp) (vs:List V) (Q:VK) (E:XK),aC k (A.deeper (aeN qual (bC st) s.heap.objs.size f dZ))->sp vs H Q E ->
   ∃t,gR (mS i4 P w K mg base N qual (bC st) f dZ A outer s H E).ye (eV st) t/\t { nx:=λ_ H'=>Q .ay H',rt:=Q } (start N vs) H):dE P w K mg base i4 (k+1) f fd ps sp:=by
 obtain⟨l,j,kV,doc,pm,an,dZ,n,i,rfl,a,c⟩:=F.ex
 refine Qw a c S len λA outer s H vs Q E b e=>?_
 obtain⟨t,h,q⟩:=zO dZ A outer s H vs Q E b e
 exact⟨t,h.ye,q⟩
theorem LO {x qual:Str}{st:Stmt}{f:Addr}{oc:Value}{od an:Option Addr}{vt:Array (Option Value)}{kV doc pm dZ ct:Value}(l:K.lookup f=some ⟨oc,od,.func (adn x qual (jt st) (eV st) (bC st) .none kV doc pm an dZ ct),vt⟩)
 (c:ae0 K dZ qual=true) (k:acx K (.ref f)=true):yn K x qual st f (adn x qual (jt st) (eV st) (bC st) .none kV doc pm an dZ ct):=⟨⟨oc,od,kV,doc,pm,an,dZ,ct,vt,rfl,l,c⟩,k⟩
end
end L2
namespace SW
open PySem PySem.Spec PyProof.Rows
theorem ju:Slot "set_iterator" "__next__" "set_iterator.__next__" :=
 .of (owner:="set_iterator") (n:="__next__") (by rw[aeP,adS];kernel_rfl) (by decide +kernel) (by decide +kernel) (by decide +kernel)
  (by first|exact .inl (by decide +kernel)|exact .inr (by decide +kernel)) (by rw[ae2];kernel_rfl)
theorem yo:entryFor table "set_iterator.__next__" = some ab1.«set_iterator.__next__»:=entryFor_of_tree (by kernel_rfl)
theorem yp (a:Value):argsOk "set_iterator.__next__" ⟨[a],[]⟩:=by unfold argsOk;kernel_rfl
theorem IM:entryFor table "set.__iter__" = some ab1.«frozenset.__iter__» :=
 entryFor_alias (id':="frozenset.__iter__") (by kernel_rfl) rfl (by decide +kernel) (by kernel_rfl)
noncomputable def pv (slot i:Nat)(a:Addr)(n ep:Nat):Obj:={ cls:=.type "set_iterator",data:=.fields #[acX slot,acX i,.ref a,acX n,acX ep] }
noncomputable def gm (es:Array (Int×Value))(ep:Nat)(t:acP):Obj:={ cls:=.type "set",data:=.set es ep t }
section
variable {prog:aaY}{w:World}{A:aaV}{E:Value->aat->Prop}{s:aat}{I a:Addr}{es:Array (Int×Value)}{ep:Nat}{t:acP}{slot i:Nat}
theorem vD {slot':Nat}{hh:Int}{Q:Option (Value×Nat)->aat->Prop}(ha:s.heap.get? a=some (gm es ep t))(hf:t.fits es.size=true)
  (hb:w.params.followText "set-order" = false) (hl:t.led=true) (hp:t.plain=true)
  (hQ:Q (match es[aaT t.place slot]?,t.place[aaT t.place slot]? with|some (_,x),some j=>some (x,j+1)|_,_=>none) s):wpAny (model prog w) A (aem a slot i ep) Q E s:=by
 unfold aem
 refine aas (adL ha rfl hf ?_)
 dsimp only
 unfold agv
 refine aas (aas (ads (aau ?_)))
 have c:(aiH ⟨(model prog w).prog,(model prog w).w.params⟩).followText "set-order" = false:=hb
 rw[c]
 simp only[aaF,if_false]
 have dr:¬(!t.plain&&decide (es.size>1))=true:=by simp[hp]
 show wpAny _ _ (if(!t.plain&&decide (es.size>1))=true then _ else _) _ _ s
 rw[if_neg dr]
 have b:¬(!t.led && !es.isEmpty)=true:=by simp[hl]
 show wpAny _ _ ((if(!t.led && !es.isEmpty)=true then unsupported "set:maker-not-led" else pure ()) >>= _) _ _ s
 rw[if_neg b]
 exact aas (aau (aau hQ))
theorem tU {Q:Option (Value×Nat)->aat->Prop}(ha:s.heap.get? a=some (gm es ep t))(hf:t.fits es.size=true)
  (hb:w.params.followText "set-order" = true)
  (hQ:Q (((aeg (w.params.setOrder a ep) es)[i]?).map λe=>(e.2,slot)) s):wpAny (model prog w) A (aem a slot i ep) Q E s:=by
 have b:(aiH ⟨(model prog w).prog,(model prog w).w.params⟩).followText "set-order" = true:=hb
 unfold aem
 refine aas (adL ha rfl hf ?_)
 dsimp only
 unfold agv
 refine aas (aas (ads (aau ?_)))
 rw[b]
 have c:(ep != ep)=false:=by simp
 simp only[if_true,c,aaF,if_false]
 refine aas ?_
 unfold setWalk agv
 refine aas (adL ha rfl hf ?_)
 dsimp only
 refine aas (aas (ads (aau ?_)))
 rw[b]
 simp only[if_true]
 refine aas (ads ?_)
 exact aau (aau hQ)
theorem BA {x:Value}{jA:Nat}{Q:Option Value->aat->Prop}(hI:s.heap.get? I=some (pv slot i a es.size ep))(ha:s.heap.get? a=some (gm es ep t))(hf:t.fits es.size=true)
   (hn:∀(A:aaV) (E:Value->aat->Prop) (Q:Option (Value×Nat)->aat->Prop),Q (some (x,jA)) s->wpAny (model prog w) A (aem a slot i ep) Q E s)
   (hQ:∀h',h'.get? I=some (pv jA (i+1) a es.size ep)->acW I s.heap h'->Q (some x) { s with heap:=h' }):wpAny (model prog w) A (adQ (.ref I)) Q E s:=by
 have c:s.TypeIs (.ref I) "set_iterator":=⟨_,hI,rfl⟩
 unfold adQ
 refine aas (afo (abf (name:=aa4 "__next__") c ju (aa7 ju c yo ?bd (yp _))))
 unfold ab1.«set_iterator.__next__»
 refine aas (aau ?_)
 refine aas (ae3 hI rfl ?_)
 show wpAny _ _ (setEntries a >>= _) _ _ s
 refine aas (aeX ha rfl hf ?_)
 have e:(((es.size:Nat):Int) != ((es.size:Nat):Int))=false:=by simp
 dsimp only
 rw[e]
 simp only[aaF,if_false]
 show wpAny _ _ (aem a (aeG (slot:Int)) (aeG (i:Int)) (aeG (ep:Int)) >>= _) _ _ s
 rw[abK,abK,abK]
 refine aas (hn _ _ _ ?_)
 dsimp only
 refine aas (adi hI rfl (by simp) ?_)
 have b:=abl (afp (·.setIfInBounds 0 (acX (jA:Int)))) hI (by rfl)
 refine aas (adi b (vs:=#[acX (jA:Int),acX i,.ref a,acX es.size,acX ep]) (by rfl) (by simp) ?_)
 refine aau ⟨x,rfl,aau (hQ _ ?_ ?_)⟩
 . exact(abl (afp (·.setIfInBounds 1 (acX ((i:Int)+1)))) b (by rfl)).trans rfl
 . exact(abn ..).trans (abn ..)
theorem BC {Q:Option Value->aat->Prop}(hh:A.handled=none)(hI:s.heap.get? I=some (pv slot i a es.size ep))(ha:s.heap.get? a=some (gm es ep t))(hf:t.fits es.size=true)
  (hn:∀(A:aaV) (E:Value->aat->Prop) (Q:Option (Value×Nat)->aat->Prop),Q none s->wpAny (model prog w) A (aem a slot i ep) Q E s)
  (hQ:∀h',af8 I s.heap h'->Q none { s with heap:=h' }):wpAny (model prog w) A (adQ (.ref I)) Q E s:=by
 have c:s.TypeIs (.ref I) "set_iterator":=⟨_,hI,rfl⟩
 unfold adQ
 refine aas (afo (abf (name:=aa4 "__next__") c ju (aa7 ju c yo ?bd (yp _))))
 unfold ab1.«set_iterator.__next__»
 refine aas (aau ?_)
 refine aas (ae3 hI rfl ?_)
 show wpAny _ _ (setEntries a >>= _) _ _ s
 refine aas (aeX ha rfl hf ?_)
 have e:(((es.size:Nat):Int) != ((es.size:Nat):Int))=false:=by simp
 dsimp only
 rw[e]
 simp only[aaF,if_false]
 show wpAny _ _ (aem a (aeG (slot:Int)) (aeG (i:Int)) (aeG (ep:Int)) >>= _) _ _ s
 rw[abK,abK,abK]
 refine aas (hn _ _ _ ?_)
 dsimp only
 refine aas (adi hI rfl (by simp) ?_)
 refine aas ?_
 simp only[newExc,newTuple]
 refine aas (aba ?_ (by size_fits))
 refine aas (m:=ae4 _ _) (ahP (a:=acE) (by first|rfl| (simp only[ae4];rfl)) ?_)
 refine aba ?_ (by size_fits)
 simp only[raiseNew]
 refine aas (agI ?_)
 rw[show A.in1.handled=none from hh]
 refine aas (aau (ahQ ?_))
 refine aas (aez (T:="StopIteration") (b:=true) ⟨_,aaG _ rfl,rfl⟩ isSubtype_stop ?_)
 exact aau (hQ _ (((abn ..).extBut.push _).push _))
end
theorem yq:Slot "set_iterator" "__iter__" "set_iterator.__iter__" :=
 .of (owner:="set_iterator") (n:="__iter__") (by rw[aeP,adS];kernel_rfl) (by decide +kernel) (by decide +kernel) (by decide +kernel)
  (by first|exact .inl (by decide +kernel)|exact .inr (by decide +kernel)) (by rw[ae2];kernel_rfl)
theorem IP:entryFor table "set_iterator.__iter__" = some ab1.«dict_keyiterator.__iter__» :=
 entryFor_alias (id':="dict_keyiterator.__iter__") (by kernel_rfl) rfl (by decide +kernel) (by kernel_rfl)
theorem IQ (a:Value):argsOk "set_iterator.__iter__" ⟨[a],[]⟩:=by unfold argsOk;kernel_rfl
section
variable {prog:aaY}{w:World}{A:aaV}{E:Value->aat->Prop}{s:aat}{I a:Addr}{es:Array (Int×Value)}{ep:Nat}{t:acP}{slot i:Nat}
theorem BD {Q:Value->aat->Prop}(hI:s.heap.get? I=some (pv slot i a es.size ep))(h:Q (.ref I) s):wpAny (model prog w) A (agf (.ref I)) Q E s:=by
 have b:s.TypeIs (.ref I) "set_iterator":=⟨_,hI,rfl⟩
 refine afv b yq (aa7 yq b IP ?_ (IQ _))
 show wpAny _ _ (ret (.ref I)) _ _ s
 exact aau ⟨_,rfl,"set_iterator",_,b,ju.lookup,h⟩
structure Way (prog:aaY)(w:World)(a:Addr)(es:Array (Int×Value))(ep:Nat)(t:acP)(ord:List Value)(ok:Nat->Nat->Prop):Prop where
 fit:t.fits es.size=true
 len:ord.length=es.size
 zero:ok 0 0
 step:∀i slot,i<es.size->ok i slot->∃x jA,ord[i]? = some x/\ok (i+1) jA /\ ∀(s:aat) (A:aaV) (E:Value->aat->Prop) (Q:Option (Value×Nat)->aat->Prop),s.heap.get? a=some (gm es ep t)->Q (some (x,jA)) s->wpAny (model prog w) A (aem a slot i ep) Q E s
 stop:∀slot,ok es.size slot->∀(s:aat) (A:aaV) (E:Value->aat->Prop) (Q:Option (Value×Nat)->aat->Prop),s.heap.get? a=some (gm es ep t)->Q none s->wpAny (model prog w) A (aem a slot es.size ep) Q E s
theorem walks {ord:List Value}{ok:Nat->Nat->Prop}(W:Way prog w a es ep t ord ok)(hh:A.handled=none)(fG:a≠I):
  Walks prog w A I [I,a] [I] es.size (λi v=>ord[i]? = some v) (λi h=>(∃slot,ok i slot/\h.get? I=some (pv slot i a es.size ep))/\h.get? a=some (gm es ep t)) where
 sub:=λb j=>by simp at j;simp[j]
 frame:=λ_ _ _ st n=>⟨let⟨f,q,e⟩:=st.1;⟨f,q,n I (by simp) _ e⟩,n a (by simp) _ st.2⟩
 item:=λi s Q E hi st k=>by
  obtain⟨⟨f,q,e⟩,c⟩:=st
  obtain⟨x,z,y,r,hn⟩:=W.step i f hi q
  refine BA e c W.fit (λA E Q h=>hn s A E Q c h) λl u p=>?_
  exact k _ l s.toks y ⟨⟨z,r,u⟩,p.extBut a _ fG c⟩ λb o j e=>p.extBut b o (λh=>j (by simp[h])) e
 done:=λs Q E st k=>by
  obtain⟨⟨f,q,e⟩,c⟩:=st
  exact BC hh e c W.fit (λA E Q h=>W.stop f q s A E Q c h) λl he=>k l s.toks λb o j e=>he b o (λh=>j (by simp[h])) e
 self:=λi s Q E st k=>by
  obtain⟨⟨f,q,e⟩,c⟩:=st
  exact BD e k
theorem yr {α:Type}:∀(l:List α) (i:Nat) (h:i<l.length),(l[i]::l.eraseIdx i).Perm l
 |x::l,0,h=>by simp
 |x::l,i+1,h=>by
  have:=yr l i (by simpa using h)
  simp only[List.getElem_cons_succ,aeo]
  exact(aiJ _ _ _).trans (this.cons x)
theorem yt {α:Type}(f:Nat->Nat):∀(n k:Nat) (l:List α) (out:Array α),n=l.length->(ag_ f n k l out).toList.Perm (out.toList++l)
 | 0,k,l,out,h=>by
  have:l = []:=aep.mp h.symm
  subst this
  simp[ag_]
 |n+1,k,l,out,h=>by
  have a:0<l.length:=by omega
  have hm:=aeQ (f k) a
  rw[ag_,aay hm]
  dsimp only
  refine(yt f n (k+1) _ _ (by rw[List.length_eraseIdx_of_lt hm];omega)).trans ?_
  rw[Array.toList_push,ab7,agh]
  exact List.Perm.append_left _ (yr l _ hm)
theorem tV {α:Type}(f:Nat->Nat)(xs:Array α):(aeg f xs).toList.Perm xs.toList:=by
 have:=yt f xs.size 0 xs.toList #[] (by simp)
 simpa[aeg]using this
theorem Uv (hf:t.fits es.size=true)(hb:w.params.followText "set-order" = true):Way prog w a es ep t ((aeg (w.params.setOrder a ep) es).toList.map (·.2)) (λ_ slot=>slot=0):=by
 have f:(aeg (w.params.setOrder a ep) es).toList.length=es.toList.length:=(tV _ es).length_eq
 have h:(aeg (w.params.setOrder a ep) es).size=es.size:=by simpa using f
 refine⟨hf,by simp[h],rfl,λi slot j h0=>?_,λslot h0 s A E Q b c=>?_⟩
 . subst h0
   have e:i<(aeg (w.params.setOrder a ep) es).size:=by omega
   refine⟨(aeg (w.params.setOrder a ep) es)[i].2,0,by simp[e],rfl,λs A E Q b c=>?_⟩
   refine tU b hf hb ?_
   rw[aa2 e]
   exact c
 . subst h0
   refine tU b hf hb ?_
   rw[aeu (by omega)]
   exact c
theorem Uw (hf:t.fits es.size=true)(hb:w.params.followText "set-order" = false)(hl:t.led=true)(hp:t.plain=true)(hs:t.place.size=es.size)(h0:aaT t.place 0=0)
   (hw:∀i j,t.place[i]? = some j->aaT t.place (j+1)=i+1):Way prog w a es ep t (es.toList.map (·.2)) (λi slot=>aaT t.place slot=i):=by
 refine⟨hf,by simp,h0,λi slot e h=>?_,λslot h s A E Q c b=>?_⟩
 . have f:i<t.place.size:=by omega
   refine⟨es[i].2,t.place[i]+1,by simp[e],hw i _ (aa2 f),λs A E Q c b=>?_⟩
   refine vD (slot':=0) (hh:=0) c hf hb hl hp ?_
   rw[h,aa2 e,aa2 f]
   exact b
 . refine vD (slot':=0) (hh:=0) c hf hb hl hp ?_
   rw[h,aeu (by omega)]
   exact b
end
theorem D7:typeLookup (.type "set") "__len__" = pure (some (.builtin "set.__len__")):=by rw[aeP,adS];kernel_rfl
section
variable {prog:aaY}{w:World}{A:aaV}{E:Value->aat->Prop}{s:aat}{I a:Addr}{es:Array (Int×Value)}{ep:Nat}{t:acP}{slot i:Nat}
theorem BE {Q:Bool->aat->Prop}(ha:s.heap.get? a=some (gm es ep t))(hf:t.fits es.size=true)(hd:w.params.followText "set-order" = true\/t.plain=true)(hQ:Q false s):wpAny (model prog w) A (setDrawn a) Q E s:=by
 unfold setDrawn
 refine aas (adL ha rfl hf ?_)
 dsimp only
 unfold agv
 refine aas (aas (ads (aau ?_)))
 have e:(!w.params.followText "set-order" && (!t.plain&&decide (es.size>1)))=false:=by
  rcases hd with h|h<;>simp[h]
 refine aau ?_
 show Q (!w.params.followText "set-order" && (!t.plain&&decide (es.size>1))) s
 rw[e]
 exact hQ
theorem D8 {Q:Value->aat->Prop}(ha:s.heap.get? a=some (gm es ep t))(hf:t.fits es.size=true)(hd:w.params.followText "set-order" = true\/t.plain=true)
  (hQ:Q (.ref s.heap.objs.size) { s with heap:=s.heap.push (pv 0 0 a es.size ep) }):wpAny (model prog w) A (agf (.ref a)) Q E s:=by
 have b:s.TypeIs (.ref a) "set":=⟨_,ha,rfl⟩
 refine afv b F.slot_set_iter (aa7 F.slot_set_iter b IM ?_ (F.args_set_iter_1 _))
 unfold ab1.«frozenset.__iter__» akb slotArgs
 simp only[List.isEmpty_nil,ad6,aaF,↓reduceIte,bind_assoc,List.length_nil,bne_self_eq_false]
 unfold ajI ajJ
 refine aas (aau ?_)
 try dsimp only
 refine aas (aau ?_)
 refine aas (aas (aeX ha rfl hf (aau ?_)))
 refine aas (BE ha hf hd ?_)
 simp only[aaF,if_false]
 refine aas (aau ?_)
 refine aas (wpAny_setEpoch_of ha rfl hf ?_)
 refine aas (m:=newFields _ _) (aba ?_)
 exact aau ⟨_,rfl,"set_iterator",_,⟨_,aaG _ rfl,rfl⟩,ju.lookup,hQ⟩
set_option maxHeartbeats 4000000 in
theorem xX {ord:List Value}{ok:Nat->Nat->Prop}{Q:List Value->aat->Prop}(W:Way prog w a es ep t ord ok)(hh:A.handled=none)(ha:s.heap.get? a=some (gm es ep t))(hd:w.params.followText "set-order" = true\/t.plain=true)(hn:es.size<=aaP)
   (hQ:∀(h':Heap) (tk:Nat),s.heap.objs.size<h'.objs.size->(∀b o,s.heap.get? b=some o->h'.get? b=some o)->Q ord { s with heap:=h',toks:=tk }):wpAny (model prog w) A (agi (.ref a)) Q E s:=by
 have z:a<s.heap.objs.size:=aaH ha
 have p:s.heap.objs.size≠a:=λe=>acf _ (e ▸ z)
 unfold agi
 refine aas (agj (acb F.entry_proto_collect ?_))
 rw[abP F.plain_proto_collect _]
 show wpAny _ A.in1 (newList [] >>= λl=>again (.builtin "list.__iadd__" ⟨[l,.ref a],[]⟩)) _ _ s
 refine aas (aba ?_)
 refine aau ⟨adC F.plain_list_iadd _,acb F.entry_list_iadd ?_⟩
 rw[abP F.plain_list_iadd _]
 show wpAny _ A.in1 (acZ (.ref s.heap.objs.size) (.ref a) (.ref s.heap.objs.size)) _ _ _
 unfold acZ
 have i:(s.heap.push { cls:=.type "list",data:=.seq ([]:List Value).toArray }).get? a=some (gm es ep t):=aaw _ ha
 refine aas (adq (T:="set") ⟨_,i,rfl⟩ ?_)
 have h1:afM (.ref s.heap.objs.size) (.ref a)=false:=by simp[afM,p]
 have h2:(abm "set" == abm "list")=false:=by decide
 have h3:(abm "set" == abm "tuple")=false:=by decide
 simp only[h1,h2,h3,adB,aaF,if_false]
 refine aas (D8 i W.fit hd ?_)
 refine aas (aa1 ?_)
 generalize n:s.heap.push { cls:=.type "list",data:=.seq ([]:List Value).toArray }=H at *
 have r:H.objs.size=s.heap.objs.size+1:=by rw[<- n,aci]
 have c:(H.push (pv 0 0 a es.size ep)).get? a=some (gm es ep t):=aaw _ i
 unfold Builtin.List.listLengthHint
 refine aas (af0 (T:="set") ⟨_,c,rfl⟩ D7 ?_)
 wp_delta
 refine aas (aez (T:="set") (v:=.ref a) (b:=true) ⟨_,c,rfl⟩ sub_set_self ?_)
 show wpAny _ A.in1 (typeOf (adE a) >>= _) _ _ _
 refine aas (adq (T:="set") (v:=.ref a) ⟨_,c,rfl⟩ ?_)
 refine aau ?_
 show wpAny _ A.in1 (rule "list.extend.makes-room" >>= λ_=>Builtin.List.listTouch (.ref s.heap.objs.size) >>= λ_ =>
   again (.builtin "list.extend.loop" ⟨[.ref s.heap.objs.size,.ref H.objs.size,.ref s.heap.objs.size],[]⟩)) _ _ _
 refine aas (ab8 ?_)
 have RM:(H.push (pv 0 0 a es.size ep)).get? s.heap.objs.size=some { cls:=.type "list",data:=.seq ([]:List Value).toArray }:=aaw _ (n ▸ aaG _ rfl)
 refine aas ?_
 show wpAny _ A.in1 (updateSeq s.heap.objs.size (·.push .none) >>= λ_=>updateSeq s.heap.objs.size (·.pop)) _ _ _
 refine aas (wpAny_updateSeq RM rfl ?_)
 have u:=abl (ab4 (·.push acE)) RM rfl
 refine wpAny_updateSeq u rfl ?_
 have XQ:=abl (ab4 (·.pop)) u rfl
 have q:∀b o,b≠s.heap.objs.size->(H.push (pv 0 0 a es.size ep)).get? b=some o ->
     (((H.push (pv 0 0 a es.size ep)).update s.heap.objs.size (ab4 (·.push acE))).update s.heap.objs.size (ab4 (·.pop))).get? b=some o :=
   λb o f e=>(ab6 _ _ (acg f)).trans ((ab6 _ _ (acg f)).trans e)
 have XR:a≠H.objs.size:=by rw[r];exact aaN (abe z)
 have x:H.objs.size≠s.heap.objs.size:=by rw[r];exact ah3 _
 have yw:s.heap.objs.size ∉ [H.objs.size,a]:=by
   simp only[aaD,afN,or_false,not_or]
   exact⟨acg x,p⟩
 refine aau ⟨adC F.plain_extend_loop _,codeAny_extend_loopS (walks W (I:=H.objs.size) (A:=A.in1) (by simp[hh]) XR).toS hn _ yw _ es.size 0 _ _ _ rfl (abd _)
   ⟨⟨0,W.zero,q _ _ x (aaG _ rfl)⟩,q _ _ (acg p) c⟩ XQ (ItemsOf.nil _) λs' k c' hm yx y=>?_⟩
 show wpAny _ A (load s.heap.objs.size >>= _) _ _ s'
 refine aas (wpAny_load yx ?_)
 have Ux:k.toList=ord:=by
   apply afw
   intro j
   by_cases hj:j<k.size
   . have:=y.2 j k[j] (aa2 hj)
     rw[this,acy,aa2 hj]
   . have e1:=y.1
     rw[abX (by simp;omega),abX (by rw[W.len];omega)]
 refine aau ?_
 rw[Ux]
 obtain⟨h',g',d',tX,Bp⟩:=s'
 have eg:g'=s.gens:=hm.gens
 have ed:d'=s.drawn:=hm.drawn
 have eo:Bp=s.os:=hm.os
 subst eg;subst ed;subst eo
 refine hQ h' tX (aaH yx) λb o e=>?_
 have RO:=aaH e
 have nb:b≠s.heap.objs.size:=aaN RO
 have XS:b≠H.objs.size:=by rw[r];exact aaN (abe RO)
 refine hm.heap b o (λf=>?_) (q b o nb (aaw _ (n ▸ aaw _ e)))
 rcases aaD.mp f with h|h
 . exact nb h
 . exact XS (afi.mp h)
end
noncomputable def tb (P:List Nat)(led:Bool):acP:={ mask:=7,place:=P.toArray,dummies:=#[],finger:=0,led:=led,moves:=0,plain:=true }
end SW
namespace SJ
open PySem
noncomputable def iter (m:Nat):Nat->Nat->Nat
 | 0,i=>i
 |n+1,i=>iter m n ((i*5+1) % (m+1))
noncomputable def hits (m:Nat):Bool:=(aaz (m+1)).all λi=>(aaz (m+1)).all λt=>(aaz (m+1)).any λn=>iter m n i == t
theorem QC:hits 7=true:=by decide +kernel
theorem IS (hm:m=7\/m=31)(hi:i<=m)(ht:t<=m):∃n,n<=m/\iter m n i=t:=by
 have h:hits m=true:=by rcases hm with rfl|rfl<;>first|exact QC|exact XT
 unfold hits at h
 simp only[aaQ,acQ,aaL,beq_iff_eq]at h
 obtain⟨n,a,e⟩:=h i (by omega) t (by omega)
 exact⟨n,by omega,e⟩
noncomputable def lp (m:Nat):Nat->Nat×Nat->Nat×Nat
 | 0,q=>q
 |n+1,q=>lp m n (acv m q.1 q.2)
theorem BF:∀(a b:Nat) (q:Nat×Nat),lp m (a+b) q=lp m b (lp m a q)
 | 0,b,q=>by rw[ac0];rfl
 |a+1,b,q=>by rw[Nat.succ_add];exact BF a b _
theorem yz:∀(n:Nat) (q:Nat×Nat),(lp m n q).2=q.2 / 32 ^ n
 | 0,q=>by simp[lp]
 |n+1,q=>by
  rw[lp,yz n]
  show q.2 / 32 / 32 ^ n=_
  rw[Nat.div_div_eq_div_mul,Nat.pow_succ,aha 32]
theorem yA:∀(n i:Nat),(lp m n (i,0)).1=iter m n i
 | 0,i=>rfl
 |n+1,i=>by
  rw[lp,iter]
  show(lp m n ((i*5+1+0 / 32) % (m+1),0 / 32)).1=_
  rw[Nat.zero_div,afO]
  exact yA n _
theorem F5:∀(n:Nat) (q:Nat×Nat),q.1<=m->(lp m n q).1<=m
 | 0,q,h=>h
 |n+1,q,h=>F5 n _ (by
  exact adM (aeQ (q.1*5+1+q.2 / 32) (aeh m)))
theorem IT (h:Int):aa5 h<2 ^ 64:=by
 unfold aa5
 have a:=ad9 h (b:=2 ^ 64) (by decide)
 have c:=adG h (b:=2 ^ 64) (by decide)
 omega
theorem reach (hm:m=7\/m=31)(h:Int)(hi:i<=m)(ht:t<=m):∃n,n<=13+m/\(lp m n (i,aa5 h)).1=t:=by
 have e:(lp m 13 (i,aa5 h)).2=0:=by
  rw[yz]
  have:=IT h
  exact Nat.div_eq_of_lt (aa0 this (by decide))
 obtain⟨n,a,en⟩:=IS hm (F5 (m:=m) 13 (i,aa5 h) hi) ht
 refine⟨13+n,by omega,?_⟩
 rw[BF]
 have:lp m 13 (i,aa5 h)=((lp m 13 (i,aa5 h)).1,0):=by rw[<- e]
 rw[this,yA]
 exact en
def qu (xs:Array Nat):Prop:=xs.toList.Pairwise (· < ·)
theorem qv {xs:Array Nat}(h:qu xs){i j:Nat}(hj:j<xs.size)(vk:i<j):xs[i]'(by omega)<xs[j]:=by
 have:=(ad_.mp h) i j (by simpa using aeR vk hj) (by simpa using hj) vk
 simpa using this
theorem pR {xs:Array Nat}(h:qu xs){j:Nat}:∀(fuel lo hi:Nat),lo<=hi->hi<=xs.size->hi-lo<=fuel->(∀i (hz:i<xs.size),i<lo->xs[i]< j)->(∀i (hz:i<xs.size),hi<=i->j<=xs[i]) ->
  lo<=adN xs j fuel lo hi/\adN xs j fuel lo hi<=hi/\(∀i (hz:i<xs.size),i<adN xs j fuel lo hi->xs[i]< j)/\(∀i (hz:i<xs.size),adN xs j fuel lo hi<=i->j<=xs[i])
 | 0,lo,hi,h1,h2,h3,h4,h5=>by
  have:lo=hi:=by omega
  subst this
  exact⟨aaC _,aaC _,h4,h5⟩
 |fuel+1,lo,hi,h1,h2,h3,h4,h5=>by
  unfold adN
  by_cases hl:lo<hi
  . rw[if_pos hl]
    dsimp only
    have hm:(lo+hi) / 2<xs.size:=by omega
    have l:xs.getD ((lo+hi) / 2) j=xs[(lo+hi) / 2]:=by simp[hm]
    rw[l]
    split
    . rename_i f
      obtain⟨a,b,c,d⟩:=pR h fuel ((lo+hi) / 2+1) hi (by omega) h2 (by omega) (λi k n=>by
       by_cases e:i=(lo+hi) / 2
       . subst e;exact f
       . exact aeR (qv h hm (by omega)) f) h5
      exact⟨by omega,b,c,d⟩
    . rename_i f
      obtain⟨a,b,c,d⟩:=pR h fuel lo ((lo+hi) / 2) (by omega) (by omega) (by omega) h4 (λi k hle=>by
       by_cases e:i=(lo+hi) / 2
       . subst e;omega
       . have:=qv h k (show(lo+hi) / 2<i by omega)
         omega)
      exact⟨a,by omega,c,d⟩
  . rw[if_neg hl]
    have:lo=hi:=by omega
    subst this
    exact⟨aaC _,aaC _,h4,h5⟩
theorem lB {xs:Array Nat}(h:qu xs)(j:Nat):aaT xs j<=xs.size/\(∀i (hi:i<xs.size),i<aaT xs j->xs[i]< j)/\(∀i (yu:i<xs.size),aaT xs j<=i->j<=xs[i]):=by
 obtain⟨_,a,b,c⟩:=pR h (j:=j) xs.size 0 xs.size (abd _) (aaC _) (by omega) (λi hi e=>by omega) (λi hi hle=>by omega)
 exact⟨a,b,c⟩
theorem BG {xs:Array Nat}(h:qu xs)(j:Nat):(xs[aaT xs j]? == some j)=true ↔ j∈xs:=by
 obtain⟨a,b,c⟩:=lB h j
 rw[beq_iff_eq]
 constructor
 . intro e
   exact adT e
 . intro hm
   obtain⟨i,f,e⟩:=Array.mem_iff_getElem.mp hm
   have p:¬i<aaT xs j:=λk=>by have:=b i f k;omega
   have o:¬aaT xs j<i:=λk=>by
    have n:aaT xs j<xs.size:=by omega
    have:=c _ n (aaC _)
    have:=qv h f k
    omega
   have l:aaT xs j=i:=by omega
   rw[l,aa2 f,e]
structure fq (t:acP)(n:Nat):Prop where
 dm:t.dummies = #[]
 pl:t.plain=true
 sz:t.place.size=n
 ri:qu t.place
 le:∀j∈t.place,j<=t.mask
 mx:(t.mask=7/\n<=4)\/(t.mask=31/\n<=18)
theorem fq.m (h:fq t n):t.mask=7\/t.mask=31:=by
 rcases h.mx with h|h
 . exact .inl h.1
 . exact .inr h.1
theorem fq.fits (h:fq t n):t.fits n=true:=by
 have hd:t.dummies.size=0:=by rw[h.dm];rfl
 have a:=h.sz
 have hm:=h.mx
 unfold aja agJ
 simp only[aav,beq_iff_eq,decide_eq_true_eq]
 exact⟨a,by omega⟩
theorem fq.slot (h:fq t n)(j:Nat):(j ∉ t.place->t.slot j = .empty)/\(j∈t.place->∃i,t.slot j = .live i):=by
 have a:=BG h.ri j
 unfold SetTable.slot
 dsimp only
 constructor
 . intro c
   have:(t.place[aaT t.place j]? == some j)=false:=by
    cases e:(t.place[aaT t.place j]? == some j)with
    |false=>rfl
    |true=>exact absurd (a.mp e) c
   rw[this,h.dm]
   have b:afP #[] j=false:=by simp[afP]
   rw[b]
   rfl
 . intro hm
   rw[a.mpr hm]
   exact⟨_,rfl⟩
theorem zW:∀{V W:List Nat},V.Nodup->(∀v∈V,v∈W)->V.length<=W.length
 | [],_,_,_=>abd _
 |v::V,W,hn,h=>by
  rw[ab_]at hn
  have:=zW (W:=W.erase v) hn.2 λu hu=>(List.mem_erase_of_ne (by rintro rfl;exact hn.1 hu)).mpr (h u (by simp[hu]))
  have a:=h v (by simp)
  have b:=aev a
  rw[List.length_erase_of_mem a]at this
  simp only[adt]
  omega
theorem fq.room (h:fq t n):∃j,j<=t.mask/\j ∉ t.place:=by
 refine acC λno=>?_
 have all:∀j,j∈aaz (t.mask+1)->j∈t.place.toList:=λj b=>by
  refine acC λa=>no ⟨j,by have:=aaL.mp b;omega,λhm=>a (by simpa using hm)⟩
 have:(aaz (t.mask+1)).length<=t.place.toList.length:=zW adY all
 have c:=h.sz
 have hm:=h.mx
 simp at this
 omega
noncomputable def mX (t:acP):Nat->adU->adU
 | 0,p=>p
 |n+1,p=>mX t n (t.advance p)
theorem yB (t:acP):∀(a b:Nat) (p:adU),mX t (a+b) p=mX t b (mX t a p)
 | 0,b,p=>by rw[ac0];rfl
 |a+1,b,p=>by rw[Nat.succ_add];exact yB t a b _
noncomputable def rs (m:Nat)(q:Nat×Nat):adU:={ j:=q.1,more:=abY m q.1-q.1,i:=q.1,perturb:=q.2,dummy:=none }
theorem yC (t:acP)(q:Nat×Nat):∀(k j:Nat),mX t (k+1) { j:=j,more:=k,i:=q.1,perturb:=q.2,dummy:=none }=rs t.mask (acv t.mask q.1 q.2)
 | 0,j=>rfl
 |k+1,j=>by
  rw[mX]
  have:t.advance { j:=j,more:=k+1,i:=q.1,perturb:=q.2,dummy:=none }={ j:=j+1,more:=k,i:=q.1,perturb:=q.2,dummy:=none }:=by
   unfold ah4
   rw[if_pos (aeh k)]
   rfl
  rw[this]
  exact yC t q k (j+1)
theorem iI (m i:Nat):i<=abY m i/\abY m i-i<=9/\(i<=m->abY m i<=m):=by
 unfold abY
 split<;>omega
theorem F6 (t:acP):∀(L:Nat) (q:Nat×Nat),∃n,n<=10*L/\mX t n (rs t.mask q)=rs t.mask (lp t.mask L q)
 | 0,q=>⟨0,abd _,rfl⟩
 |L+1,q=>by
  obtain⟨n,b,e⟩:=F6 t L (acv t.mask q.1 q.2)
  have c:=(iI t.mask q.1).2.1
  refine⟨(abY t.mask q.1-q.1+1)+n,by omega,?_⟩
  rw[yB]
  have:=yC t q (abY t.mask q.1-q.1) q.1
  have a:mX t (abY t.mask q.1-q.1+1) (rs t.mask q)=rs t.mask (acv t.mask q.1 q.2):=this
  rw[a,e]
  rfl
structure PI (t:acP)(p:adU):Prop where
 j:p.j+p.more<=t.mask
 d:p.dummy=none
theorem PI.mX (h:PI t p):PI t (t.advance p):=by
 unfold ah4
 have f:=h.j
 split
 . exact⟨by show p.j+1+(p.more-1)<=t.mask;omega,h.d⟩
 . dsimp only
   have e:(acv t.mask p.i p.perturb).1<=t.mask:=adM (aeQ (p.i*5+1+p.perturb / 32) (aeh t.mask))
   obtain⟨a,b,c⟩:=iI t.mask (acv t.mask p.i p.perturb).1
   refine⟨?_,h.d⟩
   show(acv t.mask p.i p.perturb).1+(abY t.mask (acv t.mask p.i p.perturb).1-(acv t.mask p.i p.perturb).1)<=t.mask
   have:=c e
   omega
theorem BH (T:fq t n)(h:Int):∀(k fuel:Nat) (p:adU),k<fuel->PI t p->(mX t k p).j ∉ t.place->∃j,ahw t (λ_=>h+1) h fuel p=some (.empty j none)/\j ∉ t.place/\j<=t.mask
 |k,0,p,hk,_,_=>by omega
 |k,fuel+1,p,hk,hp,hj=>by
  unfold ahw
  by_cases hm:p.j∈t.place
  . obtain⟨i,e⟩:=(T.slot p.j).2 hm
    rw[e]
    dsimp only
    have:(h+1 == h)=false:=by
     rw[beq_eq_false_iff_ne]
     omega
    rw[this]
    cases k with
    |zero=>exact absurd hm hj
    |succ k=>exact BH T h k fuel _ (by omega) hp.mX hj
  . rw[(T.slot p.j).1 hm]
    dsimp only
    rw[hp.d]
    exact⟨p.j,rfl,hm,by have:=hp.j;omega⟩
theorem IU (T:fq t n)(h:Int):∃j,t.freeSlot h=some (j,false)/\j ∉ t.place/\j<=t.mask:=by
 obtain⟨r,u,p⟩:=T.room
 have f:aa5 h % (t.mask+1)<=t.mask:=adM (aeQ _ (aeh _))
 obtain⟨L,x,q⟩:=reach T.m h f u
 obtain⟨k,v,o⟩:=F6 t L (aa5 h % (t.mask+1),aa5 h)
 obtain⟨a,b,c⟩:=iI t.mask (aa5 h % (t.mask+1))
 obtain⟨j,e,s,l⟩:=BH T h k (10*adV t.mask) (t.probeStart h) (by unfold adV;omega) ⟨by
  show aa5 h % (t.mask+1)+(abY t.mask (aa5 h % (t.mask+1))-aa5 h % (t.mask+1))<=t.mask
  have:=c f
  omega,rfl⟩ (by
  have i:t.probeStart h=rs t.mask (aa5 h % (t.mask+1),aa5 h):=rfl
  rw[i,o]
  show(lp t.mask L _).1 ∉ _
  rw[q]
  exact p)
 refine⟨j,?_,s,l⟩
 unfold SetTable.freeSlot SetTable.probe
 rw[e]
 rfl
theorem vF {α:Type}(xs:Array α)(p:Nat)(x:α):(acj xs p x).toList=xs.toList.take p++x::xs.toList.drop p:=by
 unfold acj
 simp
 exact abS (by simp)
theorem lC {α:Type}(xs:Array α)(p:Nat)(x:α):(acj xs p x).toList.Perm (x::xs.toList):=by
 rw[vF]
 refine afQ.trans ?_
 rw[agk]
theorem IV {xs:Array Nat}(h:qu xs){j:Nat}(hj:j ∉ xs):qu (acj xs (aaT xs j) j):=by
 obtain⟨a,b,c⟩:=lB h j
 unfold qu
 rw[vF,agw]
 have lo:∀x∈xs.toList.take (aaT xs j),x<j:=λx k=>by
   obtain⟨i,f,e⟩:=abG.mp k
   rw[ab3]at f
   rw[ahx]at e
   have:=b i (by simp at f;omega) (by omega)
   rw[<- e]
   simpa using this
 have f:∀x∈xs.toList.drop (aaT xs j),j<x:=λx k=>by
   obtain⟨i,f,e⟩:=abG.mp k
   rw[adp]at f
   rw[List.getElem_drop]at e
   have n:aaT xs j+i<xs.size:=by simp at f;omega
   have p:=c _ n (by omega)
   have o:xs[aaT xs j+i]=x:=by simpa using e
   have:x≠j:=λz=>hj (by rw[<- z,<- o];exact ahy n)
   omega
 refine⟨h.sublist (afu _ _),ahb.mpr ⟨f,h.sublist (List.drop_sublist _ _)⟩,λx k y l=>?_⟩
 rcases aaD.mp l with rfl|l
 . exact lo x k
 . exact aeR (lo x k) (f y l)
structure vG (t:acP)(n:Nat):Prop where
 dm:t.dummies = #[]
 pl:t.plain=true
 sz:t.place.size=n
 ri:qu t.place
 le:∀j∈t.place,j<=t.mask
theorem vG.fits (h:vG t n)(hn:n<=t.mask):t.fits n=true:=by
 have hd:t.dummies.size=0:=by rw[h.dm];rfl
 have a:=h.sz
 unfold aja agJ
 simp only[aav,beq_iff_eq,decide_eq_true_eq]
 exact⟨a,by omega⟩
theorem LV (T:fq t n){es:Array (Int×Value)}(he:es.size=n)(h:Int)(x:Value):∃b7 t',layNew t es h x=(b7,t',false,false)/\vG t' (n+1)/\t'.mask=t.mask/\t'.led=t.led/\b7.toList.Perm ((h,x)::es.toList)/\b7.size=n+1:=by
 obtain⟨j,e,l,hm⟩:=IU T h
 have hd:afP #[] j=false:=by simp[afP]
 have c:(acj es (aaT t.place j) (h,x)).size=n+1:=by
  have:=(lC es (aaT t.place j) (h,x)).length_eq
  simp at this
  omega
 have P:vG { t with place:=acj t.place (aaT t.place j) j,dummies:=t.dummies } (n+1):=by
  refine⟨T.dm,T.pl,?_,IV T.ri l,λk f=>?_⟩
  . have:=(lC t.place (aaT t.place j) j).length_eq
    have:=T.sz
    simp at *
    omega
  . have:=(lC t.place (aaT t.place j) j).mem_iff.mp (by simpa using f)
    rcases aaD.mp this with rfl|h'
    . exact hm
    . exact T.le k (by simpa using h')
 have i:t.put j=({ t with place:=acj t.place (aaT t.place j) j,dummies:=t.dummies },aaT t.place j):=by
  unfold SetTable.put
  dsimp only
  rw[T.dm,hd]
  rfl
 have hf:=P.fits (by
  show n+1<=t.mask
  rcases T.mx with⟨a,b⟩|⟨a,b⟩<;>omega)
 refine⟨acj es (aaT t.place j) (h,x),_,?_,P,rfl,rfl,lC _ _ _,c⟩
 unfold layNew
 rw[e]
 dsimp only
 rw[i]
 dsimp only
 rw[c,hf]
 unfold SetTable.orStandIn
 rw[hf]
 rfl
theorem vH {owner:Array (Option Nat)}(ho:owner.size=32):∀(L fuel:Nat) (q:Nat×Nat),L<fuel->q.1<=31->owner[(lp 31 L q).1]? = some none->∃j,acU 31 owner fuel q.1 q.2=some j/\owner[j]? = some none
 |L,0,q,h,_,_=>by omega
 |L,fuel+1,q,h,hq,b=>by
  unfold acU
  cases ef:(aaz (abY 31 q.1+1-q.1)).find? λk=>(owner.getD (q.1+k) (some 0)).isNone with
  |some k =>
   dsimp only
   refine⟨q.1+k,rfl,?_⟩
   have f:=aea ef
   have l:=aaL.mp (List.mem_of_find?_eq_some ef)
   have i:=(iI 31 q.1).2.2 hq
   have a:q.1+k<owner.size:=by omega
   have c:owner.getD (q.1+k) (some 0)=owner[q.1+k]:=by simp[a]
   rw[c]at f
   rw[aa2 a]
   cases hv:owner[q.1+k]with
   |none=>rfl
   |some v=>rw[hv]at f;cases f
  |none =>
   dsimp only
   cases L with
   |zero =>
    exfalso
    have h0:=afj.mp ef 0 (aaL.mpr (by have:=(iI 31 q.1).1;omega))
    have b:owner[q.1]? = some none:=b
    obtain⟨a,e⟩:=abA.mp b
    have c:owner.getD (q.1+0) (some 0)=none:=by simp[a,e]
    rw[c]at h0
    exact h0 rfl
   |succ L =>
    exact vH ho L fuel (acv 31 q.1 q.2) (by omega) (adM (aeQ (q.1*5+1+q.2 / 32) (aeh 31))) b
structure Own (owner:Array (Option Nat))(sl:List Nat):Prop where
 sz:owner.size=32
 nd:sl.Nodup
 lt:∀j∈sl,j<32
 at_:∀j v:Nat,owner[j]? = some (some v)↔ sl[v]? = some j
theorem Own.nil:Own (af1 32 none) []:=⟨by simp,by simp,by simp,λj v=>by
 simp only[List.getElem?_nil,reduceCtorEq,iff_false]
 intro h
 obtain⟨a,e⟩:=abA.mp h
 simp at e⟩
theorem Own.room (O:Own owner sl)(hn:sl.length<32):∃r,r<=31/\owner[r]? = some none:=by
 refine acC λno=>?_
 have:(aaz 32).length<=sl.length:=zW adY λr a=>by
  have a:=aaL.mp a
  cases e:owner[r]'(by rw[O.sz];exact a)with
  |none=>exact absurd ⟨r,by omega,by rw[aa2 (by rw[O.sz];exact a),e]⟩ no
  |some v=>exact aa6 ((O.at_ r v).mp (by rw[aa2 (by rw[O.sz];exact a),e]))
 simp at this
 omega
theorem Own.add (O:Own owner sl)(hj:owner[j]? = some none):Own (owner.setIfInBounds j (some sl.length)) (sl ++ [j]):=by
 have l:j<owner.size:=(abA.mp hj).1
 have o:j ∉ sl:=λhm=>by
   obtain⟨v,f⟩:=acz.mp hm
   rw[(O.at_ j v).mpr f]at hj
   cases hj
 refine⟨by simp[O.sz],?_,λk c=>?_,λk v=>?_⟩
 . rw[ack]
   exact⟨O.nd,by simp,λa p b n=>by simp at n;subst n;rintro rfl;exact o p⟩
 . rcases aaE.mp c with c|c
   . exact O.lt k c
   . simp at c;subst c;rw[<- O.sz];exact l
 . by_cases e:j=k
   . subst e
     rw[Array.getElem?_setIfInBounds_self_of_lt l]
     constructor
     . intro h
       cases h
       simp
     . intro h
       by_cases f:v<sl.length
       . rw[aaS f]at h
         exact absurd (aa6 h) o
       . rw[abz (by omega)]at h
         have:=(aaB.mp h).1
         simp at this
         have:v=sl.length:=by omega
         rw[this]
   . rw[Array.getElem?_setIfInBounds_ne e,O.at_ k v]
     constructor
     . intro h
       rw[aaS (aaB.mp h).1];exact h
     . intro h
       by_cases f:v<sl.length
       . rwa[aaS f]at h
       . rw[abz (by omega)]at h
         have i:=aa6 h
         simp at i
         exact absurd i.symm e
noncomputable def uK (acc:Option (Array (Option Nat)×Nat))(h:Int):Option (Array (Option Nat)×Nat):=do
 let(owner,k)<- acc
 let j <- acU 31 owner (adV 31) (aa5 h % (31+1)) (aa5 h)
 pure (owner.setIfInBounds j (some k),k+1)
theorem yD:∀(hs:List Int) (owner:Array (Option Nat)) (sl:List Nat),Own owner sl->sl.length+hs.length<=31->∃BI jA,hs.foldl uK (some (owner,sl.length))=some (BI,jA.length)/\Own BI jA/\jA.length=sl.length+hs.length
 | [],owner,sl,O,_=>⟨owner,sl,rfl,O,rfl⟩
 |h::hs,owner,sl,O,hl=>by
  simp only[adt]at hl
  obtain⟨r,o,q⟩:=O.room (by omega)
  have a:aa5 h % (31+1)<=31:=adM (aeQ _ (aeh _))
  obtain⟨L,s,l⟩:=reach (.inr rfl) h a o
  obtain⟨j,p,n⟩:=vH O.sz L (adV 31) (aa5 h % (31+1),aa5 h) (by show L<31+15;omega) a (by rw[l];exact q)
  obtain⟨b,i,e,f,c⟩:=yD hs _ _ (O.add n) (by simp;omega)
  refine⟨b,i,?_,f,by simp at c ⊢;omega⟩
  rw[aip]
  have:uK (some (owner,sl.length)) h=some (owner.setIfInBounds j (some sl.length),(sl ++ [j]).length):=by
   show(acU 31 owner (adV 31) (aa5 h % (31+1)) (aa5 h)).bind _=_
   have k:acU 31 owner (adV 31) (aa5 h % (31+1)) (aa5 h)=some j:=p
   rw[k]
   simp
  rw[this]
  exact e
theorem D9 (hs:Array Int)(hl:hs.size<=31):∃owner sl,ahz 31 hs=some owner/\Own owner sl/\sl.length=hs.size:=by
 obtain⟨o,s,e,O,h⟩:=yD hs.toList _ [] Own.nil (by simpa using hl)
 refine⟨o,s,?_,O,by simpa using h⟩
 have a:hs.foldl (init:=some (af1 (31+1) none,0)) uK=some (o,s.length):=by
  rw[<- Array.foldl_toList]
  exact e
 unfold ahz
 show Option.map _ (hs.foldl (init:=some (af1 (31+1) none,0)) uK)=_
 rw[a]
 rfl
noncomputable def dG (owner:Array (Option Nat)):List (Nat×Nat):=(aaz 32).filterMap λj=>(owner.getD j none).map (j,·)
theorem jE (O:Own owner sl):(j,v)∈dG owner ↔ sl[v]? = some j:=by
 unfold dG
 rw[acw,<- O.at_]
 constructor
 . rintro⟨k,b,e⟩
   obtain⟨u,hu,c⟩:=aaK.mp e
   cases c
   have b:=aaL.mp b
   have a:j<owner.size:=by rw[O.sz];exact b
   rw[aa2 a]
   simpa[a]using hu
 . intro h
   obtain⟨a,e⟩:=abA.mp h
   refine⟨j,aaL.mpr (by rw[<- O.sz];exact a),?_⟩
   simp[a,e]
theorem yE (owner:Array (Option Nat)):(dG owner).Pairwise λa b=>a.1<b.1:=by
 unfold dG
 rw[List.pairwise_filterMap]
 refine(aew (n:=32)).imp fun {a b} h x e y c=>?_
 obtain⟨_,_,rfl⟩:=aaK.mp e
 obtain⟨_,_,rfl⟩:=aaK.mp c
 exact h
theorem yF:∀{V W:List Nat},V.Nodup->W.Nodup->(∀v,v∈V ↔ v∈W)->V.Perm W
 | [],W,_,_,h=>by
  cases W with
  |nil=>exact .refl _
  |cons w W=>exact absurd ((h w).mpr (by simp)) (by simp)
 |v::V,W,hv,hw,h=>by
  rw[ab_]at hv
  have hm:=(h v).mp (by simp)
  have:=yF (W:=W.erase v) hv.2 (hw.erase v) λu=>by
   rw[hw.mem_erase_iff,<- h u,aaD]
   constructor
   . intro hu
     exact⟨by rintro rfl;exact hv.1 hu,.inr hu⟩
   . rintro⟨b,a|a⟩
     . exact absurd a b
     . exact a
  exact(this.cons v).trans (List.perm_cons_erase hm).symm
theorem zX (O:Own owner sl):((dG owner).map (·.2)).Perm (aaz sl.length):=by
 refine yF ?_ adY λv=>?_
 . rw[List.Nodup,adO]
   refine(List.Pairwise.and_mem.mp (yE owner)).imp fun {a b} h e=>?_
   obtain⟨n,i,o⟩:=h
   have c:=(jE O (j:=a.1) (v:=a.2)).mp n
   have k:=(jE O (j:=b.1) (v:=b.2)).mp i
   rw[e,k]at c
   have:=abN c
   omega
 . rw[aaL,aaJ]
   constructor
   . rintro⟨a,l,rfl⟩
     exact(aaB.mp ((jE O (j:=a.1) (v:=a.2)).mp l)).1
   . intro f
     exact⟨(sl[v],v),(jE O).mpr (aay f),rfl⟩
end SJ
namespace SW
open PySem PySem.Spec PyProof.Rows
noncomputable def pz (ks:List Nat)(k:Nat):List Nat:=if k∈ks then ks else ks ++ [k]
section
variable {prog:aaY}{w:World}{A:aaV}{E:Value->aat->Prop}{s:aat}
noncomputable def emp (led:Bool):Obj:=gm #[] 0 (tb [] led)
theorem IW (a:Value){Q₁:Value->aat->Prop}(h:Q₁ (.ref s.heap.objs.size) { s with heap:=s.heap.push (emp (!w.params.followText "set-order")) }):
  aek (model prog w) A (.call (.builtin "set.__new__") ⟨[.type "set",a],[]⟩) (wants Q₁ E) s:=by
 refine codeAny_of_tree ?_
 show wpAny _ A.in1 (do checkBuiltinCall "set.__new__" ⟨[.type "set",a],[]⟩;again (.builtin "set.__new__" ⟨[.type "set",a],[]⟩)) _ _ s
 refine aas (ahP (F.newCall_set_1 a) (aau ⟨adC F.plain_set_new _,acb F.entry_set_new ?_⟩))
 rw[abP F.plain_set_new _]
 unfold ab1.«set.__new__» ajb
 have c:=sub_set_self
 obtain⟨b,g,d,e,os⟩:=s
 dsimp only
 wp_walk
 refine ads (aau ?_)
 dsimp only
 simp only[newObj]
 refine aas (af9 (aau ?_))
 exact aau h
end
end SW
namespace SJ
open PySem PySem.Spec PyProof.Rows
theorem D_ {α:Type}(es:List α):(aaz es.length).filterMap (λi=>es[i]?)=es:=by
 have:(aaz es.length).filterMap (λi=>es[i]?)=(aaz es.length).filterMap (λi=>(some i).bind λi=>es[i]?):=rfl
 refine afw λi=>?_
 have e:∀n,n<=es.length->(aaz n).filterMap (λi=>es[i]?)=es.take n:=by
  intro n
  induction n with
  |zero=>intro _;simp
  |succ n ih =>
   intro a
   rw[af2,List.filterMap_append,ih (by omega),aiL]
   congr 1
 rw[e _ (aaC _),ah5]
theorem Ea (P:vG t 5)(hm:t.mask=7){es:Array (Int×Value)}(he:es.size=5):∃b7 t',relayAll t es (aiM es.size)=(b7,t',false)/\fq t' 5/\t'.led=t.led/\b7.toList.Perm es.toList/\b7.size=5:=by
 obtain⟨owner,p,e,O,q⟩:=D9 (es.map (·.1)) (by simp[he])
 have r:p.length=5:=by rw[q];simp[he]
 have o:SetTable.sizeAbove (aiM es.size)-1=31:=by rw[he];decide
 have op:=zX O
 rw[r]at op
 have h:(dG owner).length=5:=by have:=op.length_eq;simpa using this
 have b:(((dG owner).map (·.2)).filterMap (λi=>es[i]?)).Perm es.toList:=by
   refine(op.filterMap _).trans ?_
   have:=D_ es.toList
   have s:es.toList.length=5:=by simpa using he
   rw[s]at this
   simp only[acy]at this
   rw[this]
 have T:fq { mask:=31,place:=((dG owner).map (·.1)).toArray,dummies:=#[],finger:=t.finger,led:=t.led,moves:=t.movedTo 31,plain:=t.plain } 5:=by
   refine⟨rfl,P.pl,by simp[h],?_,λj c=>?_,.inr ⟨rfl,by omega⟩⟩
   . show(((dG owner).map (·.1)).toArray.toList).Pairwise (· < ·)
     rw[agQ,adO]
     exact yE owner
   . show j<=31
     have c:j∈(dG owner).map (·.1):=by simpa using c
     obtain⟨a,n,rfl⟩:=aaJ.mp c
     have:=O.lt a.1 (aa6 ((jE O (j:=a.1) (v:=a.2)).mp n))
     omega
 refine⟨(((dG owner).map (·.2)).toArray).filterMap (es[·]?),_,?_,T,rfl,?_,?_⟩
 . unfold relayAll SetTable.relaid
   rw[o]
   have el:ajc 31 t.finger (t.movedTo 31) t.led t.plain (es.map (·.1))=some ({ mask:=31,place:=((dG owner).map (·.1)).toArray,dummies:=#[],finger:=t.finger,led:=t.led,moves:=t.movedTo 31,plain:=t.plain },((dG owner).map (·.2)).toArray):=by
     unfold ajc
     rw[e]
     rfl
   rw[el]
   dsimp only
   have k:coversAll ((dG owner).map (·.2)).toArray es.size=true:=by
     unfold coversAll
     rw[agQ,he,List.isPerm_iff]
     exact op
   have l:((((dG owner).map (·.2)).toArray).filterMap (es[·]?)).size=5:=by
     have:=b.length_eq
     have f:es.toList.length=5:=by simpa using he
     rw[f]at this
     rw[<- this,<- adw]
     simp
   rw[k,l,T.fits]
   rfl
 . have:((((dG owner).map (·.2)).toArray).filterMap (es[·]?)).toList=((dG owner).map (·.2)).filterMap (λi=>es[i]?):=by simp
   rw[this];exact b
 . have:=b.length_eq
   have f:es.toList.length=5:=by simpa using he
   rw[f]at this
   rw[<- this,<- adw]
   simp
end SJ
namespace SJ
open PySem PySem.Spec PyProof.Rows SW
noncomputable def qx (p:Int×Nat):Int×Value:=(aho p.1,.int p.1 p.2)
noncomputable def ij (h:Heap)(a:Addr)(led:Bool)(ks:List Int):Prop :=
 ∃(es:Array (Int×Value)) (ep:Nat) (t:acP) (l:List (Int×Nat)),h.get? a=some (gm es ep t)/\fq t es.size/\t.led=led/\es.toList.Perm (l.map qx)/\l.map (·.1)=ks
noncomputable def pz (ks:List Int)(k:Int):List Int:=if k∈ks then ks else ks ++ [k]
section
variable {prog:aaY}{w:World}{A:aaV}{E:Value->aat->Prop}{s:aat}{a:Addr}{led:Bool}{ks:List Int}
theorem elems {es:Array (Int×Value)}{l:List (Int×Nat)}(hp:es.toList.Perm (l.map qx)):ElemsOf (ad7 prog w) es.toList:=by
 intro e he
 have:=hp.mem_iff.mp he
 rw[aaJ]at this
 obtain⟨p,hm,rfl⟩:=this
 exact⟨⟨p.1,by simp[qx,ad7,afb],rfl⟩,rfl⟩
set_option maxHeartbeats 2000000 in
theorem IX {k:Int}{tok:Nat}{Q:Bool->aat->Prop}(hS:ij s.heap a led ks)(hl:ks.length<=17\/k∈ks)
  (hQ:∀b h',acW a s.heap h'->ij h' a led (pz ks k)->Q b { s with heap:=h' }):wpAny (model prog w) A (setAddHashed a (.int k tok) (aho k)) Q E s:=by
 obtain⟨es,n,t,l,y,T,pS,u,pA⟩:=id hS
 have jF:=elems (prog:=prog) (w:=w) u
 have hf:t.fits es.size=true:=T.fits
 have LW:es.size<=18:=by rcases T.mx with h|h<;>omega
 have hb:es.size<ahc:=by unfold ahc;omega
 have Uy:(ad7 prog w).is k (.int k tok)=true:=by simp[ad7,afb]
 unfold setAddHashed setAddHashedIn
 refine aa1 (aas (adL y rfl hf ?_))
 dsimp only
 rw[byScan_of (knd:=ad7 prog w) (x:=.int k tok) rfl hb jF]
 simp only[↓reduceIte]
 unfold setAddByScan
 refine aas ?_
 refine aas (ab8 ?_)
 refine aas (wpAny_setScan_of (knd:=ad7 prog w) (k:=k) Uy y rfl hf jF ?_)
 cases hr:List.findIdx? (λe=>(ad7 prog w).is k e.2) es.toList with
 |some j =>
  dsimp only
  obtain⟨hj,z,_⟩:=aex.mp hr
  have cM:k∈ks:=by
    have:=u.mem_iff.mp (ace hj)
    rw[aaJ]at this
    obtain⟨p,hm,e⟩:=this
    rw[<- e]at z
    have XX:k=p.1:=by
      simp[qx,ad7,afb]at z
      first|exact z|exact z.symm
    rw[XX,<- pA]
    exact agR hm
  refine aau (aau ?_)
  have hd:pz ks k=ks:=by unfold pz;rw[if_pos cM]
  have e:s={ s with heap:=s.heap }:=by cases s;rfl
  rw[e]
  exact hQ _ s.heap (Heap.SameBut.refl a s.heap) (by rw[hd];exact hS)
 |none =>
  dsimp only
  have LX:¬k∈ks:=by
    intro cM
    rw[<- pA,aaJ]at cM
    obtain⟨p,hm,e⟩:=cM
    have qy:=u.mem_iff.mpr (agR (f:=qx) hm)
    have:=List.findIdx?_eq_none_iff.mp hr _ qy
    subst e
    simp[qx,ad7,afb]at this
  have vI:es.size<=17:=by
    have hlen:=u.length_eq
    rcases hl with h|h
    . have:l.length=ks.length:=by rw[<- pA];simp
      simp at hlen
      omega
    . exact absurd h LX
  obtain⟨i,c,e1,P,v,qw,yG,mY⟩:=LV T (es:=es) rfl (aho k) (.int k tok)
  rw[e1]
  dsimp only
  refine aas (aau ?_)
  rw[P.pl]
  simp only[if_true]
  refine aas ?_
  rw[hashByValue_scannable 8 (x:=.int k tok) rfl]
  refine aau ?_
  refine aas (wpAny_storeSet_of y rfl ?_ (fits_of_scanBound (by unfold ahc;omega)))
  have hg:(s.heap.update a (adZ i c)).get? a=some (gm i (n+1) c):=by
    have:=abl (adZ i c) y (by rw[ahd i c (o:=gm es n t) rfl];rfl)
    rw[ahd i c (o:=gm es n t) rfl]at this
    exact this
  have RP:plainKind (.int k tok)=true:=rfl
  have LY:i.toList.Perm ((l ++ [(k,tok)]).map qx):=by
    rw[aeb]
    refine yG.trans ((u.cons _).trans ?_)
    exact(List.perm_append_singleton _ _).symm
  have LZ:(l ++ [(k,tok)]).map (·.1)=pz ks k:=by
    unfold pz;rw[if_neg LX,<- pA];simp
  have mZ:c.fill=es.size+1:=by
    unfold agJ
    rw[P.sz,P.dm]
    rfl
  by_cases h5:t.mask=7/\es.size=4
  . have L0:c.tooFull=true:=decide_eq_true (by rw[mZ,v,h5.1,h5.2];decide)
    simp only[RP,if_true,ae5,acM,L0]
    obtain⟨r,q,e2,T2,L4,XY,BJ⟩:=Ea (t:=c) (by rw[h5.2]at P;exact P) (by rw[v,h5.1]) (es:=i) (by rw[mY,h5.2])
    rw[e2]
    dsimp only
    refine aas (aau ?_)
    refine aas (wpAny_storeSet_of (s:={ s with heap:=s.heap.update a (adZ i c) }) hg rfl ?_ (fits_of_scanBound (by unfold ahc;omega)))
    have L5:((s.heap.update a (adZ i c)).update a (adZ r q)).get? a=some (gm r (n+1+1) q):=by
      have:=abl (adZ r q) hg (by rw[ahd r q (o:=gm i (n+1) c) rfl];rfl)
      rw[ahd r q (o:=gm i (n+1) c) rfl]at this
      exact this
    have sb:acW a s.heap ((s.heap.update a (adZ i c)).update a (adZ r q)):=(abn s.heap a _).trans (abn _ a _)
    refine aau (aau (hQ true _ sb ?_))
    exact⟨r,n+1+1,q,l ++ [(k,tok)],L5,by rw[BJ];exact T2,by rw[L4,qw,pS],XY.trans LY,LZ⟩
  . have L0:c.tooFull=false:=decide_eq_false (by
      rw[mZ,v]
      rcases T.mx with⟨h1,h2⟩|⟨h1,h2⟩<;>omega)
    simp only[RP,if_true,ae5,acM,L0,aaF,if_false]
    refine aau (aau (hQ true _ (abn s.heap a _) ?_))
    refine⟨i,n+1,c,l ++ [(k,tok)],hg,⟨P.dm,P.pl,by rw[P.sz,mY],P.ri,P.le,?_⟩,by rw[qw,pS],LY,LZ⟩
    rw[v,mY]
    rcases T.mx with⟨h1,h2⟩|⟨h1,h2⟩
    . exact .inl ⟨h1,by omega⟩
    . exact .inr ⟨h1,by omega⟩
end
end SJ
namespace SW
open PySem PySem.Spec PyProof.Rows
noncomputable def zs (ks:List Nat):List Int:=ks.map λ(k:Nat)=>(k:Int)
theorem tY {vs us:List Value}(hp:vs.Perm us):∀{ns:List Int},acK us ns->∃ms,acK vs ms/\ms.Perm ns:=by
 induction hp with
 |nil=>intro ns h;exact⟨ns,h,agl _⟩
 |cons x _ ih =>
  intro ns h
  cases h with
  |cons n t hr =>
   obtain⟨ms,b,a⟩:=ih hr
   exact⟨n::ms,.cons _ _ b,a.cons n⟩
 |swap x y l =>
  intro ns h
  cases h with
  |cons n t hr =>
   cases hr with
   |cons m u qz=>exact⟨m::n::_,.cons _ _ (.cons _ _ qz),aiJ _ _ _⟩
 |trans _ _ XZ L6 =>
  intro ns h
  obtain⟨ms,b,a⟩:=L6 h
  obtain⟨f,c,e⟩:=XZ b
  exact⟨f,c,e.trans a⟩
end SW
namespace L3
open PySem PySem.Spec PyProof.Rows L2
inductive D where
 |ay|bl (b:Bool)|int (i:Int)|str (x:Str)|tup (xs:List D)|lst (xs:List D)|de|ref (n:Nat)|aG (n:Nat)|fn (x:Str)
structure KW where
 fr:aaI
 w:World
 mg:Str->Option Value
instance:Coe KW aaI:=⟨KW.fr⟩
noncomputable abbrev _root_.L2.Cx.kw (X:L2.Cx):KW:=⟨X.K,X.w,X.mg⟩
abbrev G:=List (List D)
abbrev Sg:=List (Option D)
structure Ix where
 ix:List Addr
 hd:List Addr
 kd:Nat->Nat
noncomputable def kb:Nat->Bool
 | 0=>false
 |_+1=>true
def dk (ι:Ix)(n:Nat)(a:Addr)(b:Bool):Prop:=ι.ix[n]? = some a/\kb (ι.kd n)=b
noncomputable def Ix.more (ι:Ix)(p:Addr)(b:Nat):Ix:=⟨ι.ix ++ [p],ι.hd,λi=>if i=ι.ix.length then b else ι.kd i⟩
mutual
noncomputable def a_:Nat->D->Bool
 |_,.ay=>true
 |_,.int _=>true
 |_,.str _=>true
 |n+1,.tup xs=>cX n xs
 |_,_=>false
noncomputable def cX:Nat->List D->Bool
 |_,[]=>true
 |n,d::ds=>a_ n d&&cX n ds
end
mutual
noncomputable def hD (w:World):D->Int
 |.int i=>aho i
 |.str x=>hashStr w x
 |.ay=>reduceHash 0xFCA86420
 |.tup xs=>reduceHash (afB (BK w xs))
 |_=>0
noncomputable def BK (w:World):List D->List Int
 | []=>[]
 |d::ds=>hD w d::BK w ds
end
noncomputable def dO (a:Addr)(es:List aa_)(c:Nat):HO:=.ext λh=>h.get? a=some { cls:=.type "dict",data:=.dict es.toArray (es.length-c) }
noncomputable def je:List aa_->List Value
 | []=>[]
 |e::es=>e.key::e.val::je es
noncomputable def aW:List D->List D
 |k::_::r=>k::aW r
 |_=>[]
inductive jG (w:World):List D->List aa_->Prop
 |nil:jG w [] []
 |cons {k v:D} {r:List D} {e:aa_} {es:List aa_}:a_ 6 k=true->e.hash=hD w k->jG w r es->jG w (k::v::r) (e::es)
inductive OV (K:KW)(a:Addr)(xs:List D):Nat->HO->List V->Prop
 |l (vs:List V):OV K a xs 0 (.lst vs) vs
 |d (c:Nat) (es:List aa_) (vs:List V):c<=es.length->Vals vs (je es)->jG K.w xs es->(aW xs).Nodup->(a == ac_)=false->es.length<=aaP->OV K a xs (c+1) (dO a es c) vs
noncomputable def j7 (K:KW)(H:Hp)(ι:Ix)(a:Addr)(xs:List V):Prop :=
 (Rd H a (.lst xs)/\a ∉ ι.ix/\a ∉ ι.hd) \/
  ∃(o:Obj) (au:Array Value) (n:Nat),K.fr.lookup a=some o/\o.cls = .type "list" /\ o.dict=none/\o.data = .seq au n/\au.size<=aaP/\Vals xs au.toList
theorem j7.sq {K H ι a xs}(h:j7 K H ι a xs):da K H a xs:=by
 rcases h with⟨h,_⟩|h
 . exact .inl h
 . exact .inr h
noncomputable def jH (K:KW)(H:Hp)(ι:Ix)(a:Addr)(xs:List V):Prop :=
 (Rd H a (.tup xs)/\a ∉ ι.ix) \/
  ∃(o:Obj) (au:Array Value) (n:Nat),K.fr.lookup a=some o/\o.cls = .type "tuple" /\ o.dict=none/\o.data = .seq au n/\au.size<=aaP/\Vals xs au.toList
theorem jH.sq {K H ι a xs}(h:jH K H ι a xs):dS K H a xs:=by
 rcases h with⟨h,_⟩|h
 . exact .inl h
 . exact .inr h
mutual
noncomputable def Rel (K:KW)(H:Hp)(ι:Ix):D->V->Prop
 |.ay,v=>v = .ay
 |.bl b,v=>v = .bl b
 |.int i,v=>v = .int i
 |.str x,v=>v = .str x
 |.tup xs,v=>∃a vs,v = .ref a/\jH K H ι a vs/\ag K H ι xs vs
 |.lst xs,v=>∃a vs,v = .ref a/\j7 K H ι a vs/\ag K H ι xs vs
 |.de,v=>∃a,v = .ref a/\H a=some (.dK [])/\a ∉ ι.ix
 |.ref n,v=>∃a,v = .ref a/\dk ι n a false
 |.aG n,v=>∃a,v = .ref a/\dk ι n a true
 |.fn x,v=>∃a,v = .ref a/\K.mg x=some (.ref a)
noncomputable def ag (K:KW)(H:Hp)(ι:Ix):List D->List V->Prop
 | [],vs=>vs = []
 |x::xs,vs=>∃v vr,vs=v::vr/\Rel K H ι x v/\ag K H ι xs vr
end
structure Ext (H:Hp)(ι:Ix)(H':Hp)(ι':Ix):Prop where
 same:∀a o,H a=some o->a ∉ ι.ix->H' a=some o
 there:∀a,H a≠none->H' a≠none
 more:∃m,ι'.ix=ι.ix++m /\ ∀a∈m,H a=none
 cN:ι'.hd=ι.hd
 mC:∀i,i < ι.ix.length->ι'.kd i=ι.kd i
structure ax (K:KW)(H:Hp)(ι:Ix)(g:G):Prop where
 nd:ι.ix.Nodup
 len:ι.ix.length=g.length
 cN:∀b∈ι.hd,b ∉ ι.ix/\H b≠none
 at_:∀(i:Nat) xs,g[i]? = some xs->∃a o vs,ι.ix[i]? = some a/\H a=some o/\OV K a xs (ι.kd i) o vs/\ag K H ι xs vs
noncomputable def bN (K:KW)(H:Hp)(ι:Ix)(σd:Sg)(σ:L2.St):Prop :=
 σd.length=σ.length /\ ∀(i:Nat) d,σd[i]? = some (some d)->∃v,σ[i]? = some (some v)/\Rel K H ι d v
theorem Ext.refl {H ι}:Ext H ι H ι:=⟨λ_ _ h _=>h,λ_ h=>h,⟨[],by simp,λ_ h=>by simp at h⟩,rfl,λ_ _=>rfl⟩
theorem Ext.old {H ι H1 ι1}(a:Ext H ι H1 ι1){c:Addr}{o:HO}(h:H c=some o)(n:c ∉ ι.ix):c ∉ ι1.ix:=λz=>by
 obtain⟨e,b,f1⟩:=a.more
 rw[b]at z
 rcases aaE.mp z with z|z
 . exact n z
 . rw[f1 c z]at h;cases h
theorem Ext.trans {H ι H1 ι1 H2 ι2}(a:Ext H ι H1 ι1)(b:Ext H1 ι1 H2 ι2):Ext H ι H2 ι2:=by
 obtain⟨f,e,f1⟩:=a.more
 obtain⟨j,l,f2⟩:=b.more
 refine⟨λc o h n=>b.same c o (a.same c o h n) (a.old h n),λc h=>b.there c (a.there c h),⟨f++j,by rw[l,e,ab7],λc z=>?_⟩,b.cN.trans a.cN,λi k=>(b.mC i (by rw[e,acd];omega)).trans (a.mC i k)⟩
 rcases aaE.mp z with z|z
 . exact f1 c z
 . cases q:H c with
   |none=>rfl
   |some o=>exact absurd (f2 c z) (a.there c (by rw[q];simp))
theorem Ext.at {H ι H1 ι1}(a:Ext H ι H1 ι1){i:Nat}{c:Addr}{b:Bool}(h:dk ι i c b):dk ι1 i c b:=by
 obtain⟨j,f,_⟩:=a.more
 have e:=(aaB.mp h.1).1
 refine⟨?_,by rw[a.mC i e];exact h.2⟩
 rw[f,aaS e];exact h.1
theorem j7.ext {K H ι H1 ι1 a xs}(e:Ext H ι H1 ι1)(h:j7 K H ι a xs):j7 K H1 ι1 a xs:=by
 rcases h with⟨h|⟨o,h⟩,n,k⟩|h
 . exact .inl ⟨.inl (e.same _ _ h n),e.old h n,by rw[e.cN];exact k⟩
 . exact .inl ⟨.inr ⟨o,e.same _ _ h n⟩,e.old h n,by rw[e.cN];exact k⟩
 . exact .inr h
theorem jH.ext {K H ι H1 ι1 a xs}(e:Ext H ι H1 ι1)(h:jH K H ι a xs):jH K H1 ι1 a xs:=by
 rcases h with⟨h|⟨o,h⟩,n⟩|h
 . exact .inl ⟨.inl (e.same _ _ h n),e.old h n⟩
 . exact .inl ⟨.inr ⟨o,e.same _ _ h n⟩,e.old h n⟩
 . exact .inr h
mutual
theorem Rel.ext {K H ι H1 ι1}(e:Ext H ι H1 ι1):∀(d:D) {v:V},Rel K H ι d v->Rel K H1 ι1 d v
 |.ay,v,h=>by simpa[Rel]using h
 |.bl _,v,h=>by simpa[Rel]using h
 |.int _,v,h=>by simpa[Rel]using h
 |.str _,v,h=>by simpa[Rel]using h
 |.tup xs,v,h=>by
  simp only[Rel]at h ⊢
  obtain⟨a,i,c,b,f⟩:=h
  exact⟨a,i,c,b.ext e,ag.ext e xs f⟩
 |.lst xs,v,h=>by
  simp only[Rel]at h ⊢
  obtain⟨a,i,c,b,f⟩:=h
  exact⟨a,i,c,b.ext e,ag.ext e xs f⟩
 |.de,v,h=>by
  simp only[Rel]at h ⊢
  obtain⟨a,c,b,f⟩:=h
  exact⟨a,c,e.same _ _ b f,e.old b f⟩
 |.ref n,v,h=>by
  simp only[Rel]at h ⊢
  obtain⟨a,c,b⟩:=h
  exact⟨a,c,e.at b⟩
 |.aG n,v,h=>by
  simp only[Rel]at h ⊢
  obtain⟨a,c,b⟩:=h
  exact⟨a,c,e.at b⟩
 |.fn x,v,h=>by simpa[Rel]using h
theorem ag.ext {K H ι H1 ι1}(e:Ext H ι H1 ι1):∀(ds:List D) {vs:List V},ag K H ι ds vs->ag K H1 ι1 ds vs
 | [],vs,h=>by simpa[ag]using h
 |d::ds,vs,h=>by
  simp only[ag]at h ⊢
  obtain⟨v,b,f,a,c⟩:=h
  exact⟨v,b,f,Rel.ext e d a,ag.ext e ds c⟩
end
theorem bN.ext {K H ι H1 ι1 σd σ}(e:Ext H ι H1 ι1)(h:bN K H ι σd σ):bN K H1 ι1 σd σ :=
 ⟨h.1,λi d q=>let⟨v,a,b⟩:=h.2 i d q;⟨v,a,Rel.ext e d b⟩⟩
theorem ag.length {K H ι}:∀{ds:List D} {vs:List V},ag K H ι ds vs->ds.length=vs.length
 | [],vs,h=>by simp only[ag]at h;subst h;rfl
 |d::ds,vs,h=>by
  simp only[ag]at h
  obtain⟨v,b,rfl,_,a⟩:=h
  simp[ag.length a]
theorem ag.append {K H ι}:∀{ds es:List D} {vs us:List V},ag K H ι ds vs->ag K H ι es us->ag K H ι (ds++es) (vs++us)
 | [],es,vs,us,h,k=>by simp only[ag]at h;subst h;exact k
 |d::ds,es,vs,us,h,k=>by
  simp only[ag]at h
  obtain⟨v,c,rfl,b,a⟩:=h
  simp only[aeA,ag]
  exact⟨v,_,rfl,b,ag.append a k⟩
theorem ag.get {K H ι}:∀{ds:List D} {vs:List V} {i:Nat} {d:D},ag K H ι ds vs->ds[i]? = some d->∃v,vs[i]? = some v/\Rel K H ι d v
 | [],_,_,_,_,e=>by simp at e
 |x::ds,vs,0,d,h,e=>by
  simp only[ag]at h
  obtain⟨v,j,rfl,b,a⟩:=h
  simp at e;subst e;exact⟨v,rfl,b⟩
 |x::ds,vs,i+1,d,h,e=>by
  simp only[ag]at h
  obtain⟨v,j,rfl,b,a⟩:=h
  obtain⟨u,f,c⟩:=ag.get (i:=i) a (by simpa using e)
  exact⟨u,by simpa using f,c⟩
theorem ag.set {K H ι d v}(hv:Rel K H ι d v):∀{ds:List D} {vs:List V} (i:Nat),ag K H ι ds vs->ag K H ι (ds.set i d) (vs.set i v)
 | [],_,_,h=>by simp only[ag]at h;subst h;simp[ag]
 |x::ds,vs,0,h=>by
  simp only[ag]at h
  obtain⟨u,b,rfl,hu,a⟩:=h
  simp only[afk,ag]
  exact⟨v,b,rfl,hv,a⟩
 |x::ds,vs,i+1,h=>by
  simp only[ag]at h
  obtain⟨u,b,rfl,hu,a⟩:=h
  simp only[List.set_cons_succ,ag]
  exact⟨u,_,rfl,hu,ag.set hv i a⟩
theorem ag.take {K H ι}:∀{ds:List D} {vs:List V} (n:Nat),ag K H ι ds vs->ag K H ι (ds.take n) (vs.take n)
 |_,_,0,_=>by simp[ag]
 | [],_,n+1,h=>by simp only[ag]at h;subst h;simp[ag]
 |x::ds,vs,n+1,h=>by
  simp only[ag]at h
  obtain⟨u,b,rfl,hu,a⟩:=h
  simp only[aeY,ag]
  exact⟨u,_,rfl,hu,ag.take n a⟩
theorem ag.drop {K H ι}:∀{ds:List D} {vs:List V} (n:Nat),ag K H ι ds vs->ag K H ι (ds.drop n) (vs.drop n)
 |_,_,0,h=>h
 | [],_,n+1,h=>by simp only[ag]at h;subst h;simp[ag]
 |x::ds,vs,n+1,h=>by
  simp only[ag]at h
  obtain⟨u,b,rfl,hu,a⟩:=h
  simp only[agS]
  exact ag.drop n a
theorem ax.at {K H ι g}(h:ax K H ι g){n:Nat}{xs:List D}{a:Addr}(e:g[n]? = some xs)(ha:dk ι n a false):∃vs,H a=some (.lst vs)/\ag K H ι xs vs:=by
 obtain⟨b,o,vs,c,j,f,i⟩:=h.at_ n xs e
 rw[ha.1]at c;cases c
 have c:=ha.2
 generalize ι.kd n=k at f c
 cases f with
 |l=>exact⟨vs,j,i⟩
 |d=>cases c
theorem ax.pB {K H ι g}(h:ax K H ι g){n:Nat}{xs:List D}{a:Addr}(e:g[n]? = some xs)(ha:dk ι n a true):
  ∃es vs c,H a=some (dO a es c)/\ι.kd n=c+1/\c<=es.length/\Vals vs (je es)/\jG K.w xs es/\(aW xs).Nodup/\(a == ac_)=false/\es.length<=aaP/\ag K H ι xs vs:=by
 obtain⟨b,o,vs,f,p,i,j⟩:=h.at_ n xs e
 rw[ha.1]at f;cases f
 have f:=ha.2
 generalize ι.kd n=k at i f
 cases i with
 |l=>cases f
 |d c es vs h0 h3 h4 h5 h6 h7=>exact⟨es,vs,c,p,rfl,h0,h3,h4,h5,h6,h7,j⟩
theorem ax.tF {K H ι g}(h:ax K H ι g){a:Addr}(ha:a∈ι.ix):H a≠none:=by
 obtain⟨i,c,e⟩:=abG.mp ha
 have j:i<g.length:=by rw[<- h.len];exact c
 obtain⟨b,_,l,f,k,_⟩:=h.at_ i _ (aay j)
 rw[aay c,e]at f
 cases f
 rw[k];simp
theorem Ext.lay {H ι p o}(hp:H p=none):Ext H ι (upd H p o) ι :=
 ⟨λa u h _=>by rw[aR (bZ h hp)];exact h,λa h=>by
  by_cases e:a=p
  . subst e;exact absurd hp h
  . rw[aR e];exact h,⟨[],by simp,λ_ h=>by simp at h⟩,rfl,λ_ _=>rfl⟩
theorem ax.ext {K H ι g H1}(h:ax K H ι g)(e:Ext H ι H1 ι)(k:∀a∈ι.ix,H1 a=H a):ax K H1 ι g :=
 ⟨h.nd,h.len,λb c=>⟨(h.cN b c).1,e.there b (h.cN b c).2⟩,λi xs q=>by
  obtain⟨a,o,j,f,n,p,l⟩:=h.at_ i xs q
  exact⟨a,o,j,f,by rw[k a (aa6 f)];exact n,p,ag.ext e xs l⟩⟩
theorem ax.lay {K H ι g p o}(h:ax K H ι g)(hp:H p=none):ax K (upd H p o) ι g :=
 h.ext (Ext.lay hp) λa b=>aR λe=>by subst e;exact h.tF b hp
theorem ax.fresh {K H ι g p}(h:ax K H ι g)(hp:H p=none):p ∉ ι.ix:=λa=>h.tF a hp
theorem ax.iJ {K H ι g p}(h:ax K H ι g)(hp:H p=none):p ∉ ι.hd:=λa=>(h.cN p a).2 hp
theorem Ext.gA {H ι p o b}(hp:H p=none):Ext H ι (upd H p o) (ι.more p b):=by
 have e:=Ext.lay (ι:=ι) (o:=o) hp
 refine⟨e.same,e.there,⟨[p],rfl,λa c=>by simp at c;subst c;exact hp⟩,rfl,λi f=>?_⟩
 show(if i=ι.ix.length then b else ι.kd i)=ι.kd i
 rw[if_neg (by omega)]
theorem Ext.push {H ι p o}(hp:H p=none):Ext H ι (upd H p o) (ι.more p 0):=Ext.gA hp
theorem ax.gA {K H ι g p o xs vs b}(h:ax K H ι g)(hp:H p=none)(ov:OV K p xs b o vs)(r:ag K H ι xs vs):ax K (upd H p o) (ι.more p b) (g ++ [xs]):=by
 have v:=h.fresh hp
 refine⟨?_,by simp[Ix.more,h.len],λb c=>⟨λz=>?_,(Ext.gA (ι:=ι) (o:=o) (b:=0) hp).there b (h.cN b c).2⟩,λi ys q=>?_⟩
 . show(ι.ix ++ [p]).Nodup
   rw[ack]
   refine⟨h.nd,by simp,λa x b c=>?_⟩
   simp at c;subst c
   intro e;subst e;exact v x
 . rcases aaE.mp z with z|z
   . exact(h.cN b c).1 z
   . simp at z;subst z;exact(h.cN _ c).2 hp
 . by_cases hi:i<g.length
   . rw[aaS hi]at q
     obtain⟨a,f,us,y,j,n,s⟩:=h.at_ i ys q
     refine⟨a,f,us,(by show(ι.ix ++ [p])[i]? = some a;rw[aaS (by rw[h.len];exact hi)];exact y),?_,?_,ag.ext (Ext.gA hp) ys s⟩
     . rw[aR (bZ j hp)];exact j
     . show OV K _ _ (if i=ι.ix.length then b else ι.kd i) f us
       rw[if_neg (by rw[h.len];omega)];exact n
   . rw[abz (by omega)]at q
     have u:i-g.length=0:=by
       cases e:i-g.length with
       |zero=>rfl
       |succ k=>rw[e]at q;simp at q
     rw[u]at q
     have e:xs=ys:=by simpa using q
     subst e
     have l:i=ι.ix.length:=by rw[h.len];omega
     refine⟨p,o,vs,?_,bw,?_,ag.ext (Ext.gA hp) xs r⟩
     . show(ι.ix ++ [p])[i]? = some p
       rw[l];simp
     . show OV K _ _ (if i=ι.ix.length then b else ι.kd i) o vs
       rw[if_pos l];exact ov
theorem ax.push {K H ι g p xs vs}(h:ax K H ι g)(hp:H p=none)(r:ag K H ι xs vs):ax K (upd H p (.lst vs)) (ι.more p 0) (g ++ [xs]):=h.gA hp (.l vs) r
theorem dk.new {ι:Ix}{p:Addr}{k:Nat}{n:Nat}(h:ι.ix.length=n):dk (ι.more p k) n p (kb k):=by
 subst h
 exact⟨by show(ι.ix ++ [p])[ι.ix.length]? = some p;simp,by show kb (if ι.ix.length=ι.ix.length then k else ι.kd ι.ix.length)=kb k;rw[if_pos rfl]⟩
theorem Ext.put {H ι}{n:Nat}{a o o'}{b:Bool}(ha:dk ι n a b)(h:H a=some o):Ext H ι (upd H a o') ι :=
 ⟨λb o q nb=>by rw[aR (λe=>nb (by rw[e];exact aa6 ha.1))];exact q,λb q=>by
  by_cases e:b=a
  . subst e;rw[bw];simp
  . rw[aR e];exact q,⟨[],by simp,λ_ z=>by simp at z⟩,rfl,λ_ _=>rfl⟩
theorem ax.L7 {K H ι g}{n:Nat}{a o o' xs ws}{b:Bool}(h:ax K H ι g)(ha:dk ι n a b)(hv:H a=some o)(ov:OV K a xs (ι.kd n) o' ws)(r:ag K H ι xs ws):ax K (upd H a o') ι (g.set n xs):=by
 refine⟨h.nd,by simp[h.len],λb j=>⟨(h.cN b j).1,(Ext.put ha hv).there b (h.cN b j).2⟩,λi f q=>?_⟩
 by_cases e:i=n
 . subst e
   have c:i<g.length:=by rw[<- h.len];exact(aaB.mp ha.1).1
   rw[ab5 c]at q
   cases q
   exact⟨a,o',ws,ha.1,bw,ov,ag.ext (Ext.put ha hv) _ r⟩
 . rw[aaU (acg e)]at q
   obtain⟨b,p,us,k,u,l,s⟩:=h.at_ i f q
   refine⟨b,p,us,k,?_,l,ag.ext (Ext.put ha hv) f s⟩
   rw[aR ?_]
   . exact u
   . intro z
     subst z
     obtain⟨c,x⟩:=aaB.mp k
     obtain⟨y,v⟩:=aaB.mp ha.1
     exact e ((afJ h.nd).mp (x.trans v.symm))
theorem ax.put {K H ι g}{n:Nat}{a vs xs ws}(h:ax K H ι g)(ha:dk ι n a false)(hv:H a=some (.lst vs))(r:ag K H ι xs ws):ax K (upd H a (.lst ws)) ι (g.set n xs):=h.L7 ha hv (by
 have b:=ha.2
 cases e:ι.kd n with
 |zero=>exact .l ws
 |succ k=>rw[e]at b;cases b) r
noncomputable def Ix.hide (ι:Ix)(p:Addr):Ix:=⟨ι.ix,p::ι.hd,ι.kd⟩
mutual
theorem Rel.show {K H ι p}:∀(d:D) {v:V},Rel K H (Ix.hide ι p) d v->Rel K H ι d v
 |.ay,v,h=>by simpa[Rel]using h
 |.bl _,v,h=>by simpa[Rel]using h
 |.int _,v,h=>by simpa[Rel]using h
 |.str _,v,h=>by simpa[Rel]using h
 |.tup xs,v,h=>by
  simp only[Rel]at h ⊢
  obtain⟨a,b,f,c,e⟩:=h
  exact⟨a,b,f,c,ag.show xs e⟩
 |.lst xs,v,h=>by
  simp only[Rel]at h ⊢
  obtain⟨a,b,f,c,e⟩:=h
  refine⟨a,b,f,?_,ag.show xs e⟩
  rcases c with⟨h,n,k⟩|h
  . exact .inl ⟨h,n,λz=>k (aaR _ z)⟩
  . exact .inr h
 |.de,v,h=>by simpa[Rel,Ix.hide]using h
 |.ref n,v,h=>by simpa[Rel,Ix.hide,dk]using h
 |.aG n,v,h=>by simpa[Rel,Ix.hide,dk]using h
 |.fn x,v,h=>by simpa[Rel]using h
theorem ag.show {K H ι p}:∀(ds:List D) {vs:List V},ag K H (Ix.hide ι p) ds vs->ag K H ι ds vs
 | [],vs,h=>by simpa[ag]using h
 |d::ds,vs,h=>by
  simp only[ag]at h ⊢
  obtain⟨v,b,e,a,c⟩:=h
  exact⟨v,b,e,Rel.show d a,ag.show ds c⟩
end
mutual
theorem Rel.hide {K H ι p o}(hp:H p=none):∀(d:D) {v:V},Rel K H ι d v->Rel K (upd H p o) (Ix.hide ι p) d v
 |.ay,v,h=>by simpa[Rel]using h
 |.bl _,v,h=>by simpa[Rel]using h
 |.int _,v,h=>by simpa[Rel]using h
 |.str _,v,h=>by simpa[Rel]using h
 |.tup xs,v,h=>by
  simp only[Rel]at h ⊢
  obtain⟨a,f,e,b,c⟩:=h
  refine⟨a,f,e,?_,ag.hide hp xs c⟩
  rcases b with⟨h|⟨u,h⟩,n⟩|h
  . exact .inl ⟨.inl (by rw[aR (bZ h hp)];exact h),n⟩
  . exact .inl ⟨.inr ⟨u,by rw[aR (bZ h hp)];exact h⟩,n⟩
  . exact .inr h
 |.lst xs,v,h=>by
  simp only[Rel]at h ⊢
  obtain⟨a,f,e,b,c⟩:=h
  refine⟨a,f,e,?_,ag.hide hp xs c⟩
  have out:∀{u:HO},H a=some u->a ∉ ι.hd->a ∉ (Ix.hide ι p).hd:=λh k z=>by
    rcases aaD.mp z with z|z
    . exact bZ h hp z
    . exact k z
  rcases b with⟨h|⟨u,h⟩,n,k⟩|h
  . exact .inl ⟨.inl (by rw[aR (bZ h hp)];exact h),n,out h k⟩
  . exact .inl ⟨.inr ⟨u,by rw[aR (bZ h hp)];exact h⟩,n,out h k⟩
  . exact .inr h
 |.de,v,h=>by
  simp only[Rel]at h ⊢
  obtain⟨a,e,b,c⟩:=h
  exact⟨a,e,by rw[aR (bZ b hp)];exact b,c⟩
 |.ref n,v,h=>by simpa[Rel,Ix.hide,dk]using h
 |.aG n,v,h=>by simpa[Rel,Ix.hide,dk]using h
 |.fn x,v,h=>by simpa[Rel]using h
theorem ag.hide {K H ι p o}(hp:H p=none):∀(ds:List D) {vs:List V},ag K H ι ds vs->ag K (upd H p o) (Ix.hide ι p) ds vs
 | [],vs,h=>by simpa[ag]using h
 |d::ds,vs,h=>by
  simp only[ag]at h ⊢
  obtain⟨v,b,e,a,c⟩:=h
  exact⟨v,b,e,Rel.hide hp d a,ag.hide hp ds c⟩
end
mutual
theorem Rel.grow {K H ι p us ws}(hp:H p=some (.lst us)):∀(d:D) {v:V},Rel K H (Ix.hide ι p) d v->Rel K (upd H p (.lst ws)) (Ix.hide ι p) d v
 |.ay,v,h=>by simpa[Rel]using h
 |.bl _,v,h=>by simpa[Rel]using h
 |.int _,v,h=>by simpa[Rel]using h
 |.str _,v,h=>by simpa[Rel]using h
 |.tup xs,v,h=>by
  simp only[Rel]at h ⊢
  obtain⟨a,f,e,b,c⟩:=h
  refine⟨a,f,e,?_,ag.grow hp xs c⟩
  rcases b with⟨h|⟨u,h⟩,n⟩|h
  . exact .inl ⟨.inl (by rw[aR (zE h hp (by simp))];exact h),n⟩
  . exact .inl ⟨.inr ⟨u,by rw[aR (zE h hp (by simp))];exact h⟩,n⟩
  . exact .inr h
 |.lst xs,v,h=>by
  simp only[Rel]at h ⊢
  obtain⟨a,f,e,b,c⟩:=h
  refine⟨a,f,e,?_,ag.grow hp xs c⟩
  rcases b with⟨h,n,k⟩|h
  . have ne:a≠p:=λz=>k (by rw[z];exact aaO)
    rcases h with h|⟨u,h⟩
    . exact .inl ⟨.inl (by rw[aR ne];exact h),n,k⟩
    . exact .inl ⟨.inr ⟨u,by rw[aR ne];exact h⟩,n,k⟩
  . exact .inr h
 |.de,v,h=>by
  simp only[Rel]at h ⊢
  obtain⟨a,e,b,c⟩:=h
  exact⟨a,e,by rw[aR (zE b hp (by simp))];exact b,c⟩
 |.ref n,v,h=>by simpa[Rel,Ix.hide,dk]using h
 |.aG n,v,h=>by simpa[Rel,Ix.hide,dk]using h
 |.fn x,v,h=>by simpa[Rel]using h
theorem ag.grow {K H ι p us ws}(hp:H p=some (.lst us)):∀(ds:List D) {vs:List V},ag K H (Ix.hide ι p) ds vs->ag K (upd H p (.lst ws)) (Ix.hide ι p) ds vs
 | [],vs,h=>by simpa[ag]using h
 |d::ds,vs,h=>by
  simp only[ag]at h ⊢
  obtain⟨v,b,e,a,c⟩:=h
  exact⟨v,b,e,Rel.grow hp d a,ag.grow hp ds c⟩
end
theorem ax.hide {K H ι p o g}(hp:H p=none)(h:ax K H ι g):ax K (upd H p o) (Ix.hide ι p) g :=
 ⟨h.nd,h.len,λb c=>by
  rcases aaD.mp c with rfl|c
  . exact⟨h.fresh hp,by rw[bw];simp⟩
  . refine⟨(h.cN b c).1,?_⟩
    by_cases e:b=p
    . subst e;rw[bw];simp
    . rw[aR e];exact(h.cN b c).2,λi xs q=>by
  obtain⟨a,o,j,l,f,n,k⟩:=h.at_ i xs q
  exact⟨a,o,j,l,by rw[aR (bZ f hp)];exact f,n,ag.hide hp xs k⟩⟩
theorem ax.show {K H ι p g}(h:ax K H (Ix.hide ι p) g):ax K H ι g :=
 ⟨h.nd,h.len,λb j=>h.cN b (aaR _ j),λi xs q=>by
  obtain⟨a,o,c,k,f,l,e⟩:=h.at_ i xs q
  exact⟨a,o,c,k,f,l,ag.show xs e⟩⟩
theorem ax.grow {K H ι p us ws g}(hp:H p=some (.lst us))(h:ax K H (Ix.hide ι p) g):ax K (upd H p (.lst ws)) (Ix.hide ι p) g :=
 ⟨h.nd,h.len,λb c=>⟨(h.cN b c).1,by
   by_cases e:b=p
   . subst e;rw[bw];simp
   . rw[aR e];exact(h.cN b c).2⟩,λi xs q=>by
  obtain⟨a,o,j,f,l,n,k⟩:=h.at_ i xs q
  refine⟨a,o,j,f,?_,n,ag.grow hp xs k⟩
  rw[aR (λe=>(h.cN p aaO).1 (by rw[<- e];exact aa6 f))];exact l⟩
abbrev FE:=Sg->G->Option (D×G)
abbrev FT:=Sg->G->Option (Bool×G)
abbrev FA:=Sg->G->Option (List D×G)
def gG (K:KW)(H:Hp)(ι:Ix)(d:D)(g':G)(Q:VK):Prop:=∀H' ι' v,Ext H ι H' ι'->ax K H' ι' g'->Rel K H' ι' d v->Q v H'
def QD (K:KW)(H:Hp)(ι:Ix)(ds:List D)(g':G)(Q:List V->Hp->Prop):Prop:=∀H' ι' vs,Ext H ι H' ι'->ax K H' ι' g'->ag K H' ι' ds vs->Q vs H'
def qA (K:KW)(H:Hp)(ι:Ix)(g':G)(Q:Hp->Prop):Prop:=∀H' ι',Ext H ι H' ι'->ax K H' ι' g'->Q H'
inductive tD (K:KW)(f:FE)(σ:L2.St)(H:Hp)(Q:VK):Prop
 |mk (ι:Ix) (σd:Sg) (g:G) (d:D) (g':G) (h0:ax K H ι g) (h1:bN K H ι σd σ) (h2:f σd g=some (d,g')) (h3:gG K H ι d g' Q):tD K f σ H Q
inductive i5 (K:KW)(f:FA)(σ:L2.St)(H:Hp)(Q:(List V->Hp->Prop)):Prop
 |mk (ι:Ix) (σd:Sg) (g:G) (d:List D) (g':G) (h0:ax K H ι g) (h1:bN K H ι σd σ) (h2:f σd g=some (d,g')) (h3:QD K H ι d g' Q):i5 K f σ H Q
inductive kH (K:KW)(f:FT)(σ:L2.St)(H:Hp)(Q:(Bool->Hp->Prop)):Prop
 |mk (ι:Ix) (σd:Sg) (g:G) (b:Bool) (g':G) (h0:ax K H ι g) (h1:bN K H ι σd σ) (h2:f σd g=some (b,g')) (h3:qA K H ι g' (Q b)):kH K f σ H Q
structure DE (X:Cx)(e:Expr)(f:FE):Prop where of ::
 un:PE X e (tD X.kw f)
structure DA (X:Cx)(es:List Expr)(f:FA):Prop where of ::
 un:PA X es (i5 X.kw f)
structure DT (X:Cx)(e:Expr)(f:FT):Prop where of ::
 un:PT X e (kH X.kw f)
structure DW (X:Cx)(e:Expr)(f:FT):Prop where of ::
 un:PW X e (kH X.kw f)
theorem PE.imp {X:Cx}{e:Expr}{t t':TE}(h:PE X e t)(i:∀σ H Q,t' σ H Q->t σ H Q):PE X e t':=λpins s σ H Q I q=>h pins s σ H Q I (i σ H Q q)
theorem PT.imp {X:Cx}{e:Expr}{t t':TT}(h:PT X e t)(i:∀σ H Q,t' σ H Q->t σ H Q):PT X e t':=λpins s σ H Q I q=>h pins s σ H Q I (i σ H Q q)
theorem PW.imp {X:Cx}{e:Expr}{t t':TT}(h:PW X e t)(i:∀σ H Q,t' σ H Q->t σ H Q):PW X e t':=λw pins s σ H Q I q=>h w pins s σ H Q I (i σ H Q q)
theorem PA.imp {X:Cx}{e:List Expr}{t t':TA}(h:PA X e t)(i:∀σ H Q,t' σ H Q->t σ H Q):PA X e t':=λpos pins s σ H Q I q=>h pos pins s σ H Q I (i σ H Q q)
theorem gG.mono {K H ι H1 ι1 d g' Q}(e:Ext H ι H1 ι1)(p:gG K H ι d g' Q):gG K H1 ι1 d g' Q:=λc b v a r q=>p c b v (e.trans a) r q
theorem qA.mono {K H ι H1 ι1 g' Q}(e:Ext H ι H1 ι1)(p:qA K H ι g' Q):qA K H1 ι1 g' Q:=λa c b r=>p a c (e.trans b) r
theorem tD.bind {K f}{σ:L2.St}{H:Hp}{Q:VK}{ι σd g d g'}(G0:ax K H ι g)(S0:bN K H ι σd σ)(h:f σd g=some (d,g'))
  (k:∀H1 ι1 v,Ext H ι H1 ι1->ax K H1 ι1 g'->bN K H1 ι1 σd σ->Rel K H1 ι1 d v->Q v H1):tD K f σ H Q :=
 ⟨ι,σd,g,d,g',G0,S0,h,λb a v e r q=>k b a v e r (S0.ext e) q⟩
theorem i5.bind {K f}{σ:L2.St}{H:Hp}{Q:List V->Hp->Prop}{ι σd g d g'}(G0:ax K H ι g)(S0:bN K H ι σd σ)(h:f σd g=some (d,g'))
  (k:∀H1 ι1 v,Ext H ι H1 ι1->ax K H1 ι1 g'->bN K H1 ι1 σd σ->ag K H1 ι1 d v->Q v H1):i5 K f σ H Q :=
 ⟨ι,σd,g,d,g',G0,S0,h,λb a v e r q=>k b a v e r (S0.ext e) q⟩
theorem kH.bind {K f}{σ:L2.St}{H:Hp}{Q:Bool->Hp->Prop}{ι σd g d g'}(G0:ax K H ι g)(S0:bN K H ι σd σ)(h:f σd g=some (d,g'))
  (k:∀H1 ι1,Ext H ι H1 ι1->ax K H1 ι1 g'->bN K H1 ι1 σd σ->Q d H1):kH K f σ H Q :=
 ⟨ι,σd,g,d,g',G0,S0,h,λa b e r=>k a b e r (S0.ext e)⟩
section
variable {X:Cx}{a b c e:Expr}{es rest:List Expr}{pos:Pos}{fa fb fc:FE}{fr:FA}{ga gb:FT}
noncomputable def fC (d:D):FE:=λ_ g=>some (d,g)
noncomputable def af (i:Nat):FE:=λσ g=>match σ[i]? with|some (some d)=>some (d,g)|_=>none
theorem L8 {i j pos}:DE X (.Constant (.int i) j pos) (fC (.int i)):=.of (PE.imp KL λσ H Q h=>by
 obtain⟨ι,a,g,d,c,G0,b,h,p⟩:=h
 cases h;exact p H ι _ Ext.refl G0 (by simp[Rel]))
theorem L9 {i j pos}:DE X (.Constant (.str i) j pos) (fC (.str i)):=.of (PE.imp KO λσ H Q h=>by
 obtain⟨ι,a,g,d,c,G0,b,h,p⟩:=h
 cases h;exact p H ι _ Ext.refl G0 (by simp[Rel]))
theorem QE {i j pos}:DE X (.Constant (.bool i) j pos) (fC (.bl i)):=.of (PE.imp Qc λσ H Q h=>by
 obtain⟨ι,a,g,d,c,G0,b,h,p⟩:=h
 cases h;exact p H ι _ Ext.refl G0 (by simp[Rel]))
theorem L_ {j pos}:DE X (.Constant .none j pos) (fC .ay):=.of (PE.imp KN λσ H Q h=>by
 obtain⟨ι,a,g,d,c,G0,b,h,p⟩:=h
 cases h;exact p H ι _ Ext.refl G0 (by simp[Rel]))
theorem Ma (i:Nat){x:Str}{pos:Pos}(hN:X.N[i]? = some x:=by rfl)(hv:KG X.env.scope x:=by first|exact Or.inl rfl|exact Or.inr (Or.inl rfl)|exact Or.inr (Or.inr rfl))(hd:(x == ("__debug__":Str))=false:=by decide)
   (j3:(x == ("__classdict__":Str))=false:=by decide):DE X (.Name x pos) (af i):=.of (PE.imp (KJ hN hv hd j3) λσ H Q h=>by
 obtain⟨ι,j,g,d,g',G0,b,h,p⟩:=h
 unfold af at h
 split at h
 . rename_i a e
   obtain⟨rfl,rfl⟩:a=d/\g=g':=by cases h;exact⟨rfl,rfl⟩
   obtain⟨v,c,f⟩:=b.2 i _ e
   exact⟨v,c,p H ι v Ext.refl G0 f⟩
 . cases h)
theorem IY {x:Str}{v:V}{u:Value}{d:D}(hg:Gl X x)(hm:X.mg x=some u)(r:RelV v u)(rd:∀K H ι,Rel K H ι d v)(hd:(x == ("__debug__":Str))=false:=by decide):DE X (.Name x pos) (fC d):=.of (
 PE.imp (yd hg hm r hd) λσ H Q h=>by
  obtain⟨ι,a,g,d,c,G0,b,h,p⟩:=h
  cases h;exact p H ι _ Ext.refl G0 (rd _ _ _))
inductive cC (K:KW)(o:D->D->G->Option (D×G))(x:V)(y:V)(H:Hp)(Q:VK):Prop
 |mk (ι:Ix) (g:G) (d1:D) (d2:D) (d:D) (g':G) (h0:ax K H ι g) (h1:Rel K H ι d1 x) (h2:Rel K H ι d2 y) (h3:o d1 d2 g=some (d,g')) (h4:gG K H ι d g' Q):cC K o x y H Q
inductive Mb (K:KW)(o:D->G->Option (D×G))(x:V)(H:Hp)(Q:VK):Prop
 |mk (ι:Ix) (g:G) (d1:D) (d:D) (g':G) (h0:ax K H ι g) (h1:Rel K H ι d1 x) (h2:o d1 g=some (d,g')) (h3:gG K H ι d g' Q):Mb K o x H Q
inductive gX (K:KW)(o:List D->G->Option (D×G))(xs:List V)(H:Hp)(Q:VK):Prop
 |mk (ι:Ix) (g:G) (ds:List D) (d:D) (g':G) (h0:ax K H ι g) (h1:ag K H ι ds xs) (h2:o ds g=some (d,g')) (h3:gG K H ι d g' Q):gX K o xs H Q
noncomputable def aq (o:D->D->G->Option (D×G))(fa fb:FE):FE:=λσ g=>(fa σ g).bind λr=>(fb σ r.2).bind λq=>o r.1 q.1 q.2
noncomputable def vK (o:D->G->Option (D×G))(fa:FE):FE:=λσ g=>(fa σ g).bind λr=>o r.1 r.2
theorem bind_some {α β:Type}{x:Option α}{f:α->Option β}{b:β}(h:x.bind f=some b):∃a,x=some a/\f a=some b:=by
 cases x with
 |none=>cases h
 |some a=>exact⟨a,rfl,h⟩
theorem qB {K}{o:D->D->G->Option (D×G)}{σ:L2.St}{H:Hp}{Q:VK}(h:tD K (aq o fa fb) σ H Q):Bj (cC K o) (tD K fa) (tD K fb) σ H Q:=by
 obtain⟨ι,σd,g,d,s,G0,q,h,p⟩:=h
 obtain⟨⟨x,g1⟩,j,h⟩:=bind_some h
 obtain⟨⟨r,g2⟩,c,h⟩:=bind_some h
 refine tD.bind G0 q j λH1 ι1 v l f k n=>?_
 refine tD.bind f k c λy i u a e z b=>?_
 exact⟨i,g2,x,r,d,s,e,Rel.ext a _ n,b,h,p.mono (l.trans a)⟩
theorem jf {op:Operator}{o:D->D->G->Option (D×G)}(ho:aY X (abp op) (cC X.kw o))(ha:DE X a fa)(hb:DE X b fb):DE X (.BinOp a op b pos) (aq o fa fb):=.of (
 PE.imp (Qo ho ha.un hb.un) λσ H Q h=>qB h)
theorem BM {op:CmpOp}{o:D->D->G->Option (D×G)}(ho:aY X (aa8 op) (cC X.kw o))(ha:DE X a fa)(hb:DE X b fb)(hm:adA op b=false:=by first|exact Mc _|with_unfolding_all rfl):DE X (.Compare a [op] [b] pos) (aq o fa fb):=.of (
 PE.imp (Iz ho ha.un hb.un hm) λσ H Q h=>qB h)
theorem QF {op:UnaryOp}{o:D->G->Option (D×G)}(ho:Bi X (unaryOp op) (Mb X.kw o))(ha:DE X a fa):DE X (.UnaryOp op a pos) (vK o fa):=.of (
 PE.imp (Qp ho ha.un) λσ H Q h=>by
  obtain⟨ι,n,g,d,k,G0,j,h,p⟩:=h
  obtain⟨⟨l,g1⟩,c,h⟩:=bind_some h
  refine tD.bind G0 j c λH1 f v e b q i=>?_
  exact⟨f,g1,l,d,k,b,i,h,p.mono e⟩)
noncomputable def i6 (r:Option (D×G)):Option (Bool×G):=r.bind λr=>match r.1 with|.bl b=>some (b,r.2)|_=>none
theorem lD {r:Option (D×G)}{b:Bool}{g:G}(h:i6 r=some (b,g)):r=some (.bl b,g):=by
 obtain⟨⟨d,g1⟩,a,h⟩:=bind_some h
 cases d with
 |bl k=>cases h;exact a
 |_=>cases h
noncomputable def aN (f:FE):FT:=λσ g=>i6 (f σ g)
theorem vL {K f}{σ:L2.St}{H:Hp}{Q:Bool->Hp->Prop}(h:kH K (aN f) σ H Q):qp (tD K f) σ H Q:=by
 obtain⟨ι,n,g,b,q,G0,l,h,p⟩:=h
 obtain⟨⟨d,g1⟩,c,h⟩:=bind_some h
 cases d with
 |bl k =>
  cases h
  exact tD.bind G0 l c λH1 i v e a o j=>⟨b,by simpa[Rel]using j,p H1 i e a⟩
 |_=>cases h
theorem qD {t t':TE}(i:∀σ H Q,t' σ H Q->t σ H Q){σ:L2.St}{H:Hp}{Q:Bool->Hp->Prop}(h:qp t' σ H Q):qp t σ H Q:=i σ H _ h
theorem BN {op:CmpOp}{o:D->D->G->Option (D×G)}(ho:aY X (aa8 op) (cC X.kw o))(ha:DE X a fa)(hb:DE X b fb)(hm:adA op b=false:=by first|exact Mc _|with_unfolding_all rfl):DT X (.Compare a [op] [b] pos) (aN (aq o fa fb)):=.of (
 PT.imp (IA ho ha.un hb.un hm) λσ H Q h=>qD (λ_ _ _=>qB) (vL h))
noncomputable def gY (o o':D->D->G->Option (D×G))(fa fb fc:FE):FE:=λσ g=>(fa σ g).bind λr=>(fb σ r.2).bind λq=>(i6 (o r.1 q.1 q.2)).bind λk =>
 if k.1=true then(fc σ k.2).bind λw=>o' q.1 w.1 w.2 else some (.bl false,k.2)
theorem tZ {K}{o o':D->D->G->Option (D×G)}{σ:L2.St}{H:Hp}{Q:VK}(h:tD K (gY o o' fa fb fc) σ H Q):vo (cC K o) (cC K o') (tD K fa) (tD K fb) (tD K fc) σ H Q:=by
 obtain⟨ι,σd,g,d,g',G0,S0,h,p⟩:=h
 obtain⟨⟨d1,g1⟩,h1,h⟩:=bind_some h
 obtain⟨⟨l,g2⟩,r,h⟩:=bind_some h
 obtain⟨⟨k,g3⟩,a,h⟩:=bind_some h
 have a:=lD a
 refine tD.bind G0 S0 h1 λH1 ι1 v j G1 S1 r1=>?_
 refine tD.bind G1 S1 r λH2 ι2 u c x S2 f=>?_
 refine⟨ι2,g2,d1,l,_,g3,x,Rel.ext c _ r1,f,a,λn ι3 z b e r3=>⟨k,by simpa[Rel]using r3,?_⟩⟩
 clear a
 cases k with
 |true =>
  simp only[if_true]at h ⊢
  obtain⟨⟨q,g4⟩,h4,h⟩:=bind_some h
  refine tD.bind e (S2.ext b) h4 λH4 y w' i G4 S4 s=>?_
  exact⟨y,g4,l,q,d,g',G4,Rel.ext (b.trans i) _ f,s,h,p.mono (j.trans (c.trans (b.trans i)))⟩
 |false =>
  simp only[aaF,if_false]at h ⊢
  cases h
  exact p n ι3 _ (j.trans (c.trans b)) e (by simp[Rel])
theorem Eb {op b8:CmpOp}{o o':D->D->G->Option (D×G)}(ho:aY X (aa8 op) (cC X.kw o))(hZ:aY X (aa8 b8) (cC X.kw o'))(ha:DE X a fa)(hb:DE X b fb)(hc:DE X c fc)
  (hm:ag5 [op,b8] [b,c]=false:=by with_unfolding_all rfl):DE X (.Compare a [op,b8] [b,c] pos) (gY o o' fa fb fc):=.of (
 PE.imp (DU ho hZ ha.un hb.un hc.un hm) λσ H Q h=>tZ h)
theorem Ec {op b8:CmpOp}{o o':D->D->G->Option (D×G)}(ho:aY X (aa8 op) (cC X.kw o))(hZ:aY X (aa8 b8) (cC X.kw o'))(ha:DE X a fa)(hb:DE X b fb)(hc:DE X c fc)
  (hm:ag5 [op,b8] [b,c]=false:=by with_unfolding_all rfl):DT X (.Compare a [op,b8] [b,c] pos) (aN (gY o o' fa fb fc)):=.of (
 PT.imp (DV ho hZ ha.un hb.un hc.un hm) λσ H Q h=>qD (λ_ _ _=>tZ) (vL h))
noncomputable def ky (d:D)(g:G):Option Bool:=match d with
 |.ay=>some false
 |.bl b=>some b
 |.int i=>some (i != 0)
 |.tup xs=>some (!xs.isEmpty)
 |.lst xs=>some (!xs.isEmpty)
 |.de=>some false
 |.ref n=>match g[n]? with|some xs=>some (!xs.isEmpty)|none=>none
 |.str _=>none
 |.aG _=>none
 |.fn _=>none
noncomputable def cK (f:FE):FT:=λσ g=>(f σ g).bind λr=>(ky r.1 r.2).map λb=>(b,r.2)
theorem ag.isEmpty {K H ι}{ds:List D}{vs:List V}(h:ag K H ι ds vs):ds.isEmpty=vs.isEmpty:=by
 have:=h.length
 cases ds<;>cases vs<;>simp_all
theorem IZ {K H ι g d v b}(G0:ax K H ι g)(r:Rel K H ι d v)(h:ky d g=some b):DX K v H b:=by
 cases d with
 |ay=>simp only[Rel]at r;subst r;cases h;rfl
 |bl x=>simp only[Rel]at r;subst r;cases h;rfl
 |int x=>simp only[Rel]at r;subst r;cases h;rfl
 |str x=>cases h
 |tup xs =>
  simp only[Rel]at r;obtain⟨a,c,rfl,f,i⟩:=r;cases h
  exact .inr (.inl ⟨c,f.sq,by rw[i.isEmpty]⟩)
 |lst xs =>
  simp only[Rel]at r;obtain⟨a,c,rfl,f,i⟩:=r;cases h
  exact .inl ⟨c,f.sq,by rw[i.isEmpty]⟩
 |de =>
  simp only[Rel]at r;obtain⟨a,rfl,f,_⟩:=r;cases h
  exact .inr (.inr ⟨[],f,rfl⟩)
 |ref n =>
  simp only[Rel]at r;obtain⟨a,rfl,k⟩:=r
  simp only[ky]at h
  split at h
  . rename_i xs e
    cases h
    obtain⟨c,l,j⟩:=G0.at e k
    exact .inl ⟨c,.of l,by rw[j.isEmpty]⟩
  . cases h
 |aG n=>cases h
 |fn x=>cases h
theorem Md (ha:DE X a fa)(he:∀whole,isTrue a X.env whole=(do let v <- whole;age a.pos;adh [v] (truthy v)):=by intro _;rfl):DT X a (cK fa):=.of (
 PT.imp (DY ha.un he) λσ H Q h=>by
  obtain⟨ι,n,g,b,q,G0,l,h,p⟩:=h
  obtain⟨⟨d,g1⟩,e,h⟩:=bind_some h
  cases ht:ky d g1 with
  |none=>rw[ht]at h;cases h
  |some k =>
   rw[ht]at h;cases h
   exact tD.bind G0 l e λH1 i v f c o j=>⟨b,IZ c j ht,p H1 i f c⟩)
noncomputable def jI (ga gb:FT):FT:=λσ g=>(ga σ g).bind λr=>if r.1=true then gb σ r.2 else some (false,r.2)
noncomputable def kI (ga gb:FT):FT:=λσ g=>(ga σ g).bind λr=>if r.1=true then some (true,r.2)else gb σ r.2
noncomputable def dq (ga:FT):FT:=λσ g=>(ga σ g).bind λr=>some (!r.1,r.2)
theorem I0 (ha:DT X a ga):DW X (.BoolOp .And [a] pos) ga:=.of (Im ha.un)
theorem Me (ha:DT X a ga):DW X (.BoolOp .Or [a] pos) ga:=.of (KP ha.un)
theorem Mf (ha:DT X a ga)(hb:DW X (.BoolOp .And (b::rest) pos) gb):DW X (.BoolOp .And (a::b::rest) pos) (jI ga gb):=.of (
 PW.imp (KQ ha.un hb.un) λσ H Q h=>by
  obtain⟨ι,j,g,k,q,G0,o,h,p⟩:=h
  obtain⟨⟨l,g1⟩,i,h⟩:=bind_some h
  refine kH.bind G0 o i λH1 f e c n=>?_
  cases l with
  |true=>simp only[if_true]at h ⊢;exact⟨f,j,g1,k,q,c,n,h,p.mono e⟩
  |false=>simp only[aaF,if_false]at h ⊢;cases h;exact p H1 f e c)
theorem QG (ha:DT X a ga)(hb:DW X (.BoolOp .Or (b::rest) pos) gb):DW X (.BoolOp .Or (a::b::rest) pos) (kI ga gb):=.of (
 PW.imp (Qd ha.un hb.un) λσ H Q h=>by
  obtain⟨ι,j,g,k,q,G0,o,h,p⟩:=h
  obtain⟨⟨l,g1⟩,i,h⟩:=bind_some h
  refine kH.bind G0 o i λH1 f e c n=>?_
  cases l with
  |false=>simp only[aaF,if_false]at h ⊢;exact⟨f,j,g1,k,q,c,n,h,p.mono e⟩
  |true=>simp only[if_true]at h ⊢;cases h;exact p H1 f e c)
theorem DW.dt (h:DW X a ga):DT X a ga:=.of (PW.pt h.un)
theorem Mg (ha:DT X a ga):DT X (.UnaryOp .Not a pos) (dq ga):=.of (
 PT.imp (KR ha.un) λσ H Q h=>by
  obtain⟨ι,j,g,k,o,G0,i,h,p⟩:=h
  obtain⟨⟨l,g1⟩,c,h⟩:=bind_some h
  cases h
  exact kH.bind G0 i c λH1 f e b n=>p H1 f e b)
noncomputable def eG (fa fb:FE):FE:=λσ g=>(i6 (fa σ g)).bind λr=>if r.1=true then fb σ r.2 else some (.bl false,r.2)
noncomputable def se (fa fb:FE):FE:=λσ g=>(i6 (fa σ g)).bind λr=>if r.1=true then some (.bl true,r.2)else fb σ r.2
noncomputable def om (fa:FE):FE:=λσ g=>(i6 (fa σ g)).bind λr=>some (.bl (!r.1),r.2)
theorem Mh {op}(h:DE X a fa):DE X (.BoolOp op [a] pos) fa:=.of (KS h.un)
theorem BO (ha:DE X a fa)(hb:DE X (.BoolOp .And (b::rest) pos) fb):DE X (.BoolOp .And (a::b::rest) pos) (eG fa fb):=.of (
 PE.imp (KU ha.un hb.un) λσ H Q h=>by
  obtain⟨ι,k,g,d,q,G0,o,h,p⟩:=h
  obtain⟨⟨f,g1⟩,c,h⟩:=bind_some h
  have c:=lD c
  refine tD.bind G0 o c λH1 j v i e l n=>⟨f,by simpa[Rel]using n,?_⟩
  cases f with
  |true=>simp only[if_true]at h ⊢;exact⟨j,k,g1,d,q,e,l,h,p.mono i⟩
  |false=>simp only[aaF,if_false]at h ⊢;cases h;exact p H1 j _ i e (by simp[Rel]))
theorem F8 (ha:DE X a fa)(hb:DE X (.BoolOp .Or (b::rest) pos) fb):DE X (.BoolOp .Or (a::b::rest) pos) (se fa fb):=.of (
 PE.imp (Qg ha.un hb.un) λσ H Q h=>by
  obtain⟨ι,k,g,d,q,G0,o,h,p⟩:=h
  obtain⟨⟨f,g1⟩,c,h⟩:=bind_some h
  have c:=lD c
  refine tD.bind G0 o c λH1 j v i e l n=>⟨f,by simpa[Rel]using n,?_⟩
  cases f with
  |false=>simp only[aaF,if_false]at h ⊢;exact⟨j,k,g1,d,q,e,l,h,p.mono i⟩
  |true=>simp only[if_true]at h ⊢;cases h;exact p H1 j _ i e (by simp[Rel]))
theorem Mi (ha:DE X a fa):DE X (.UnaryOp .Not a pos) (om fa):=.of (
 PE.imp (KY ha.un) λσ H Q h=>by
  obtain⟨ι,l,g,d,o,G0,k,h,p⟩:=h
  obtain⟨⟨e,g1⟩,b,h⟩:=bind_some h
  have b:=lD b
  cases h
  exact tD.bind G0 k b λH1 i v f c n j=>⟨e,by simpa[Rel]using j,p H1 i _ f c (by simp[Rel])⟩)
noncomputable def z6 (ga:FT)(fa fb:FE):FE:=λσ g=>(ga σ g).bind λr=>if r.1=true then fa σ r.2 else fb σ r.2
theorem Mj (hc:DT X c ga)(ha:DE X a fa)(hb:DE X b fb):DE X (.IfExp c a b pos) (z6 ga fa fb):=.of (
 PE.imp (DF hc.un ha.un hb.un) λσ H Q h=>by
  obtain⟨ι,f,g,d,l,G0,q,h,p⟩:=h
  obtain⟨⟨o,g1⟩,n,h⟩:=bind_some h
  refine kH.bind G0 q n λH1 k j e i=>?_
  cases o with
  |true=>simp only[if_true]at h ⊢;exact⟨k,f,g1,d,l,e,i,h,p.mono j⟩
  |false=>simp only[aaF,if_false]at h ⊢;exact⟨k,f,g1,d,l,e,i,h,p.mono j⟩)
noncomputable def aj:FA:=λ_ g=>some ([],g)
noncomputable def aa (fa:FE)(fr:FA):FA:=λσ g=>(fa σ g).bind λr=>(fr σ r.2).bind λq=>some (r.1::q.1,q.2)
theorem BP:DA X [] aj:=.of (PA.imp qr λσ H Q h=>by
 obtain⟨ι,a,g,d,c,G0,b,h,p⟩:=h
 cases h;exact p H ι _ Ext.refl G0 (by simp[ag]))
theorem sf (ha:DE X e fa)(hr:DA X es fr)(hs:aaZ (e::es) X.env=(false,eval e X.env)::aaZ es X.env:=by rfl):DA X (e::es) (aa fa fr):=.of (
 PA.imp (kF ha.un hr.un hs) λσ H Q h=>by
  obtain⟨ι,x,g,d,g',G0,r,h,p⟩:=h
  obtain⟨⟨d1,g1⟩,l,h⟩:=bind_some h
  obtain⟨⟨z,g2⟩,c,h⟩:=bind_some h
  cases h
  refine tD.bind G0 r l λH1 y v o i n q=>?_
  refine i5.bind i n c λj k u a f s b=>?_
  refine p j k _ (o.trans a) f ?_
  simp only[ag]
  exact⟨_,_,rfl,Rel.ext a _ q,b⟩)
noncomputable def az (n:Nat):Bool:=decide (n<=16777216)
theorem az.le {n:Nat}(h:az n=true):n<=aaP:=by rw[acr];exact of_decide_eq_true h
noncomputable def aH (ds:List D)(g:G):Option (D×G):=if az ds.length=true then some (.tup ds,g)else none
noncomputable def cS (ds:List D)(g:G):Option (D×G):=if az ds.length=true then some (.lst ds,g)else none
noncomputable def mkRef (ds:List D)(g:G):Option (D×G):=if az ds.length=true then some (.ref g.length,g ++ [ds])else none
theorem Ed {K H ι g ds vs d g' Q}(G0:ax K H ι g)(r:ag K H ι ds vs)(h:aH ds g=some (d,g'))(p:gG K H ι d g' Q):vs.length<=aaP /\ ∀q,H q=none->Q (.ref q) (upd H q (.tup vs)):=by
 unfold aH at h
 split at h
 . rename_i z
   cases h
   refine⟨by rw[<- r.length];exact az.le z,λq a=>p _ _ _ (Ext.lay a) (G0.lay a) ?_⟩
   simp only[Rel]
   exact⟨q,vs,rfl,.inl ⟨.inl bw,G0.fresh a⟩,ag.ext (Ext.lay a) _ r⟩
 . cases h
theorem Ee {K H ι g ds vs d g' Q}(G0:ax K H ι g)(r:ag K H ι ds vs)(h:cS ds g=some (d,g'))(p:gG K H ι d g' Q):vs.length<=aaP /\ ∀q,H q=none->Q (.ref q) (upd H q (.lst vs)):=by
 unfold cS at h
 split at h
 . rename_i z
   cases h
   refine⟨by rw[<- r.length];exact az.le z,λq a=>p _ _ _ (Ext.lay a) (G0.lay a) ?_⟩
   simp only[Rel]
   exact⟨q,vs,rfl,.inl ⟨.inl bw,G0.fresh a,G0.iJ a⟩,ag.ext (Ext.lay a) _ r⟩
 . cases h
theorem Ef {K H ι g ds vs d g' Q}(G0:ax K H ι g)(r:ag K H ι ds vs)(h:mkRef ds g=some (d,g'))(p:gG K H ι d g' Q):vs.length<=aaP /\ ∀q,H q=none->Q (.ref q) (upd H q (.lst vs)):=by
 unfold mkRef at h
 split at h
 . rename_i z
   cases h
   refine⟨by rw[<- r.length];exact az.le z,λq a=>p _ _ _ (Ext.push a) (G0.push a r) ?_⟩
   simp only[Rel]
   exact⟨q,rfl,dk.new G0.len⟩
 . cases h
noncomputable def aL (m:List D->G->Option (D×G))(fr:FA):FE:=λσ g=>(fr σ g).bind λr=>m r.1 r.2
theorem BQ {x1}(h:DA X es fr):DE X (.Tuple es x1 pos) (aL aH fr):=.of (PE.imp (Lp h.un) λσ H Q h=>by
 obtain⟨ι,i,g,d,l,G0,f,h,p⟩:=h
 obtain⟨⟨n,g1⟩,b,h⟩:=bind_some h
 exact i5.bind G0 f b λH1 k v c a j e=>Ed a e h (p.mono c))
theorem Ml (h:DA X es fr):DE X (.List es pos) (aL cS fr):=.of (PE.imp (Bo h.un) λσ H Q h=>by
 obtain⟨ι,i,g,d,l,G0,f,h,p⟩:=h
 obtain⟨⟨n,g1⟩,b,h⟩:=bind_some h
 exact i5.bind G0 f b λH1 k v c a j e=>Ee a e h (p.mono c))
theorem BR (h:DA X es fr):DE X (.List es pos) (aL mkRef fr):=.of (PE.imp (Bo h.un) λσ H Q h=>by
 obtain⟨ι,i,g,d,l,G0,f,h,p⟩:=h
 obtain⟨⟨n,g1⟩,b,h⟩:=bind_some h
 exact i5.bind G0 f b λH1 k v c a j e=>Ef a e h (p.mono c))
end
inductive F where
 |nx|rt (d:D)|bk|ct
abbrev FS:=Sg->G->Option (F×Sg×G)
noncomputable def uL (K:KW)(H:Hp)(ι:Ix)(r:F)(b4:Sg)(g':G)(Dn:Ends):Prop :=
 ∀H' ι',Ext H ι H' ι'->ax K H' ι' g'->match r with
  |.nx=>∀σ',bN K H' ι' b4 σ'->Dn.nx σ' H'
  |.bk=>∀σ',bN K H' ι' b4 σ'->Dn.bk σ' H'
  |.ct=>∀σ',bN K H' ι' b4 σ'->Dn.ct σ' H'
  |.rt d=>∀v,Rel K H' ι' d v->Dn.rt v H'
inductive F9 (K:KW)(f:FS)(Dn:Ends)(σ:L2.St)(H:Hp):Prop
 |mk (ι:Ix) (σd:Sg) (g:G) (r:F) (b4:Sg) (g':G) (h0:ax K H ι g) (h1:bN K H ι σd σ) (h2:f σd g=some (r,b4,g')) (h3:uL K H ι r b4 g' Dn):F9 K f Dn σ H
structure DS (X:Cx)(st:Stmt)(f:FS):Prop where of ::
 un:PS X st (F9 X.kw f)
structure j8 (X:Cx)(pC:List Stmt)(f:FS):Prop where of ::
 un:gR X pC (F9 X.kw f)
theorem PS.imp {X:Cx}{e:Stmt}{t t':TS}(h:PS X e t)(i:∀Dn σ H,t' Dn σ H->t Dn σ H):PS X e t':=λpins s σ H Q I q=>h pins s σ H Q I (i Q σ H q)
theorem gR.imp {X:Cx}{e:List Stmt}{t t':TS}(h:gR X e t)(i:∀Dn σ H,t' Dn σ H->t Dn σ H):gR X e t':=λpins s σ H Q I q=>h pins s σ H Q I (i Q σ H q)
theorem uL.mono {K H ι H1 ι1 r b4 g' Dn}(e:Ext H ι H1 ι1)(p:uL K H ι r b4 g' Dn):uL K H1 ι1 r b4 g' Dn:=λb f c a=>p b f (e.trans c) a
noncomputable def bp:FS:=λσ g=>some (.nx,σ,g)
noncomputable def aD (f1 f2:FS):FS:=λσ g=>(f1 σ g).bind λr=>match r.1 with|.nx=>f2 r.2.1 r.2.2|_=>some r
noncomputable def aU (f:FE):FS:=λσ g=>(f σ g).bind λr=>some (.rt r.1,σ,r.2)
noncomputable def Eg:FS:=λσ g=>some (.ct,σ,g)
noncomputable def fu (f:FE):FS:=λσ g=>(f σ g).bind λr=>some (.nx,σ,r.2)
noncomputable def cA (c:FT)(f1 f2:FS):FS:=λσ g=>(c σ g).bind λr=>if r.1=true then f1 σ r.2 else f2 σ r.2
section
variable {X:Cx}{st:Stmt}{rest:List Stmt}{f1 f2:FS}{e:Expr}{fe:FE}{pos:Pos}{gc:FT}
theorem I_:j8 X [] bp:=.of (gR.imp Io λb σ H h=>by
 obtain⟨ι,c,g,r,f,e,G0,a,h,p⟩:=h
 cases h
 exact p H ι Ext.refl G0 σ a)
theorem Eh (h1:DS X st f1)(h2:j8 X rest f2):j8 X (st::rest) (aD f1 f2):=.of (gR.imp (DH h1.un h2.un) λq σ H h=>by
 obtain⟨ι,j,g,r,i,n,G0,l,h,p⟩:=h
 obtain⟨⟨f,e,g1⟩,h1,h⟩:=bind_some h
 refine⟨ι,j,g,f,e,g1,G0,l,h1,λH1 c b a=>?_⟩
 cases f with
 |nx=>exact λo k=>⟨c,e,g1,r,i,n,a,k,h,p.mono b⟩
 |bk=>cases h;exact p H1 c b a
 |ct=>cases h;exact p H1 c b a
 |rt d=>cases h;exact p H1 c b a)
theorem Ja (h1:DS X st f1):j8 X [st] f1:=.of (Ip h1.un)
theorem Jb:DS X (.Pass pos) bp:=.of (PS.imp Iq λb σ H h=>by
 obtain⟨ι,c,g,r,f,e,G0,a,h,p⟩:=h
 cases h
 exact p H ι Ext.refl G0 σ a)
theorem Mm:DS X (.Continue pos) Eg:=.of (PS.imp xV λb σ H h=>by
 obtain⟨ι,c,g,r,f,e,G0,a,h,p⟩:=h
 cases h
 exact p H ι Ext.refl G0 σ a)
theorem Mn (he:DE X e fe):DS X (.Return (some e) pos) (aU fe):=.of (PS.imp (K1 he.un) λl σ H h=>by
 obtain⟨ι,n,g,r,k,q,G0,j,h,p⟩:=h
 obtain⟨⟨s,g1⟩,b,h⟩:=bind_some h
 cases h
 exact tD.bind G0 j b λH1 f v c a o i=>p H1 f c a v i)
theorem Jc (he:DE X e fe)(hs:adW e none pos.line X.env=pure false:=by rfl):DS X (.Expr e pos) (fu fe):=.of (PS.imp (Ir he.un hs) λl σ H h=>by
 obtain⟨ι,n,g,r,k,q,G0,j,h,p⟩:=h
 obtain⟨⟨s,g1⟩,b,h⟩:=bind_some h
 cases h
 exact tD.bind G0 j b λH1 i v f a c o=>p H1 i f a σ c)
theorem Mp {x j pos pos'}:DS X (.Expr (.Constant (.str x) j pos) pos') bp:=.of (PS.imp K0 λb σ H h=>by
 obtain⟨ι,c,g,r,f,e,G0,a,h,p⟩:=h
 cases h
 exact p H ι Ext.refl G0 σ a)
theorem QH {c:Expr}{a b:List Stmt}(hc:DT X c gc)(ha:j8 X a f1)(hb:j8 X b f2):DS X (.If c a b pos) (cA gc f1 f2):=.of (PS.imp (Qj hc.un ha.un hb.un) λu σ H h=>by
 obtain⟨ι,i,g,r,e,o,G0,s,h,p⟩:=h
 obtain⟨⟨k,g1⟩,q,h⟩:=bind_some h
 refine kH.bind G0 s q λH1 n l f j=>?_
 cases k with
 |true=>simp only[if_true]at h ⊢;exact⟨n,i,g1,r,e,o,f,j,h,p.mono l⟩
 |false=>simp only[aaF,if_false]at h ⊢;exact⟨n,i,g1,r,e,o,f,j,h,p.mono l⟩)
abbrev FG:=D->Sg->G->Option (Sg×G)
abbrev pD:=List D->Sg->G->Option (Sg×G)
inductive Mq (K:KW)(f:FG)(v:V)(σ:L2.St)(H:Hp)(Q:(L2.St->Hp->Prop)):Prop
 |mk (ι:Ix) (σd:Sg) (g:G) (d:D) (b4:Sg) (g':G) (h0:ax K H ι g) (h1:bN K H ι σd σ) (h2:Rel K H ι d v) (h3:f d σd g=some (b4,g')) (h4:∀H' ι' σ',Ext H ι H' ι'->ax K H' ι' g'->bN K H' ι' b4 σ'->Q σ' H'):Mq K f v σ H Q
inductive Mr (K:KW)(f:pD)(v:List V)(σ:L2.St)(H:Hp)(Q:(L2.St->Hp->Prop)):Prop
 |mk (ι:Ix) (σd:Sg) (g:G) (d:List D) (b4:Sg) (g':G) (h0:ax K H ι g) (h1:bN K H ι σd σ) (h2:ag K H ι d v) (h3:f d σd g=some (b4,g')) (h4:∀H' ι' σ',Ext H ι H' ι'->ax K H' ι' g'->bN K H' ι' b4 σ'->Q σ' H'):Mr K f v σ H Q
structure DG (X:Cx)(tg:Expr)(f:FG):Prop where of ::
 un:PG X tg (Mq X.kw f)
structure BS (X:Cx)(tg:List Expr)(f:pD):Prop where of ::
 un:pe X tg (Mr X.kw f)
theorem PG.imp {X:Cx}{e:Expr}{t t':TG}(h:PG X e t)(i:∀v σ H Q,t' v σ H Q->t v σ H Q):PG X e t':=λpins s σ H v u Q I r q=>h pins s σ H v u Q I r (i v σ H Q q)
theorem pe.imp {X:Cx}{e:List Expr}{t t':tK}(h:pe X e t)(i:∀v σ H Q,t' v σ H Q->t v σ H Q):pe X e t':=λpins s σ H v u Q I r q=>h pins s σ H v u Q I r (i v σ H Q q)
noncomputable def gN (i:Nat):FG:=λd σ g=>some (σ.set i (some d),g)
theorem bN.set {K H ι σd σ d v}(S:bN K H ι σd σ)(r:Rel K H ι d v)(i:Nat):bN K H ι (σd.set i (some d)) (σ.set i (some v)):=by
 refine⟨by simp[S.1],λj b q=>?_⟩
 by_cases e:i=j
 . subst e
   have a:i < σd.length:=by
    by_cases a:i < σd.length
    . exact a
    . rw[aec.mpr (by simpa using a)]at q;cases q
   rw[ab5 a]at q
   cases q
   exact⟨v,by rw[ab5 (by rw[<- S.1];exact a)],r⟩
 . rw[aaU e]at q ⊢
   exact S.2 j b q
theorem yH {i:Nat}{x:Str}(hN:X.N.Nodup)(hi:X.N[i]? = some x)(hx:Loc X.env.scope x)(hf:X.fn x=true\/X.env.scope.names.lookup x=some .local:=by first|exact .inl rfl|exact .inr rfl|assumption):DG X (.Name x pos) (gN i):=.of (
 PG.imp (Iu hN hi hx hf) λv σ H Q h=>by
  obtain⟨ι,b,g,d,e,c,G0,a,r,h,p⟩:=h
  cases h
  exact p H ι _ Ext.refl G0 (a.set r i))
noncomputable def aV:pD:=λds σ g=>match ds with| []=>some (σ,g)|_=>none
noncomputable def aw (t:FG)(u:pD):pD:=λds σ g=>match ds with|d::r=>(t d σ g).bind λq=>u r q.1 q.2| []=>none
theorem Jd:BS X [] aV:=.of (pe.imp Iv λv σ H Q h=>by
 obtain⟨ι,b,g,d,e,c,G0,a,r,h,p⟩:=h
 cases d with
 |nil=>cases h;simp only[ag]at r;exact⟨r,p H ι _ Ext.refl G0 a⟩
 |cons _ _=>cases h)
theorem Ei {e:Expr}{es:List Expr}{t:FG}{u:pD}(h1:DG X e t)(h2:BS X es u)
  (hs:(ab2 (e::es) X.env).map (·.2)=ad3 e X.env::(ab2 es X.env).map (·.2):=by rfl):BS X (e::es) (aw t u):=.of (pe.imp (DM h1.un h2.un hs) λv σ H Q h=>by
 obtain⟨ι,x,g,d,j,g',G0,S0,r,h,p⟩:=h
 cases d with
 |nil=>cases h
 |cons d ds =>
  simp only[ag]at r
  obtain⟨v0,i,rfl,q,z⟩:=r
  obtain⟨⟨a,g1⟩,h1,h⟩:=bind_some h
  exact⟨v0,i,rfl,ι,x,g,d,a,g1,G0,S0,q,h1,λH1 ι1 σ' b k y=>⟨ι1,a,g1,ds,j,g',k,y,ag.ext b _ z,h,λl n s c f o=>p l n s (b.trans c) f o⟩⟩)
noncomputable def gT (n:Nat)(t:pD):FG:=λd σ g=>match d with|.tup xs=>if xs.length=n then t xs σ g else none|_=>none
theorem Ms {es:List Expr}{k:Nat}{t:pD}{n:Nat}(hc:X.calm=true)(h:BS X es t)
  (hn:(ab2 es X.env).length=n:=by rfl) (ck:(ab2 es X.env).findIdx? (·.1)=none:=by rfl):DG X (.Tuple es k pos) (gT n t):=.of (PG.imp (K2 hc h.un hn ck) λv σ H Q h=>by
 obtain⟨ι,f,g,d,e,l,G0,j,r,h,p⟩:=h
 cases d with
 |tup xs =>
  simp only[Rel]at r
  obtain⟨a,i,rfl,c,b⟩:=r
  simp only[gT]at h
  split at h
  . rename_i z
    exact⟨a,i,rfl,c.sq,by rw[<- b.length];exact z,ι,f,g,xs,e,l,G0,j,b,h,p⟩
  . cases h
 |_=>cases h)
noncomputable def aM (f:FE)(t:FG):FS:=λσ g=>(f σ g).bind λr=>(t r.1 σ r.2).bind λq=>some (.nx,q.1,q.2)
theorem Je {K t}{fe:FE}{Dn σ H}(h:F9 K (aM fe t) Dn σ H):DN (tD K fe) (Mq K t) Dn σ H:=by
 obtain⟨ι,o,g,r,b4,g',G0,y,h,p⟩:=h
 obtain⟨⟨z,g1⟩,l,h⟩:=bind_some h
 obtain⟨⟨i,g2⟩,a,h⟩:=bind_some h
 cases h
 exact tD.bind G0 y l λH1 u v s f q x=>⟨u,o,g1,z,i,g2,f,q,x,a,λj k b c e n=>p j k (s.trans c) e b n⟩
theorem vM {tg:Expr}{t:FG}(he:DE X e fe)(hg:DG X tg t)(hs:ad4 [tg] e pos.line X.env=pure false:=by rfl)(hw:adz [tg] e X.env=pure none:=by rfl)
 (h1:(ab2 [tg] X.env).map (·.2)= [ad3 tg X.env]:=by rfl):DS X (.Assign [tg] e pos) (aM fe t):=.of (PS.imp (K4 he.un hg.un hs hw h1) λa σ H h=>Je h)
theorem BU {i:Nat}{x:Str}{pos':Pos}(hN:X.N.Nodup)(hi:X.N[i]? = some x)(hx:Loc X.env.scope x)(he:DE X e fe)(hs:adW e (some (.Name x pos')) pos.line X.env=pure false:=by rfl)(hf:X.fn x=true\/X.env.scope.names.lookup x=some .local:=by first|exact .inl rfl|exact .inr rfl|assumption):
  DS X (.Assign [.Name x pos'] e pos) (aM fe (gN i)):=.of (PS.imp (K5 hN hi hx he.un hs hf) λo σ H h=>by
 obtain⟨ι,q,g,r,n,s,G0,l,h,p⟩:=h
 obtain⟨⟨u,g1⟩,b,h⟩:=bind_some h
 cases h
 exact tD.bind G0 l b λH1 j v f a c k=>p H1 j f a _ (c.set k i))
noncomputable def putD (o i v:D)(g:G):Option G:=match o,i with
 |.ref n,.int k=>match g[n]? with
  |some xs=>match kG xs.length k with
   |some j=>some (g.set n (xs.set j v))
   |none=>none
  |none=>none
 |_,_=>none
end
abbrev FI:=Sg->G->Option (List D×G)
structure i7 (H:Hp)(ι:Ix)(H':Hp)(ι':Ix):Prop where
 same:∀a o,H a=some o->a ∉ ι.ix->H' a=some o
 there:∀a,H a≠none->H' a≠none
 more:∃m,ι'.ix=ι.ix++m /\ ∀a∈m,H a=none
 cN:∃hs,ι'.hd=hs++ι.hd /\ ∀b∈hs,H b=none
 mC:∀i,i < ι.ix.length->ι'.kd i=ι.kd i
theorem Ext.fH {H ι H1 ι1}(e:Ext H ι H1 ι1):i7 H ι H1 ι1:=⟨e.same,e.there,e.more,⟨[],e.cN,λ_ z=>by simp at z⟩,e.mC⟩
theorem i7.old {H ι H1 ι1}(a:i7 H ι H1 ι1){c:Addr}{o:HO}(h:H c=some o)(n:c ∉ ι.ix):c ∉ ι1.ix:=λz=>by
 obtain⟨e,b,f1⟩:=a.more
 rw[b]at z
 rcases aaE.mp z with z|z
 . exact n z
 . rw[f1 c z]at h;cases h
theorem i7.Mt {H ι H1 ι1}(a:i7 H ι H1 ι1){c:Addr}{o:HO}(h:H c=some o)(n:c ∉ ι.hd):c ∉ ι1.hd:=λz=>by
 obtain⟨e,b,f1⟩:=a.cN
 rw[b]at z
 rcases aaE.mp z with z|z
 . rw[f1 c z]at h;cases h
 . exact n z
theorem i7.at {H ι H1 ι1}(a:i7 H ι H1 ι1){i:Nat}{c:Addr}{b:Bool}(h:dk ι i c b):dk ι1 i c b:=by
 obtain⟨j,f,_⟩:=a.more
 have e:=(aaB.mp h.1).1
 refine⟨?_,by rw[a.mC i e];exact h.2⟩
 rw[f,aaS e];exact h.1
theorem j7.fH {K H ι H1 ι1 a xs}(e:i7 H ι H1 ι1)(h:j7 K H ι a xs):j7 K H1 ι1 a xs:=by
 rcases h with⟨h|⟨o,h⟩,n,k⟩|h
 . exact .inl ⟨.inl (e.same _ _ h n),e.old h n,e.Mt h k⟩
 . exact .inl ⟨.inr ⟨o,e.same _ _ h n⟩,e.old h n,e.Mt h k⟩
 . exact .inr h
theorem jH.fH {K H ι H1 ι1 a xs}(e:i7 H ι H1 ι1)(h:jH K H ι a xs):jH K H1 ι1 a xs:=by
 rcases h with⟨h|⟨o,h⟩,n⟩|h
 . exact .inl ⟨.inl (e.same _ _ h n),e.old h n⟩
 . exact .inl ⟨.inr ⟨o,e.same _ _ h n⟩,e.old h n⟩
 . exact .inr h
mutual
theorem Rel.fH {K H ι H1 ι1}(e:i7 H ι H1 ι1):∀(d:D) {v:V},Rel K H ι d v->Rel K H1 ι1 d v
 |.ay,v,h=>by simpa[Rel]using h
 |.bl _,v,h=>by simpa[Rel]using h
 |.int _,v,h=>by simpa[Rel]using h
 |.str _,v,h=>by simpa[Rel]using h
 |.tup xs,v,h=>by
  simp only[Rel]at h ⊢
  obtain⟨a,i,c,b,f⟩:=h
  exact⟨a,i,c,b.fH e,ag.fH e xs f⟩
 |.lst xs,v,h=>by
  simp only[Rel]at h ⊢
  obtain⟨a,i,c,b,f⟩:=h
  exact⟨a,i,c,b.fH e,ag.fH e xs f⟩
 |.de,v,h=>by
  simp only[Rel]at h ⊢
  obtain⟨a,c,b,f⟩:=h
  exact⟨a,c,e.same _ _ b f,e.old b f⟩
 |.ref n,v,h=>by
  simp only[Rel]at h ⊢
  obtain⟨a,c,b⟩:=h
  exact⟨a,c,e.at b⟩
 |.aG n,v,h=>by
  simp only[Rel]at h ⊢
  obtain⟨a,c,b⟩:=h
  exact⟨a,c,e.at b⟩
 |.fn x,v,h=>by simpa[Rel]using h
theorem ag.fH {K H ι H1 ι1}(e:i7 H ι H1 ι1):∀(ds:List D) {vs:List V},ag K H ι ds vs->ag K H1 ι1 ds vs
 | [],vs,h=>by simpa[ag]using h
 |d::ds,vs,h=>by
  simp only[ag]at h ⊢
  obtain⟨v,b,f,a,c⟩:=h
  exact⟨v,b,f,Rel.fH e d a,ag.fH e ds c⟩
end
noncomputable def lE (K:KW)(J:It)(H:Hp)(ι:Ix)(ds:List D):Prop :=
 ∀(i:Nat) H1 ι1 g1,i7 H ι H1 ι1->ax K H1 ι1 g1->(ds.length<=i->J.stop i H1) /\ ∀d,ds[i]? = some d->J.go i H1 /\ ∀x H2,J.yg i H1 x H2->Ext H1 ι1 H2 ι1/\ax K H2 ι1 g1/\Rel K H2 ι1 d x
inductive RQ (K:KW)(f:FI)(σ:L2.St)(H:Hp)(R:(It->Hp->Prop)):Prop
 |mk (ι:Ix) (σd:Sg) (g:G) (ds:List D) (g':G) (h0:ax K H ι g) (h1:bN K H ι σd σ) (h2:f σd g=some (ds,g')) (h3:∀H' ι' J,Ext H ι H' ι'->ax K H' ι' g'->lE K J H' ι' ds->R J H'):RQ K f σ H R
structure DI (X:Cx)(tg iter:Expr)(f:FI):Prop where of ::
 un:PI X tg iter (RQ X.kw f)
theorem PI.imp {X:Cx}{tg e:Expr}{t t':TI}(h:PI X tg e t)(i:∀σ H Q,t' σ H Q->t σ H Q):PI X tg e t':=λpins s σ H Q I q=>h pins s σ H Q I (i σ H Q q)
theorem lE.lst {K H ι a vs ds}(hq:j7 K H ι a vs)(hr:ag K H ι ds vs):lE K (FX K a) H ι ds:=λi H1 j g1 b f =>
 ⟨λh=>⟨vs,(hq.fH b).sq,by rw[<- hr.length];exact h⟩,λd hd=>by
  obtain⟨v,c,e⟩:=(ag.fH b _ hr).get hd
  refine⟨⟨vs,v,(hq.fH b).sq,c⟩,λx k y=>?_⟩
  obtain⟨rfl,y⟩:=y
  have:=y vs (hq.fH b).sq
  rw[c]at this;cases this
  exact⟨Ext.refl,f,e⟩⟩
theorem lE.Uz {K H ι a vs ds}(hq:jH K H ι a vs)(hr:ag K H ι ds vs):lE K (K9 K a) H ι ds:=λi H1 j g1 b f =>
 ⟨λh=>⟨vs,(hq.fH b).sq,by rw[<- hr.length];exact h⟩,λd hd=>by
  obtain⟨v,c,e⟩:=(ag.fH b _ hr).get hd
  refine⟨⟨vs,v,(hq.fH b).sq,c⟩,λx k y=>?_⟩
  obtain⟨rfl,y⟩:=y
  have:=y vs (hq.fH b).sq
  rw[c]at this;cases this
  exact⟨Ext.refl,f,e⟩⟩
theorem lE.et {K H ι}{lo:Int}{n:Nat}:lE K (Bd lo n) H ι ((aaz n).map λ(k:Nat)=>D.int (lo+k)):=λi H1 f g1 j b =>
 ⟨λc=>(by show n<=i;simpa using c),λd hd=>by
  have a:i<n:=by
   have:=(aaB.mp hd).1
   simpa using this
  refine⟨a,λx h y=>?_⟩
  obtain⟨rfl,rfl⟩:=y
  have e:d=D.int (lo+i):=by simpa[abE,agT a]using hd.symm
  subst e
  exact⟨Ext.refl,b,by simp[Rel]⟩⟩
section
variable {X:Cx}{tg l a b:Expr}{fe:FE}{fr:FA}{pos p:Pos}
noncomputable def uM (f:FE):FI:=λσ g=>(f σ g).bind λr=>match r.1 with|.tup xs=>some (xs,r.2)|_=>none
noncomputable def uN (f:FE):FI:=λσ g=>(f σ g).bind λr=>match r.1 with|.lst xs=>some (xs,r.2)|_=>none
theorem Mu (hl:DE X l fe):DI X tg l (uM fe):=.of (PI.imp (K_ hl.un) λσ H Q h=>by
 obtain⟨ι,r,g,ds,u,G0,o,h,p⟩:=h
 obtain⟨⟨q,g1⟩,i,h⟩:=bind_some h
 cases q with
 |tup xs =>
  cases h
  refine tD.bind G0 o i λH1 k v j f s c=>?_
  simp only[Rel]at c
  obtain⟨a,n,rfl,b,e⟩:=c
  exact⟨a,rfl,⟨n,b.sq⟩,p H1 k _ j f (.Uz b e)⟩
 |_=>cases h)
theorem Mv (hl:DE X l fe):DI X tg l (uN fe):=.of (PI.imp (yh hl.un) λσ H Q h=>by
 obtain⟨ι,r,g,ds,u,G0,o,h,p⟩:=h
 obtain⟨⟨q,g1⟩,i,h⟩:=bind_some h
 cases q with
 |lst xs =>
  cases h
  refine tD.bind G0 o i λH1 k v j f s c=>?_
  simp only[Rel]at c
  obtain⟨a,n,rfl,b,e⟩:=c
  exact⟨a,rfl,⟨n,b.sq⟩,p H1 k _ j f (.lst b e)⟩
 |_=>cases h)
noncomputable def gK (i:Int):Bool:=adD i.natAbs 4611686018427387903
theorem gK.and {i:Int}(h:gK i=true):-(2 ^ 62)<=i/\i<2 ^ 62:=by
 have:=abw h
 omega
theorem gK.of {i:Int}(h1:-1000000<=i)(h2:i<=1000000):gK i=true:=acA (by omega)
noncomputable def m8 (fr:FA):FI:=λσ g=>(fr σ g).bind λr=>match r.1 with| [.int j]=>if gK j=true then some ((aaz j.toNat).map λ(k:Nat)=>D.int (0+k),r.2)else none|_=>none
noncomputable def vN (fr:FA):FI:=λσ g=>(fr σ g).bind λr=>match r.1 with| [.int i,.int j]=>if(gK i&&gK j)=true then some ((aaz (j-i).toNat).map λ(k:Nat)=>D.int (i+k),r.2)else none|_=>none
theorem QI (hg:Gl X "range")(hm:X.mg "range" = none)(ha:DA X [a] fr)(hs:aaZ [a] X.env = [(false,eval a X.env)]:=by rfl):DI X tg (.Call (.Name "range" p) [a] [] pos) (m8 fr):=.of (
 PI.imp (Bf hg hm ha.un hs) λσ H Q h=>by
  obtain⟨ι,l,g,ds,o,G0,k,h,p⟩:=h
  obtain⟨⟨q,g1⟩,e,h⟩:=bind_some h
  refine i5.bind G0 k e λH1 i v f c n b=>?_
  dsimp only at h
  split at h
  . rename_i j
    split at h
    . rename_i z
      cases h
      simp only[ag,Rel]at b
      obtain⟨_,_,rfl,rfl,rfl⟩:=b
      exact⟨j,rfl,(gK.and z).1,(gK.and z).2,p H1 i _ f c .et⟩
    . cases h
  . cases h)
theorem QJ (hg:Gl X "range")(hm:X.mg "range" = none)(ha:DA X [a,b] fr)(hs:aaZ [a,b] X.env = [(false,eval a X.env),(false,eval b X.env)]:=by rfl)(mP:aaZ [b] X.env = [(false,eval b X.env)]:=by rfl):DI X tg (.Call (.Name "range" p) [a,b] [] pos) (vN fr):=.of (
 PI.imp (Bg hg hm ha.un hs mP) λσ H Q h=>by
  obtain⟨ι,o,g,ds,r,G0,n,h,p⟩:=h
  obtain⟨⟨s,g1⟩,f,h⟩:=bind_some h
  refine i5.bind G0 n f λH1 l v k e q c=>?_
  dsimp only at h
  split at h
  . rename_i i j
    split at h
    . rename_i z
      rw[aav]at z
      cases h
      simp only[ag,Rel]at c
      obtain⟨_,_,rfl,rfl,_,_,rfl,rfl,rfl⟩:=c
      exact⟨i,j,rfl,⟨(gK.and z.1).1,(gK.and z.1).2,(gK.and z.2).1,(gK.and z.2).2⟩,p H1 l _ k e .et⟩
    . cases h
  . cases h)
noncomputable def forL (t:FG)(b:FS):List D->FS
 | [],σ,g=>some (.nx,σ,g)
 |d::ds,σ,g=>(t d σ g).bind λq=>(b q.1 q.2).bind λr=>match r.1 with
  |.nx=>forL t b ds r.2.1 r.2.2
  |.ct=>forL t b ds r.2.1 r.2.2
  |.bk=>some (.nx,r.2.1,r.2.2)
  |.rt d=>some (.rt d,r.2.1,r.2.2)
noncomputable def e_ (i:FI)(t:FG)(b:FS):FS:=λσ g=>(i σ g).bind λr=>forL t b r.1 σ r.2
noncomputable def t6 (c:FT)(b:FS):Nat->FS
 | 0,_,_=>none
 |n+1,σ,g=>(c σ g).bind λk=>if k.1=true then(b σ k.2).bind λr=>match r.1 with
   |.nx=>t6 c b n r.2.1 r.2.2
   |.ct=>t6 c b n r.2.1 r.2.2
   |.bk=>some (.nx,r.2.1,r.2.2)
   |.rt d=>some (.rt d,r.2.1,r.2.2)
  else some (.nx,σ,k.2)
noncomputable def F_ (n:Nat)(c:FT)(b:FS):FS:=t6 c b n
inductive Mw (X:Cx)(gc:FT)(b:FS)(H:Hp)(ι:Ix)(r:F)(b4:Sg)(g':G)(m:Nat)(σ2:L2.St)(H2:Hp):Prop
 |mk (ι2:Ix) (qE:Sg) (g2:G) (e2:Ext H ι H2 ι2) (G2:ax X.kw H2 ι2 g2) (S2:bN X.kw H2 ι2 qE σ2) (hf:t6 gc b m qE g2=some (r,b4,g')):Mw X gc b H ι r b4 g' m σ2 H2
theorem Ej {c:Expr}{body:List Stmt}{gc:FT}{b:FS}(n:Nat)(hp:aeF (model X.prog X.w) X.A X.env X.xe)(hc:DT X c gc)(hb:j8 X body b):DS X (.While c body [] pos) (F_ n gc b):=.of (PS.imp (DP hp hc.un hb.un) λDn σ H h=>by
 obtain⟨ι,σd,g,r,x,g',G0,S0,h,p⟩:=h
 refine⟨Mw X gc b H ι r x g',⟨n,ι,σd,g,Ext.refl,G0,S0,h⟩,?_⟩
 rintro m σ2 H2 ⟨ι2,qE,g2,s,G2,S2,hf⟩
 cases m with
 |zero=>cases hf
 |succ m =>
  simp only[t6]at hf
  obtain⟨⟨k,g3⟩,h3,hf⟩:=bind_some hf
  refine kH.bind G2 S2 h3 λH3 z e3 o y=>?_
  cases k with
  |false =>
   simp only[aaF,if_false]at hf ⊢
   cases hf
   exact p H3 z (s.trans e3) o σ2 y
  |true =>
   simp only[if_true]at hf ⊢
   obtain⟨⟨u,l,j⟩,h4,hf⟩:=bind_some hf
   refine⟨Mw X gc b H ι r x g' m,λσ5 H5 q=>⟨m,adu _,q⟩,?_⟩
   refine⟨z,qE,g3,u,l,j,o,y,h4,λH7 a e7 f=>?_⟩
   have e:=s.trans (e3.trans e7)
   cases u with
   |nx=>exact λi S7=>⟨a,l,j,e,f,S7,hf⟩
   |ct=>exact λi S7=>⟨a,l,j,e,f,S7,hf⟩
   |bk=>cases hf;exact λi S7=>p H7 a e f i S7
   |rt d=>cases hf;exact λv r7=>p H7 a e f v r7)
end
abbrev Fn:=List D->G->Option (D×G)
noncomputable def m9 (K:KW)(n:Nat)(fn:Fn):Sp:=λa H Q _=>a.length=n /\ ∃ι g ds d g',ax K H ι g/\ag K H ι ds a/\fn ds g=some (d,g')/\gG K H ι d g' Q
mutual
noncomputable def bx (n:Nat):D->Bool
 |.ref k=>decide (k<n)
 |.aG k=>decide (k<n)
 |.tup xs=>aX n xs
 |.lst xs=>aX n xs
 |_=>true
noncomputable def aX (n:Nat):List D->Bool
 | []=>true
 |d::ds=>bx n d&&aX n ds
end
noncomputable def settle (n:Nat)(d:D)(g':G):Option (D×G):=
 if g'.length=n then some (d,g')else
  if(g'.take n).all (aX n)then
   match d with
   |.ref k=>if k<n then some (d,g'.take n)else match g'[k]? with
    |some xs=>if aX n xs then some (.lst xs,g'.take n)else none
    |none=>none
   |d=>if bx n d then some (d,g'.take n)else none
  else none
noncomputable def aA (keep:Bool)(nN nP:Nat)(b:FS):Fn:=λds g =>
 if ds.length=nP then(b (ds.map some++aaW (nN-nP) none) g).bind λr=>match r.1 with
  |.rt d=>if keep then some (d,r.2.2)else settle g.length d r.2.2
  |.nx=>if keep then some (.ay,r.2.2)else settle g.length .ay r.2.2
  |_=>none
 else none
noncomputable def Ix.cut (ι:Ix)(n:Nat):Ix:=⟨ι.ix.take n,ι.hd,ι.kd⟩
mutual
theorem Rel.cut {K H ι}(n:Nat):∀(d:D) {v:V},bx n d=true->Rel K H ι d v->Rel K H (Ix.cut ι n) d v
 |.ay,v,_,h=>by simpa[Rel]using h
 |.bl _,v,_,h=>by simpa[Rel]using h
 |.int _,v,_,h=>by simpa[Rel]using h
 |.str _,v,_,h=>by simpa[Rel]using h
 |.tup xs,v,z,h=>by
  simp only[Rel]at h ⊢
  obtain⟨a,f,c,b,e⟩:=h
  refine⟨a,f,c,?_,ag.cut n xs z e⟩
  rcases b with⟨b,hn⟩|b
  . exact .inl ⟨b,λm=>hn (abH m)⟩
  . exact .inr b
 |.lst xs,v,z,h=>by
  simp only[Rel]at h ⊢
  obtain⟨a,f,c,b,e⟩:=h
  refine⟨a,f,c,?_,ag.cut n xs z e⟩
  rcases b with⟨b,hn,hh⟩|b
  . exact .inl ⟨b,λm=>hn (abH m),hh⟩
  . exact .inr b
 |.de,v,_,h=>by
  simp only[Rel]at h ⊢
  obtain⟨a,c,b,e⟩:=h
  exact⟨a,c,b,λm=>e (abH m)⟩
 |.ref k,v,z,h=>by
  simp only[Rel]at h ⊢
  obtain⟨a,c,b⟩:=h
  have i:k<n:=of_decide_eq_true z
  exact⟨a,c,by show(ι.ix.take n)[k]? = some a;rw[abi i];exact b.1,b.2⟩
 |.aG k,v,z,h=>by
  simp only[Rel]at h ⊢
  obtain⟨a,c,b⟩:=h
  have i:k<n:=of_decide_eq_true z
  exact⟨a,c,by show(ι.ix.take n)[k]? = some a;rw[abi i];exact b.1,b.2⟩
 |.fn x,v,_,h=>by simpa[Rel]using h
theorem ag.cut {K H ι}(n:Nat):∀(ds:List D) {vs:List V},aX n ds=true->ag K H ι ds vs->ag K H (Ix.cut ι n) ds vs
 | [],vs,_,h=>by simpa[ag]using h
 |d::ds,vs,z,h=>by
  simp only[ag]at h ⊢
  simp only[aX,aav]at z
  obtain⟨v,b,e,a,c⟩:=h
  exact⟨v,b,e,Rel.cut n d z.1 a,ag.cut n ds z.2 c⟩
end
theorem ax.cut {K H ι g}(n:Nat)(h:ax K H ι g)(z:(g.take n).all (aX n)=true):ax K H (Ix.cut ι n) (g.take n):=by
 refine⟨h.nd.sublist (afu _ _),by simp[Ix.cut,h.len],λb e=>⟨λm=>(h.cN b e).1 (abH m),(h.cN b e).2⟩,λi xs q=>?_⟩
 have c:i<n:=by
  have:=(aaB.mp q).1
  rw[ab3]at this;omega
 rw[abi c]at q
 obtain⟨a,o,f,l,k,p,j⟩:=h.at_ i xs q
 refine⟨a,o,f,(by show(ι.ix.take n)[i]? = some a;rw[abi c];exact l),k,p,ag.cut n xs ?_ j⟩
 exact aaQ.mp z xs (aa6 (i:=i) (by rw[abi c];exact q))
theorem Ext.cut {H ι H' ι' n}(e:Ext H ι H' ι')(hn:ι.ix.length=n):Ext H ι H' (Ix.cut ι' n):=by
 obtain⟨m,a,f⟩:=e.more
 refine⟨e.same,e.there,⟨[],?_,λ_ z=>by simp at z⟩,e.cN,e.mC⟩
 subst hn
 show ι'.ix.take _=_
 rw[a];simp
theorem BV {K H ι g H' ι' g' d RR dd v}(G0:ax K H ι g)(e:Ext H ι H' ι')(G1:ax K H' ι' g')(r:Rel K H' ι' d v)(h:settle g.length d g'=some (dd,RR)):
   ∃kJ,Ext H ι H' kJ/\ax K H' kJ RR/\Rel K H' kJ dd v:=by
 unfold settle at h
 split at h
 . cases h;exact⟨ι',e,G1,r⟩
 split at h
 . rename_i z
   refine⟨Ix.cut ι' g.length,e.cut G0.len,?_⟩
   have Gc:=G1.cut g.length z
   split at h
   . rename_i k
     split at h
     . rename_i f
       cases h
       exact⟨Gc,Rel.cut _ _ (decide_eq_true f) r⟩
     . rename_i f
       split at h
       . rename_i xs n
         split at h
         . rename_i b
           cases h
           refine⟨Gc,?_⟩
           simp only[Rel]at r ⊢
           obtain⟨a,rfl,c⟩:=r
           obtain⟨s,q,o⟩:=G1.at n c
           refine⟨a,s,rfl,.inl ⟨.inl q,λm=>?_,λm=>(G1.cN a m).1 (aa6 c.1)⟩,ag.cut _ _ b o⟩
           obtain⟨j,i,l⟩:=abG.mp (show a∈ι'.ix.take g.length from m)
           have x:j<g.length:=by rw[ab3]at i;omega
           have u:j < ι'.ix.length:=by rw[ab3]at i;omega
           rw[ahx]at l
           obtain⟨y,p⟩:=aaB.mp c.1
           have:j=k:=(afJ G1.nd).mp (l.trans p.symm)
           omega
         . cases h
       . cases h
   . split at h
     . rename_i b
       cases h
       exact⟨Gc,Rel.cut _ _ b r⟩
     . cases h
 . cases h
section
variable {P:aaY}{w:World}{K:KW}{mg:Str->Option Value}{base:Heap}
theorem Jf {k n f fd ps}{fn:Fn}(hn:∀ds g,fn ds g=none):dE P K.w K.fr K.mg base i4 k f fd ps (m9 K n fn):=
 ⟨λa H Q E ⟨_,ι,g,ds,d,b,_,_,h,_⟩=>(by rw[hn]at h;cases h),λA outer s H args us a Q E _ _ _ _ ⟨_,ι,g,ds,d,b,_,_,h,_⟩=>(by rw[hn]at h;cases h)⟩
theorem z7 {K H ι ds vs}{N:List Str}(r:ag K H ι ds vs)(hl:ds.length<=N.length):bN K H ι (ds.map some++aaW (N.length-ds.length) none) (L2.start N vs):=by
 have e:=r.length
 refine⟨by unfold L2.start;simp[e],λi d q=>?_⟩
 have a:i<ds.length:=by
  by_cases a:i<ds.length
  . exact a
  . rw[abz (by simpa using a),afU]at q
    split at q<;>cases q
 rw[aaS (by simpa using a),abE]at q
 cases hd:ds[i]? with
 |none=>rw[hd]at q;cases q
 |some d' =>
  rw[hd]at q;cases q
  obtain⟨v,c,b⟩:=r.get hd
  refine⟨v,?_,b⟩
  unfold L2.start
  rw[aaS (by rw[aaM,<- e];exact a),abE,c];rfl
theorem QK {x qual:Str}{st:Stmt}{f:Addr}{fd:abR}{N ps:List Str}{k:Nat}{keep:Bool}{b:FS}(F:yn K.fr x qual st f fd)(S:js N ps (bC st))(hN:ps.length<=N.length)
  (hb:∀(dZ:Value) (A:aaV) (outer:List Env) (s:aat) (H:Hp) (E:XK),aC k (A.deeper (aeN qual (bC st) s.heap.objs.size f dZ)) ->
   j8 (mS i4 P K.w K.fr K.mg base N qual (bC st) f dZ A outer s H E).ye (eV st) b):dE P K.w K.fr K.mg base i4 (k+1) f fd ps (m9 K ps.length (aA keep N.length ps.length b)):=by
 refine F.ok S (λvs H Q E h=>h.1) (λdZ A outer s H vs Q E z h=>?_)
 obtain⟨hl,ι,g,ds,d,g',G0,r,h,p⟩:=h
 refine⟨_,(hb dZ A outer s H E z).un,?_⟩
 unfold aA at h
 have i:ds.length=ps.length:=by rw[r.length];exact hl
 rw[if_pos i]at h
 obtain⟨⟨n,σ1,g1⟩,h1,h⟩:=bind_some h
 refine⟨ι,_,g,n,σ1,g1,G0,z7 r (by rw[i];exact hN),by rw[i];exact h1,λH1 o l j=>?_⟩
 have fin:∀{a v},Rel K H1 o a v->(if keep then some (a,g1)else settle g.length a g1)=some (d,g')->Q v H1:=fun {a v} c e=>by
  cases keep with
  |true=>simp only[if_true]at e;cases e;exact p H1 o v l j c
  |false =>
   simp only[aaF,if_false]at e
   obtain⟨ι2,u,y,q⟩:=BV G0 l j c e
   exact p H1 ι2 v u y q
 cases n with
 |rt a=>exact λv c=>fin c h
 |nx=>exact λσ' S'=>fin (v:=.ay) (by simp[Rel]) h
 |bk=>cases h
 |ct=>cases h
end
section
variable {X:Cx}{x:Str}{p pos:Pos}{e:Expr}{es:List Expr}{fr:FA}{k:Nat}{f:Addr}{fd:abR}{ps:List Str}{fn:Fn}{n:Nat}
noncomputable def av (fn:Fn)(fr:FA):FE:=λσ g=>(fr σ g).bind λr=>fn r.1 r.2
theorem vO {K}{n:Nat}(hn:∀ds g r,fn ds g=some r->ds.length=n){σ:L2.St}{H:Hp}{Q:VK}(h:tD K (av fn fr) σ H Q):zN (m9 K n fn) [] E0 (i5 K fr) σ H Q:=by
 obtain⟨ι,k,g,d,j,G0,i,h,p⟩:=h
 obtain⟨⟨ds,g1⟩,c,h⟩:=bind_some h
 refine i5.bind G0 i c λH1 f o e b l a=>?_
 rw[ab9]
 exact⟨by rw[<- a.length];exact hn _ _ _ h,f,g1,ds,d,j,b,a,h,p.mono e⟩
theorem Jg (F:dE X.prog X.w X.kw X.mg X.base i4 k f fd ps (m9 X.kw n fn))(hr:aC k X.A)(hm:X.mg x=some (.ref f))(hk:acx X.kw (.ref f)=true)(hb:Binds X.kw fd ps [])(hn:∀ds g r,fn ds g=some r->ds.length=n)
  (ha:DA X (e::es) fr) (hg:Gl X x:=by rfl) (jB:(x == ("__debug__":Str))=false:=by decide) (he:aaZ (e::es) X.env=(false,eval e X.env)::aaZ es X.env:=by rfl) (j4:(adl pos (aaZ es X.env)).any (·.1)=false:=by rfl):
  DE X (.Call (.Name x p) (e::es) [] pos) (av fn fr):=.of (
 PE.imp (IB F hr hg hm hk hb .nil F3 ha.un jB he j4) λσ H Q h=>vO hn h)
theorem Ek (F:dE X.prog X.w X.kw X.mg X.base i4 k f fd ps (m9 X.kw n fn))(hr:aC k X.A)(hm:X.mg x=some (.ref f))(hk:acx X.kw (.ref f)=true)(hb:Binds X.kw fd ps [])(hn:∀ds g r,fn ds g=some r->ds.length=n)
  (hg:Gl X x:=by rfl) (jB:(x == ("__debug__":Str))=false:=by decide):
  DE X (.Call (.Name x p) [] [] pos) (av fn aj):=.of (
 PE.imp (DZ F hr hg hm hk hb .nil F3 jB) λσ H Q h=>by
  have q:=vO hn h
  obtain⟨ι,a,g,d,c,G0,b,h,p⟩:=q
  cases h
  exact p H ι [] Ext.refl G0 (by simp[ag]))
theorem t8 {keep:Bool}{nN nP:Nat}{b:FS}:∀ds g r,aA keep nN nP b ds g=some r->ds.length=nP:=λds g r h=>by
 unfold aA at h
 split at h
 . assumption
 . cases h
theorem El {id:String}{o:Fn}(hc:cu X (.builtin id) (gX X.kw o))(hm:X.mg x=none)(hv:acq x=some (.builtin id))(ha:DA X (e::es) fr)(hg:Gl X x:=by rfl)(hn:x ≠ "__name__":=by decide)(jB:(x == ("__debug__":Str))=false:=by decide)
  (he:aaZ (e::es) X.env=(false,eval e X.env)::aaZ es X.env:=by rfl) (j4:(adl pos (aaZ es X.env)).any (·.1)=false:=by rfl):DE X (.Call (.Name x p) (e::es) [] pos) (av o fr):=.of (
 PE.imp (vx hc hg hm hv ha.un hn jB he j4) λσ H Q h=>by
  obtain⟨ι,l,g,d,k,G0,j,h,p⟩:=h
  obtain⟨⟨ds,g1⟩,b,h⟩:=bind_some h
  exact i5.bind G0 j b λH1 f q c a n i=>⟨f,g1,ds,d,k,a,i,h,p.mono c⟩)
theorem BW {T:String}{o:Fn}(hc:cu X (.type T) (gX X.kw o))(hm:X.mg x=none)(hv:acq x=some (.type T))(ha:DA X (e::es) fr)(hg:Gl X x:=by rfl)(hn:x ≠ "__name__":=by decide)(jB:(x == ("__debug__":Str))=false:=by decide)
  (he:aaZ (e::es) X.env=(false,eval e X.env)::aaZ es X.env:=by rfl) (j4:(adl pos (aaZ es X.env)).any (·.1)=false:=by rfl):DE X (.Call (.Name x p) (e::es) [] pos) (av o fr):=.of (
 PE.imp (Bt hc hg hm hv ha.un hn jB he j4) λσ H Q h=>by
  obtain⟨ι,l,g,d,k,G0,j,h,p⟩:=h
  obtain⟨⟨ds,g1⟩,b,h⟩:=bind_some h
  exact i5.bind G0 j b λH1 f q c a n i=>⟨f,g1,ds,d,k,a,i,h,p.mono c⟩)
end
noncomputable def kz (scope:Scope)(env:Env):List (Str×Addr):=(scope.names.filterMap λx=>if x.2 == .free then(env.cells.lookup x.1).map λc=>(x.1,c)else none).reverse
theorem uD {scope:Scope}{env:Env}(h:∀x∈scope.names,x.2 = .free->∃c,env.cells.lookup x.1=some c):closureFor scope env=pure (kz scope env):=by
 have key:∀(l:List (Str×acO)) (acc:List (Str×Addr)),(∀x∈l,x.2 = .free->∃c,env.cells.lookup x.1=some c) ->
   (forIn l acc λx r=>if(x.2 == abL)=true then(do let c <- cellOf env x.1;pure (acF ((x.1,c)::r)))else pure (acF r):Sem (List (Str×Addr)))=
     pure ((l.filterMap λx=>if x.2 == .free then(env.cells.lookup x.1).map λc=>(x.1,c)else none).reverse++acc):=by
  intro l
  induction l with
  |nil=>intro acc _;rfl
  |cons x r ih =>
   intro acc e
   rw[aeS]
   by_cases hk:x.2 = .free
   . obtain⟨c,f⟩:=e x aaO hk
     have a:(x.2 == abL)=true:=by rw[hk];rfl
     rw[if_pos a]
     simp only[cellOf,f,pure_bind,abU,a,if_true,abo,List.reverse_cons,ab7,agh]
     exact ih _ λy b=>e y (aaR _ b)
   . have a:(x.2 == abL)=false:=by simpa using hk
     simp only[a,aaF,if_false,pure_bind,abU]
     exact ih _ λy b=>e y (aaR _ b)
 have:=key scope.names [] h
 rw[ab9]at this
 unfold closureFor kz
 simp only[bind_pure_comp]at this ⊢
 first
  | (simpa using this)
  |exact this
noncomputable def cellsOf (scope:Scope)(env:Env)(C:Addr):List (Str×Addr):=abO (C+1) scope.names (kz scope env)
theorem kK {n:Nat}{y:Str}{k:acO}{r:List (Str×acO)}{acc:List (Str×Addr)}:abO n ((y,k)::r) acc=if(k == abB)=true then abO (n+1) r ((y,n)::acc)else abO n r acc:=rfl
theorem j9 {x:Str}{c:Addr}:∀{names:List (Str×acO)} {n:Nat} {acc:List (Str×Addr)},(abO n names acc).lookup x=some c->((x,abB)∈names/\n<=c)\/(acc.lookup x=some c/\(x,abB) ∉ names)
 | [],_,_,h=>.inr ⟨h,by simp⟩
 | (y,k)::r,n,acc,h=>by
  rw[kK]at h
  split at h
  . rename_i a
    have a:k=abB:=by simpa using a
    subst a
    rcases j9 h with⟨h1,h2⟩|⟨h1,h2⟩
    . exact .inl ⟨aaR _ h1,by omega⟩
    . by_cases e:x=y
      . subst e
        rw[abj,show(x == x)=true by simp]at h1
        cases h1
        exact .inl ⟨aaO,aaC _⟩
      . rw[abj,show(x == y)=false by simpa using e]at h1
        exact .inr ⟨h1,λz=>by rcases aaD.mp z with z|z;(cases z;exact e rfl);exact h2 z⟩
  . rename_i a
    rcases j9 h with⟨h1,h2⟩|⟨h1,h2⟩
    . exact .inl ⟨aaR _ h1,h2⟩
    . exact .inr ⟨h1,λz=>by rcases aaD.mp z with z|z;(cases z;exact a rfl);exact h2 z⟩
theorem qG {x:Str}{c:Addr}:∀{names:List (Str×acO)} {n:Nat} {acc:List (Str×Addr)},(x,abB) ∉ names->acc.lookup x=some c->(abO n names acc).lookup x=some c
 | [],_,_,_,h=>h
 | (y,k)::r,n,acc,hn,h=>by
  have b:(x,abB) ∉ r:=λz=>hn (aaR _ z)
  rw[kK]
  split
  . rename_i a
    have a:k=abB:=by simpa using a
    subst a
    refine qG b ?_
    have e:x≠y:=λe=>hn (by rw[e];exact aaO)
    rw[abj,show(x == y)=false by simpa using e]
    exact h
  . exact qG b h
theorem vP {x:Str}:∀{names:List (Str×acO)} {n:Nat} {acc:List (Str×Addr)},((x,abB)∈names \/ ∃c,acc.lookup x=some c)->∃c,(abO n names acc).lookup x=some c
 | [],_,_,h=>by rcases h with h|h;(cases h);exact h
 | (y,k)::r,n,acc,h=>by
  rw[kK]
  split
  . rename_i a
    refine vP ?_
    rcases h with h|⟨c,h⟩
    . rcases aaD.mp h with z|z
      . cases z;exact .inr ⟨n,by simp⟩
      . exact .inl z
    . right
      rw[abj]
      split
      . exact⟨_,rfl⟩
      . exact⟨c,h⟩
  . rename_i a
    refine vP ?_
    rcases h with h|h
    . rcases aaD.mp h with z|z
      . cases z;exact absurd rfl a
      . exact .inl z
    . exact .inr h
theorem vQ:∀{names:List (Str×acO)} {n:Nat} {acc:List (Str×Addr)},(∀x c,acc.lookup x=some c->c<n)->(∀x y c,acc.lookup x=some c->acc.lookup y=some c->x=y)->∀x y c,(abO n names acc).lookup x=some c->(abO n names acc).lookup y=some c->x=y
 | [],_,_,_,hi=>hi
 | (z,k)::r,n,acc,hl,hi=>by
  intro x y c
  rw[kK]
  split
  . refine vQ (λx c h=>?_) (λx y c b a=>?_) x y c
    . rw[abj]at h
      split at h
      . cases h;exact adu _
      . exact abe (hl x c h)
    . rw[abj]at b a
      split at b
      . rename_i f
        cases b
        split at a
        . rename_i e
          rw[eq_of_beq f,eq_of_beq e]
        . exact absurd (hl y _ a) (acf _)
      . split at a
        . cases a;exact absurd (hl x _ b) (acf _)
        . exact hi x y c b a
  . exact vQ hl hi x y c
theorem pT {M:Model}{A:aaV}{E:Value->aat->Prop}:∀(names:List (Str×acO)) (acc:List (Str×Addr)) (s:aat) (Q:List (Str×Addr)->aat->Prop),
  (∀x c,acc.lookup x=some c->c<s.heap.objs.size) ->
  (∀h',(∀b o,s.heap.get? b=some o->h'.get? b=some o)->(∀x c,(abO s.heap.objs.size names acc).lookup x=some c->s.heap.objs.size<=c->h'.IsCell c none)->Q (abO s.heap.objs.size names acc) { s with heap:=h' }) ->
  wpAny M A (forIn names acc λx r=>if(x.2 == abB)=true then(do let c <- alloc { cls:=abm "cell",data:=aff none };pure (acF ((x.1,c)::r)))else pure (acF r)) Q E s
 | [],acc,s,Q,hl,h=>by
  rw[agm]
  exact aau (h s.heap (λ_ _ e=>e) λx c j i=>absurd (hl x c j) (Nat.not_lt.mpr i))
 | (y,k)::r,acc,s,Q,hl,h=>by
  rw[aeS]
  rw[kK]at h
  dsimp only
  split
  . rename_i f
    rw[if_pos f]at h
    refine aas (aas (af9 (aau ?_)))
    have sz:(s.heap.push { cls:=abm "cell",data:=aff none }).objs.size=s.heap.objs.size+1:=aci ..
    refine pT r _ _ Q (λx c e=>?_) λh' l a=>?_
    . show c<(s.heap.push _).objs.size
      rw[sz]
      rw[abj]at e
      split at e
      . cases e;exact adu _
      . exact abe (hl x c e)
    . have a:∀x c,(abO (s.heap.push { cls:=abm "cell",data:=aff none }).objs.size r ((y,s.heap.objs.size)::acc)).lookup x=some c->(s.heap.push { cls:=abm "cell",data:=aff none }).objs.size<=c->h'.IsCell c none:=a
      show Q (abO (s.heap.push { cls:=abm "cell",data:=aff none }).objs.size r ((y,s.heap.objs.size)::acc)) _
      rw[sz]at a ⊢
      refine h h' (λb o e=>l b o (aaw _ e)) λx c j i=>?_
      rcases Nat.lt_or_eq_of_le i with e3|e3
      . exact a x c j e3
      . subst e3
        exact⟨_,l _ _ (aaG _ rfl),rfl⟩
  . rename_i f
    rw[if_neg f]at h
    refine aas (aau ?_)
    exact pT r acc s Q hl h
theorem xY {M:Model}{A:aaV}{E:Value->aat->Prop}{s:aat}{scope:Scope}{env:Env}{gl:Addr}{cl:List (Str×Addr)}{qual:Str}{Q:Env->aat->Prop}(hl:∀x c,cl.lookup x=some c->c<s.heap.objs.size)
   (h:∀h4:Heap,h4.Ns s.heap.objs.size (λ_=>none)->(∀b o,s.heap.get? b=some o->h4.get? b=some o)->(∀x c,(abO (s.heap.objs.size+1) scope.names cl).lookup x=some c->s.heap.objs.size+1<=c->h4.IsCell c none) ->
    Q (newEnv scope s.heap.objs.size gl (abO (s.heap.objs.size+1) scope.names cl) qual none acE (some env) afy) { s with heap:=h4 }):
   wpAny M A (newFunctionEnv scope gl cl [] qual none acE (some env)) Q E s:=by
 unfold newFunctionEnv
 have sz:∀o:Obj,(s.heap.push o).objs.size=s.heap.objs.size+1:=λo=>aci ..
 refine aas (af9 (aas ?_))
 refine pT scope.names cl _ _ (λx c e=>?_) λf i a=>?_
 . show c<(s.heap.push _).objs.size
   rw[sz];exact abe (hl x c e)
 . refine aas ?_
   rw[agm]
   refine aau (aau ?_)
   have a:∀x c,(abO (s.heap.push { cls:=abm (if(some env).isSome=true then "dict" else "frame"),data:=ag9 #[] }).objs.size scope.names cl).lookup x=some c->(s.heap.push { cls:=abm (if(some env).isSome=true then "dict" else "frame"),data:=ag9 #[] }).objs.size<=c->f.IsCell c none:=a
   rw[sz]at a
   have:=h f ⟨_,_,_,i _ _ (aaG _ rfl),rfl,by intro k j;simp at j,λ_=>rfl⟩ (λb o e=>i b o (aaw _ e)) a
   show Q (newEnv scope s.heap.objs.size gl (abO (s.heap.push { cls:=abm (if(some env).isSome=true then "dict" else "frame"),data:=ag9 #[] }).objs.size scope.names cl) qual none acE (some env) afy) { s with heap:=f }
   rw[sz]
   exact this
noncomputable def bS (X:Cx)(N:List Str)(scope:Scope)(C:Addr)(s3:aat)(H:Hp)(fp:List Addr)(pins:List (Addr×Obj)):Cx where
 prog:=X.prog
 w:=X.w
 K:=X.kw
 mg:=X.mg
 base:=X.base
 A:=X.A
 N:=N
 s₀:=s3
 H₀:=H
 env:=compEnvC scope (cellsOf scope X.env C) C X.env
 outer:=X.stack
 stack:=X.stack
 ex:=fp
 calm:=X.calm
 fn:=λx=>scope.names.any λy=>y.1 == x&&y.2 == .cell
 pn:=X.pn++pins
 xe:=λ_ _=>False
structure gn (X:Cx)(N:List Str)(fr:List (Option Nat))(scope:Scope):Prop where
 kind:scope.kind = .function
 cells:∀y∈scope.names,y.2 = .cell->scope.names.lookup y.1=some .cell
 names:∀y∈scope.names,y.2 = .local->scope.names.lookup y.1=some .local
 free:∀y∈scope.names,y.2 = .free->scope.names.lookup y.1=some .free/\(X.env.kindOf y.1=some .cell\/X.env.kindOf y.1=some .free)
 len:fr.length=N.length
 slots:∀(j i:Nat),fr[j]? = some (some i)->∃x,N[j]? = some x/\X.N[i]? = some x/\scope.names.lookup x=some .free
noncomputable def bq {α:Type}(fr:List (Option Nat))(σ:List (Option α)):List (Option α):=fr.map λo=>match o with|some i=>(σ[i]?).join|none=>none
theorem vR {scope:Scope}{env:Env}:(afH scope env).kind=scope.kind:=rfl
theorem Em {scope:Scope}{env:Env}{x:Str}{c:Addr}(h:(x,c)∈kz scope env):(x,abL)∈scope.names/\env.cells.lookup x=some c:=by
 unfold kz at h
 rw[ah6,acw]at h
 obtain⟨y,a,e⟩:=h
 split at e
 . rename_i b
   cases hc:env.cells.lookup y.1 with
   |none=>rw[hc]at e;cases e
   |some c' =>
    rw[hc]at e
    cases e
    have:y.2=abL:=by simpa using b
    exact⟨by rw[<- this];exact a,hc⟩
 . cases e
theorem mD {α:Type}:∀{l:List (Str×α)} {x:Str} {c:α},(x,c)∈l->∃d,l.lookup x=some d
 | [],_,_,h=>nomatch h
 | (y,d)::r,x,c,h=>by
  by_cases e:x=y
  . subst e;exact⟨d,by simp⟩
  . rcases aaD.mp h with z|z
    . cases z;exact absurd rfl e
    . obtain⟨a,q⟩:=mD z
      exact⟨a,by rw[abj];simp[show(x == y)=false by simpa using e,q]⟩
theorem eX {scope:Scope}{env:Env}{x:Str}{c:Addr}(h:(kz scope env).lookup x=some c):(x,abL)∈scope.names/\env.cells.lookup x=some c:=Em (abV h)
theorem vS {scope:Scope}{env:Env}{x:Str}{c:Addr}(hx:(x,abL)∈scope.names)(hc:env.cells.lookup x=some c):(kz scope env).lookup x=some c:=by
 have m:(x,c)∈kz scope env:=by
  unfold kz
  rw[ah6,acw]
  exact⟨_,hx,by simp[hc]⟩
 obtain⟨d,q⟩:=mD m
 have:=(eX q).2
 rw[hc]at this;cases this
 exact q
theorem vT {scope:Scope}{env:Env}{x:Str}(h:(afH scope env).names.lookup x=some .cell\/(afH scope env).names.lookup x=some .free):(x,abL)∈scope.names\/(x,abB)∈scope.names:=by
 have m:∃k,(x,k)∈(afH scope env).names/\(k = .cell\/k = .free):=by
   rcases h with h|h
   . exact⟨_,abV h,.inl rfl⟩
   . exact⟨_,abV h,.inr rfl⟩
 obtain⟨k,m,a⟩:=m
 unfold afH at m
 rw[aaJ]at m
 obtain⟨⟨n,b⟩,hm,e⟩:=m
 dsimp only at e
 split at e
 . rename_i z
   cases e
   simp only[aav]at z
   have:b=abL:=by simpa using z.1.1
   subst this
   exact .inl hm
 . cases e
   rcases a with rfl|rfl
   . exact .inr hm
   . exact .inl hm
theorem h_ {env:Env}:∀{names:List (Str×acO)} {x:Str},names.lookup x=some .free ->
  (names.map λ(n,k)=>if(k == abL&&env.scope.kind == .function&&env.kindOf n == some .cell)then(n,abB)else(n,k)).lookup x=some .cell \/
  (names.map λ(n,k)=>if(k == abL&&env.scope.kind == .function&&env.kindOf n == some .cell)then(n,abB)else(n,k)).lookup x=some .free
 | [],_,h=>by simp at h
 | (n,k)::r,x,h=>by
  have ih:=@h_ env r x
  show List.lookup x ((if(k == abL&&env.scope.kind == .function&&env.kindOf n == some .cell)=true then(n,abB)else(n,k))::_)=_\/List.lookup x ((if(k == abL&&env.scope.kind == .function&&env.kindOf n == some .cell)=true then(n,abB)else(n,k))::_)=_
  cases hx:x == n with
  |true =>
   simp only[abj,hx]at h
   cases h
   split
   . left;simp[abj,hx]
   . right;simp[abj,hx]
  |false =>
   simp only[abj,hx]at h
   split
   . simp only[abj,hx];exact ih h
   . simp only[abj,hx];exact ih h
section
variable {X:Cx}{pins:List (Addr×Obj)}{σ:L2.St}{H:Hp}{s3:aat}
theorem QL {scope:Scope}(I:Inv X pins σ H s3):∀x c,(kz scope X.env).lookup x=some c->c<s3.heap.objs.size:=λx c e=>by
 obtain⟨v,o,a,_⟩:=I.cell x c (eX e).2
 exact aaH a
theorem z8 {N:List Str}{fr:List (Option Nat)}{scope:Scope}{fp:List Addr}{h1:Heap}{tk:Nat}(ok:gn X N fr scope)(I:Inv X pins σ H s3)(hf:∀b∈fp,gU X pins H b)(mZ:∀b∈fp,b<s3.heap.objs.size)
   (F1:h1.Ns s3.heap.objs.size λ_=>none) (hk:∀b o,s3.heap.get? b=some o->h1.get? b=some o) (cR:∀x c,(cellsOf scope X.env s3.heap.objs.size).lookup x=some c->s3.heap.objs.size+1<=c->h1.IsCell c none):
   Inv (bS X N scope s3.heap.objs.size s3 H fp pins) [] (bq fr σ) H { s3 with heap:=h1,toks:=tk }:=by
 have r:Inv X pins σ H { s3 with heap:=h1,toks:=tk }:=I.kept hk
 have vb:∀b∈mq X.stack,b∈X.env.locals::X.fs:=I.vf
 have lc:∀x c,(cellsOf scope X.env s3.heap.objs.size).lookup x=some c->(s3.heap.objs.size+1<=c/\h1.IsCell c none)\/X.env.cells.lookup x=some c:=λx c e=>by
   rcases j9 e with⟨_,z⟩|⟨z,_⟩
   . exact .inl ⟨z,cR x c e z⟩
   . exact .inr (eX z).2
 have lo:∀x c,X.env.cells.lookup x=some c->c<s3.heap.objs.size:=λx c e=>by
   obtain⟨v,o,eo,_⟩:=I.cell x c e
   exact aaH eo
 have RS:∀y,(y,abL)∈scope.names->(y,abB) ∉ scope.names:=λy h1 l=>by
   have:=(ok.free _ h1 rfl).1
   rw[show scope.names.lookup y=some .cell from ok.cells _ l rfl]at this
   cases this
 refine⟨⟨I.ok.mod,?_,I.ok.glob,I.ok.blt,aaC _,?_,?_,?_,I.ok.hd,I.ok.frames,.inl rfl,?_,I.bs,abt I.ok.tG I.sz,?_,?_,I.stack,I.yb⟩,rfl,I.bare,Un.kept hk,
   ⟨_,F1,?_⟩,?_,I.bB.fresh (aaC _),?_,?_,r.bB,?_⟩
 . show(afH scope X.env).kind = .function
   rw[vR];exact ok.kind
 . refine vQ (λx c e=>abe (lo x c (eX e).2)) λx y c h1 l=>?_
   exact I.ok.inj x y c (eX h1).2 (eX l).2
 . intro x h
   rcases vT (scope:=scope) (env:=X.env) h with m|m
   . obtain⟨c,hc⟩:=I.ok.has x (ok.free _ m rfl).2
     exact⟨c,qG (RS x m) (vS m hc)⟩
   . exact vP (.inl m)
 . intro x c h e
   rcases j9 e with⟨_,z⟩|⟨_,z⟩
   . exact aer z
   . refine absurd ?_ z
     have h:(scope.names.any λy=>y.1 == x&&y.2 == .cell)=true:=h
     rw[acQ]at h
     obtain⟨⟨y,k⟩,hy,s⟩:=h
     simp only[aav]at s
     have e3:k=abB:=by simpa using s.2
     rw[<- eq_of_beq s.1,<- e3]
     exact hy
 . intro b f
   refine⟨aaN (mZ b f),λx c e=>?_⟩
   rcases lc x c e with⟨z,_⟩|z
   . exact λq=>absurd (mZ b f) (Nat.not_lt.mpr (by rw[<- q];exact aer z))
   . exact(hf b f).2.2.2.2.1 x c z
 . intro b o e f
   obtain⟨_,_,_,z,_⟩:=hf b f
   rcases z with z|z
   . exact I.ok.vc b o e z
   . exact absurd (aa0 (aa0 (aaH e) I.ok.tG) z) (acf _)
 . intro b f z
   obtain⟨_,n1,n2,_⟩:=hf b f
   rcases aaD.mp (vb b z)with q|q
   . exact n1 q
   . exact n2 q
 . intro j x v h1 l h3
   have a:(bq fr σ)[j]? = some (some v):=l
   unfold bq at a
   rw[abE]at a
   cases fv:fr[j]? with
   |none=>rw[fv]at a;cases a
   |some o =>
     rw[fv]at a
     cases o with
     |none=>cases a
     |some i =>
       obtain⟨y,hy,hi,qo⟩:=ok.slots j i fv
       have e:x=y:=by
         have qH:N[j]? = some x:=h1
         rw[hy]at qH;cases qH;rfl
       subst e
       have hσ:σ[i]? = some (some v):=by
         simp only[abo,abW]at a
         cases q:σ[i]? with
         |none=>rw[q]at a;cases a
         |some w=>rw[q]at a;simp at a;rw[a]
       have m:=abV qo
       obtain⟨_,uI⟩:=ok.free _ m rfl
       obtain⟨mm,hn,hl⟩:=r.loc
       obtain⟨u,ru,lk⟩:=hl i x v hi hσ (by rcases uI with k|k;exact .inr (.inl k);exact .inr (.inr k))
       refine⟨u,ru,.inr ⟨h_ qo,?_⟩⟩
       rcases lk with⟨kl,_⟩|⟨_,c,hc,uG⟩
       . rcases uI with k|k<;>(rw[k]at kl;cases kl)
       . exact⟨c,qG (RS x m) (vS m hc),uG⟩
 . intro x c e
   rcases lc x c e with⟨_,z⟩|z
   . exact⟨_,z⟩
   . exact r.cell x c z
 . intro x c e
   rcases lc x c e with⟨z,_⟩|z
   . exact I.bB.fresh (aer z)
   . exact I.iA x c z
 . intro p hp
   have yG:p∈X.pn++pins:=by
     have q:p∈(X.pn++pins) ++ []:=hp
     simpa using q
   obtain⟨e,n,ne,nf,d⟩:=r.pin p yG
   refine⟨e,n,aaN ?_,λz=>?_,d⟩
   . exact aaH (I.pin p yG).1
   . rcases aaD.mp (vb _ z)with q|q
     . exact ne q
     . exact nf q
 . show(bq fr σ).length=N.length
   unfold bq;rw[aaM];exact ok.len
end
noncomputable def bV (t:FG)(c:FT)(e:FE):List D->Sg->G->Option (List D×G)
 | [],_,g=>some ([],g)
 |d::ds,σ,g=>(t d σ g).bind λq=>(c q.1 q.2).bind λk=>if k.1=true then(e q.1 k.2).bind λr=>(bV t c e ds q.1 r.2).bind λz=>some (r.1::z.1,z.2)else bV t c e ds q.1 k.2
noncomputable def UA (X:Cx)(ifs:List Expr)(t:TT):Prop :=
 ∀(pins:List (Addr×Obj)) (s:aat) (σ:L2.St) (H:Hp) (Q:Bool->Hp->Prop),Inv X pins σ H s->t σ H Q ->
  wpAny (model X.prog X.w) X.A (forIn ifs true λc r=>if r=true then do let ok <- isTrue c X.env (eval c X.env);pure (acF ok)else pure (acF r)) (TP X pins σ Q) X.xe s
structure iU (X:Cx)(ifs:List Expr)(f:FT):Prop where of ::
 un:UA X ifs (kH X.kw f)
noncomputable def aO:FT:=λ_ g=>some (true,g)
theorem En {X:Cx}:iU X [] aO:=.of (λpins s σ H Q I h=>by
 obtain⟨ι,a,g,b,e,G0,c,h,p⟩:=h
 cases h
 exact wpAny_tests_nil ⟨H,I,p H ι Ext.refl G0⟩)
theorem Eo {X:Cx}{c:Expr}{f:FT}(h:DT X c f):iU X [c] f:=.of (λpins s σ H Q I q=>wpAny_tests_one (h.un pins s σ H Q I q))
theorem Ext.Gb {H1 ι1 H' ιo p H'' kJ}(a:Ext H1 ι1 H' ιo)(b:Ext H' (Ix.hide ιo p) H'' kJ):Ext H1 ι1 H'' ⟨kJ.ix,ιo.hd,kJ.kd⟩/\kJ=Ix.hide ⟨kJ.ix,ιo.hd,kJ.kd⟩ p:=by
 have j:kJ.hd=p::ιo.hd:=b.cN
 obtain⟨r,f,f1⟩:=a.more
 obtain⟨e,l,f2⟩:=b.more
 refine⟨⟨λc o h n=>b.same c o (a.same c o h n) (a.old h n),λc h=>b.there c (a.there c h),⟨r++e,?_,λc z=>?_⟩,a.cN,λi k=>(b.mC i (show i < ιo.ix.length by rw[f,acd];omega)).trans (a.mC i k)⟩,?_⟩
 . show kJ.ix=_
   rw[l];show ιo.ix++e=_
   rw[f,ab7]
 . rcases aaE.mp z with z|z
   . exact f1 c z
   . cases q:H1 c with
     |none=>rfl
     |some o=>exact absurd (f2 c z) (a.there c (by rw[q];simp))
 . cases kJ with
   |mk ix hd kd=>dsimp only at j;rw[j];rfl
theorem Ext.Ge {H1 ι1 H' ιo p o}(a:Ext H1 ι1 H' ιo)(hp:H1 p=none):Ext H1 ι1 (upd H' p o) ιo :=
 ⟨λc u h n=>by rw[aR (bZ h hp)];exact a.same c u h n,λc h=>by
  by_cases e:c=p
  . subst e;rw[bw];simp
  . rw[aR e];exact a.there c h,a.more,a.cN,a.mC⟩
theorem Ext.UB {H1 ι1 H' ιo p}(a:Ext H1 ι1 H' ιo)(hp:H1 p=none):i7 H1 ι1 H' (Ix.hide ιo p):=
 ⟨a.same,a.there,a.more,⟨[p],by show p::ιo.hd=_;rw[a.cN];rfl,λb z=>by simp at z;subst z;exact hp⟩,a.mC⟩
abbrev Sh:=G->Option (List D)
abbrev pF:=Sg->G->Option (Sh×Nat×G)
noncomputable def z9 (K:KW)(J:It)(H:Hp)(ι:Ix)(sh:Sh)(L:Nat):Prop :=
 ∀(i:Nat) H1 ι1 g1,i7 H ι H1 ι1->ax K H1 ι1 g1->∀xs,sh g1=some xs->xs.length=L->(L<=i->J.stop i H1) /\ ∀d,xs[i]? = some d->J.go i H1 /\ ∀x H2,J.yg i H1 x H2->Ext H1 ι1 H2 ι1/\ax K H2 ι1 g1/\Rel K H2 ι1 d x
inductive Mx (K:KW)(f:pF)(σ:L2.St)(H:Hp)(R:(It->Hp->Prop)):Prop
 |mk (ι:Ix) (σd:Sg) (g:G) (sh:Sh) (L:Nat) (g':G) (h0:ax K H ι g) (h1:bN K H ι σd σ) (h2:f σd g=some (sh,L,g')) (h3:∀H' ι' J,Ext H ι H' ι'->ax K H' ι' g'->z9 K J H' ι' sh L->R J H'):Mx K f σ H R
structure vU (X:Cx)(tg iter:Expr)(f:pF):Prop where of ::
 un:PI X tg iter (Mx X.kw f)
noncomputable def cY (sh:Sh)(L:Nat)(t:FG)(c:FT)(e:FE):Nat->Sg->G->Option (List D×G)
 | 0,_,g=>(sh g).bind λxs=>if xs.length=L then some ([],g)else none
 |r+1,σ,g=>(sh g).bind λxs=>if xs.length=L then(xs[L-(r+1)]?).bind λd=>(t d σ g).bind λq=>(c q.1 q.2).bind λk=>if k.1=true then(e q.1 k.2).bind λa=>(cY sh L t c e r q.1 a.2).bind λz=>some (a.1::z.1,z.2)else cY sh L t c e r q.1 k.2 else none
theorem z_ {sh:Sh}{L:Nat}{t:FG}{c:FT}{e:FE}{σ:Sg}{g g':G}{all:List D}(h:cY sh L t c e 0 σ g=some (all,g')):∃xs,sh g=some xs/\xs.length=L/\all = []/\g'=g:=by
 simp only[cY]at h
 obtain⟨xs,a,h⟩:=bind_some h
 split at h
 . rename_i z
   cases h
   exact⟨xs,a,z,rfl,rfl⟩
 . cases h
theorem Aa {sh:Sh}{L r:Nat}{t:FG}{c:FT}{e:FE}{σ:Sg}{g:G}{o:List D×G}(h:cY sh L t c e (r+1) σ g=some o):∃xs d,sh g=some xs/\xs.length=L/\xs[L-(r+1)]? = some d/\((t d σ g).bind λq=>(c q.1 q.2).bind λk=>if k.1=true then(e q.1 k.2).bind λr'=>(cY sh L t c e r q.1 r'.2).bind λz=>some (r'.1::z.1,z.2)else cY sh L t c e r q.1 k.2)=some o:=by
 simp only[cY]at h
 obtain⟨xs,a,h⟩:=bind_some h
 split at h
 . rename_i z
   obtain⟨d,hd,h⟩:=bind_some h
   exact⟨xs,d,a,z,hd,h⟩
 . cases h
inductive CompI (X':Cx)(t:FG)(c:FT)(e:FE)(fp:List Addr)(Dl:Addr)(tn:Nat->Heap->Prop)(sh:Sh)(L:Nat)(all:List D)(H1:Hp)(ι1:Ix)(g':G)(n:Nat)(s:aat):Prop
 |mk (i:Nat) (σ:L2.St) (H:Hp) (ιo:Ix) (σd:Sg) (g:G) (vs:List V) (acc more:List D) (hn:n=L+1-i) (j_:i<=L) (I:Inv X' [] σ H s) (ti:tn i s.heap) (Gf:∀b∈fp,H b=none) (E1:Ext H1 ι1 H ιo) (G1:ax X'.kw H (Ix.hide ιo Dl) g) (S1:bN X'.kw H (Ix.hide ιo Dl) σd σ)
  (Gg:H Dl=some (.lst vs)) (vV:ag X'.kw H (Ix.hide ιo Dl) acc vs) (My:acc.length<=i) (hf:cY sh L t c e (L-i) σd g=some (more,g')) (ea:all=acc++more):CompI X' t c e fp Dl tn sh L all H1 ι1 g' n s
theorem BX {X':Cx}{tg iter elt:Expr}{ifs:List Expr}{scope:Scope}{pos:Pos}{t:FG}{c:FT}{e:FE}{J:It}{fp:List Addr}{it Dl:Addr}{tn:Nat->Heap->Prop}{all:List D}{sh:Sh}{L:Nat}{H1:Hp}{ι1:Ix}{g':G}{R:Result->aat->Prop}
   (ke:X'.xe=λ_ _=>False) (hc:X'.calm=true) (T:Turn X'.prog X'.w X'.kw tg J fp it tn) (X4:∀b∈fp,gU X' [] X'.H₀ b) (J1:z9 X'.kw J H1 ι1 sh L) (hD:H1 Dl=none) (hz:L<=aaP)
   (hg:DG X' tg t) (hi:iU X' ifs c) (he:DE X' elt e)
   (fin:∀s' σ' H' ιo vs,Inv X' [] σ' H' s'->(∀b∈fp,H' b=none)->Ext H1 ι1 H' ιo->ax X'.kw H' (Ix.hide ιo Dl) g'->H' Dl=some (.lst vs)->ag X'.kw H' (Ix.hide ιo Dl) all vs->R (.ok .next) s'):
   ∀(s:aat) (σ:L2.St) (H:Hp) (ιo:Ix) (σd:Sg) (g:G),Inv X' [] σ H s->tn 0 s.heap->(∀b∈fp,H b=none)->Ext H1 ι1 H ιo->ax X'.kw H (Ix.hide ιo Dl) g->bN X'.kw H (Ix.hide ιo Dl) σd σ->H Dl=some (.lst [])->cY sh L t c e L σd g=some (all,g') ->
    aek (model X'.prog X'.w) X'.A (.compLoop (.ListComp elt [⟨tg,iter,ifs,0⟩] scope pos) 0 (.ref it) (.ref Dl) X'.env) R s:=by
 intro s σ H ιo σd g I t0 RT E0 G0 S0 hH BY
 have pP:∀{H':Hp},(∀b∈fp,H' b=none)->∀b∈fp,gU X' [] H' b:=λhn b p=>⟨hn b p,(X4 b p).2⟩
 refine codeAny_loop rfl (CompI X' t c e fp Dl tn sh L all H1 ι1 g') ?_ (L+1)
   ⟨0,σ,H,ιo,σd,g,[],[],all,rfl,abd _,I,t0,RT,E0,G0,S0,hH,by simp[ag],aaC _,by simpa using BY,rfl⟩
 clear BY hH S0 G0 E0 RT t0 I g σd ιo H σ s
 rintro n s ⟨i,σ,H,ιo,σd,g,vs,acc,more,rfl,j_,I,ti,Gf,E1,G1,S1,Gg,vV,My,hf,rfl⟩
 show wpAny _ X'.A ((compTurn (.ListComp elt [⟨tg,iter,ifs,0⟩] scope pos) 0 (.ref it) (.ref Dl) X'.env).onRaise (λx=>do noteFrame x X'.env;theTreesLotGoes x)) _ _ s
 refine wpAny_noted ?_
 rw[compTurn_list]
 refine aas (aey (aas ?_))
 have j1:=J1 i H (Ix.hide ιo Dl) g (E1.UB hD) G1
 by_cases bR:i<L
 . rw[show L-i=(L-(i+1))+1 by omega]at hf
   obtain⟨xs,d0,t9,yI,BZ,hf⟩:=Aa hf
   rw[show L-(L-(i+1)+1)=i by omega]at BZ
   obtain⟨st,go⟩:=j1 xs t9 yI
   obtain⟨go,yl⟩:=go d0 BZ
   refine aT (T.item X' rfl rfl rfl hc i [] s σ H _ I (pP Gf) ti go) λr s4 ⟨u,hr,h4⟩=>?_
   subst hr
   refine aas (aT h4 λ_ s5 ⟨x,H5,I5,r5,y5,t5,Lc⟩=>?_)
   obtain⟨e5,G5,X5⟩:=yl x H5 y5
   obtain⟨⟨σ6,g6⟩,h6,hf⟩:=bind_some hf
   obtain⟨⟨k7,g7⟩,h7,hf⟩:=bind_some hf
   have ab:=I5.pinned (pP Lc) (T.obj _ _ t5)
   have lift:∀{α:Type} {tr:Sem α} {Q:α->aat->Prop} {E:Value->aat->Prop} {s:aat},wpAny (model X'.prog X'.w) X'.A tr Q X'.xe s->wpAny (model X'.prog X'.w) X'.A tr Q E s:=λh=>aeK h (λ_ _ q=>q) λ_ _ z=>by rw[ke]at z;exact z.elim
   have again:∀{s9:aat} {σ9:L2.St} {f:Hp} {ι9:Ix} {Gh:Sg} {g9:G} {Gi:List V} {acc9:List D} {oo:List D},Inv X' ([]++mQ fp s5.heap) σ9 f s9->Ext H1 ι1 f ι9->ax X'.kw f (Ix.hide ι9 Dl) g9->bN X'.kw f (Ix.hide ι9 Dl) Gh σ9 ->
     f Dl=some (.lst Gi)->ag X'.kw f (Ix.hide ι9 Dl) acc9 Gi->acc9.length<=i+1->cY sh L t c e (L-(i+1)) Gh g9=some (oo,g')->acc++more=acc9++oo ->
     ∃m,m<L+1-i/\CompI X' t c e fp Dl tn sh L (acc++more) H1 ι1 g' m s9:=by
    intro s9 σ9 f ι9 Gh g9 Gi acc9 oo I9 E9 G9 S9 h9 r9 l9 f9 a9
    refine⟨L+1-(i+1),by omega,i+1,σ9,f,ι9,Gh,g9,Gi,acc9,oo,rfl,bR,I9.lz,T.keep _ _ _ t5 λb p o e=>(I9.pin (b,o) (abv _ (abv _ (i_ p e)))).1,λb p=>?_,E9,G9,S9,h9,r9,l9,f9,a9⟩
    obtain⟨o,e,d⟩:=T.obj _ _ t5 b p
    exact(I9.pin (b,o) (abv _ (abv _ (i_ p e)))).2.1
   refine aas (lift (aT (hg.un _ s5 σ H5 x u (λσ' H'=>∃k,Ext H5 (Ix.hide ιo Dl) H' k/\ax X'.kw H' k g6/\bN X'.kw H' k σ6 σ') ab r5 ⟨Ix.hide ιo Dl,σd,g,d0,σ6,g6,G5,S1.ext e5,X5,h6,λH6 k Gj e6 G6 S6=>⟨k,e6,G6,S6⟩⟩) λ_ s6 q6=>?_))
   obtain⟨Gj,H6,I6,k,e6,G6,S6⟩:=q6
   refine aas (lift (aT (hi.un _ s6 Gj H6 (λb H'=>b=k7 /\ ∃l,Ext H6 k H' l/\ax X'.kw H' l g7) I6 ⟨k,σ6,g6,k7,g7,G6,S6,h7,λH7 l e7 G7=>⟨rfl,l,e7,G7⟩⟩) λok s7 q7=>?_))
   obtain⟨H7,I7,rfl,l,e7,G7⟩:=q7
   have Gk:=(e5.trans e6).trans e7
   obtain⟨E7,X6⟩:=E1.Gb Gk
   have X7:H7 Dl=some (.lst vs):=Gk.same Dl _ Gg (G1.cN Dl aaO).1
   have r7:=ag.ext Gk _ vV
   have S7:=S6.ext e7
   cases ok with
   |false =>
    simp only[aaF,if_false]at hf
    refine aau ⟨rfl,?_⟩
    rw[X6]at G7 S7 r7
    exact again I7 E7 G7 S7 X7 r7 (by omega) hf rfl
   |true =>
    simp only[if_true]at hf
    obtain⟨⟨d8,g8⟩,h8,hf⟩:=bind_some hf
    obtain⟨⟨oo,g9⟩,h9,hf⟩:=bind_some hf
    obtain⟨rfl,rfl⟩:d8::oo=more/\g9=g':=by cases hf;exact⟨rfl,rfl⟩
    refine aas (aas (lift (aT (he.un _ s7 Gj H7 (λv H'=>∃ι8,Ext H7 l H' ι8/\ax X'.kw H' ι8 g8/\Rel X'.kw H' ι8 d8 v) I7 ⟨l,σ6,g7,d8,g8,G7,S7,h8,λH8 ι8 v e8 G8 r8=>⟨ι8,e8,G8,r8⟩⟩) λy s8 q8=>?_)))
    obtain⟨v8,H8,I8,X8,ι8,e8,G8,r8⟩:=q8
    have Mz:=Gk.trans e8
    obtain⟨E8,X9⟩:=E1.Gb Mz
    have B0:H8 Dl=some (.lst vs):=Mz.same Dl _ Gg (G1.cN Dl aaO).1
    have Gm:=ag.ext Mz _ vV
    have S8:=S7.ext e8
    have hlen:vs.length<aaP:=by rw[<- vV.length];omega
    rw[X9]at G8 S8 Gm r8
    refine aas (lift (aT (tT (X:=X') _ s8 Gj H8 (.ref Dl) [v8] (.ref Dl) [y] (λ_ H'=>H'=upd H8 Dl (.lst (vs ++ [v8]))) I8 rfl (.cons X8 .nil) ⟨Dl,vs,v8,rfl,rfl,B0,hlen,rfl⟩) λ_ s9 q9=>?_))
    obtain⟨_,f,I9,_,rfl⟩:=q9
    refine aau (aau ⟨rfl,?_⟩)
    refine again (acc9:=acc ++ [d8]) I9 (E8.Ge hD) (G8.grow B0) ⟨S8.1,λj d q=>let⟨v,a,b⟩:=S8.2 j d q;⟨v,a,Rel.grow B0 d b⟩⟩ bw ?_ (by simp;omega) h9 (by simp)
    exact ag.append (ag.grow B0 _ Gm) (by simp only[ag];exact⟨v8,[],rfl,Rel.grow B0 _ r8,rfl⟩)
 . have ei:i=L:=by omega
   subst ei
   rw[ac1]at hf
   obtain⟨xs,t9,yI,rfl,rfl⟩:=z_ hf
   obtain⟨st,go⟩:=j1 xs t9 yI
   refine aT (T.done X' rfl rfl rfl hc _ [] s σ H _ I (pP Gf) ti (st (aaC _))) λr s4 ⟨hr,I4⟩=>?_
   subst hr
   exact aau (fin s4 σ H ιo vs I4 Gf E1 G1 Gg (by simpa using vV))
noncomputable def bQ (mk:List D->G->Option (D×G))(fi:FI)(fr:List (Option Nat))(t:FG)(c:FT)(e:FE):FE:=λσ g=>(fi σ g).bind λr=>if az r.1.length=true then(bV t c e r.1 (bq fr σ) r.2).bind λq=>mk q.1 q.2 else none
noncomputable def kL (mk:List D->G->Option (D×G))(fi:pF)(fr:List (Option Nat))(t:FG)(c:FT)(e:FE):FE:=λσ g=>(fi σ g).bind λr=>if az r.2.1=true then(cY r.1 r.2.1 t c e r.2.1 (bq fr σ) r.2.2).bind λq=>mk q.1 q.2 else none
noncomputable def bU (ds:List D)(g:G):Option (D×G):=some (.lst ds,g)
theorem bN.sub {K H ι σd σ}(fr:List (Option Nat))(h:bN K H ι σd σ):bN K H ι (bq fr σd) (bq fr σ):=by
 refine⟨by simp[bq],λj d q=>?_⟩
 unfold bq at q ⊢
 rw[abE]at q ⊢
 cases hf:fr[j]? with
 |none=>rw[hf]at q;cases q
 |some o =>
  rw[hf]at q
  cases o with
  |none=>cases q
  |some i =>
   have c:σd[i]? = some (some d):=by
    simp only[abo,abW]at q
    cases z:σd[i]? with
    |none=>rw[z]at q;cases q
    |some w=>rw[z]at q;simp at q;rw[q]
   obtain⟨v,b,a⟩:=h.2 i d c
   exact⟨v,by simp[b],a⟩
section
variable {X:Cx}{tg iter elt:Expr}{ifs:List Expr}{scope:Scope}{pos gF:Pos}{N:List Str}{fr:List (Option Nat)}{fi:pF}{t:FG}{c:FT}{e:FE}
theorem t_ {pins:List (Addr×Obj)}{s:aat}{σ:L2.St}{H:Hp}{ι:Ix}{σd:Sg}{g g1 g':G}{all:List D}{sh:Sh}{L:Nat}{use:Option (Value->Sem Unit)}{Q:Value->aat->Prop}
  (ke:X.xe=λ_ _=>False) (hc:X.calm=true) (ok:gn X N fr scope) (hit:vU X tg iter fi) (cM:∀C s3 H fp pins,DG (bS X N scope C s3 H fp pins) tg t/\iU (bS X N scope C s3 H fp pins) ifs c/\DE (bS X N scope C s3 H fp pins) elt e)
  (hs:∀x,abD iter X.env x=pure x) (I:Inv X pins σ H s) (G0:ax X.kw H ι g) (S0:bN X.kw H ι σd σ) (h1:fi σd g=some (sh,L,g1)) (hz:az L=true) (h2:cY sh L t c e L (bq fr σd) g1=some (all,g'))
  (fin:∀s' H' ιo vs Dl C,Inv X pins σ H' s'->gU X pins H' C->(∃m,s'.heap.Ns C m)->Ext H ι H' ιo->ax X.kw H' (Ix.hide ιo Dl) g'->H' Dl=some (.lst vs)->ag X.kw H' (Ix.hide ιo Dl) all vs->Dl ∉ ιo.hd->H Dl=none->compPost (model X.prog X.w) X.A X.xe use Q (.ref Dl) C (.ok .next) s'):
  wpAny (model X.prog X.w) X.A (comprehension (.ListComp elt [⟨tg,iter,ifs,0⟩] scope pos) scope X.env gF (newList []) false (eval iter X.env) use) Q X.xe s:=by
 have free:∀x∈scope.names,x.2 = .free->∃c,X.env.cells.lookup x.1=some c:=λx hx hk=>I.ok.has x.1 (ok.free x hx hk).2
 refine wpAny_comprehension_free (use:=use) rfl hs (uD free) ok.kind ok.names (aT (hit.un pins s σ H (λJ H'=>∃h,Ext H ι H' h/\ax X.kw H' h g1/\z9 X.kw J H' h sh L) I ⟨ι,σd,g,sh,L,g1,G0,S0,h1,λH1 h J n r J1=>⟨h,n,r,J1⟩⟩) λxv s1 qH=>aT qH λK8 s2 q2=>?_)
 obtain⟨it,fp,tn,J,H1,rfl,I1,T,t1,f1,h,n,r,J1⟩:=q2
 refine aba ?_
 have l:H1 s2.heap.objs.size=none:=I1.bB.fresh (aaC _)
 generalize BJ:({ s2 with heap:=s2.heap.push { cls:=.type "list",dict:=none,data:=.seq ([]:List Value).toArray } }:aat)=s3
 have y:Inv X pins σ (upd H1 s2.heap.objs.size (.lst [])) s3:=by
  rw[<- BJ]
  exact I1.laid (t':=s2.toks) (λb u e=>aaw _ e) (aaC _) ⟨abd _,[],0,.nil,aaG _ rfl⟩
 have k3:∀b o,s2.heap.get? b=some o->s3.heap.get? b=some o:=λb o e=>by rw[<- BJ];exact aaw _ e
 have RU:s3.heap.objs.size=s2.heap.objs.size+1:=by rw[<- BJ];exact aci ..
 have mZ:∀b∈fp,b<s2.heap.objs.size:=λb f=>let⟨o,eo,_⟩:=T.obj _ _ t1 b f;aaH eo
 have i:∀b∈fp,gU X pins (upd H1 s2.heap.objs.size (.lst [])) b:=λb f=>⟨by rw[aR (aaN (mZ b f))];exact(f1 b f).1,(f1 b f).2⟩
 refine xY (QL y) λh4 UC k4 kc=>?_
 have I4:=z8 (tk:=s3.toks) ok y i (λb f=>by rw[RU];exact abe (mZ b f)) UC k4 kc
 obtain⟨hg,hi,he⟩:=cM s3.heap.objs.size s3 (upd H1 s2.heap.objs.size (.lst [])) fp pins
 have t4:tn 0 h4:=T.keep _ _ _ t1 λb f o e=>k4 b o (k3 b o e)
 have fx:∀b∈fp,gU (bS X N scope s3.heap.objs.size s3 (upd H1 s2.heap.objs.size (.lst [])) fp pins) [] (upd H1 s2.heap.objs.size (.lst [])) b:=λb f=>by
  refine⟨(i b f).1,?_,?_,.inl f,?_,?_⟩
  . exact aaN (by rw[RU];exact abe (mZ b f))
  . exact I4.ok.vd b f
  . exact(I4.ok.KH b f).2
  . intro p hp
    have yG:p∈X.pn++pins:=by
      have q:p∈(X.pn++pins) ++ []:=hp
      simpa using q
    exact(f1 b f).2.2.2.2.2 p yG
 have loop:aek (model X.prog X.w) X.A (.compLoop (.ListComp elt [⟨tg,iter,ifs,0⟩] scope pos) 0 (.ref it) (.ref s2.heap.objs.size) (compEnvC scope (cellsOf scope X.env s3.heap.objs.size) s3.heap.objs.size X.env))
    (compPost (model X.prog X.w) X.A X.xe use Q (.ref s2.heap.objs.size) s3.heap.objs.size) { s3 with heap:=h4 }:=by
  refine BX (X':=bS X N scope s3.heap.objs.size s3 (upd H1 s2.heap.objs.size (.lst [])) fp pins) (all:=all) (g':=g') rfl hc T fx J1 l (az.le hz) hg hi he ?_ _ _ _ h (bq fr σd) g1 I4 t4 (λb f=>(i b f).1) ((Ext.refl (H:=H1) (ι:=h)).Ge l) (r.hide l) ?_ bw h2
  . intro s' σ' H' ιo vs k ab E' G' X_ r'
    have I5:Inv X pins σ H' s':=y.Qb (ch:=fp) k.os k.base k.bB k.bare λb f=>⟨(i b f).2.2.2.1,(i b f).2.1,(i b f).2.2.2.2.1,(i b f).2.2.2.2.2⟩
    obtain⟨m,hm,_⟩:=k.loc
    refine fin s' H' ιo vs _ _ I5 ?_ ⟨m,hm⟩ (n.trans E') G' X_ r' ?_ ?_
    . have z:=y.mO (H':=H') (b:=s3.heap.objs.size) (aaC _) k.free
      exact z
    . rw[E'.cN];exact r.iJ l
    . cases q:H s2.heap.objs.size with
      |none=>rfl
      |some o=>exact absurd l (n.there _ (by rw[q];simp))
  . have S1:bN X.kw H1 h (bq fr σd) (bq fr σ):=(S0.ext n).sub fr
    exact⟨S1.1,λj d q=>let⟨v,a,b⟩:=S1.2 j d q;⟨v,a,Rel.hide l d b⟩⟩
 exact codeAny_compStart_list loop (T.self _ 0 _ _ _ t4 loop)
theorem pU {H ι H' ιo K g' all vs Dl d gg Q}(e:Ext H ι H' ιo)(G':ax K H' (Ix.hide ιo Dl) g')(hD:H' Dl=some (.lst vs))(r:ag K H' (Ix.hide ιo Dl) all vs)(hn:Dl ∉ ιo.hd)(hm:bU all g'=some (d,gg))(p:gG K H ι d gg Q):Q (.ref Dl) H':=by
 cases hm
 refine p H' ιo _ e G'.show ?_
 simp only[Rel]
 exact⟨Dl,vs,rfl,.inl ⟨.inl hD,(G'.cN Dl aaO).1,hn⟩,ag.show _ r⟩
end
section
variable {X:Cx}{tg iter elt:Expr}{ifs:List Expr}{scope:Scope}{pos gF:Pos}{N:List Str}{fr:List (Option Nat)}{fi:pF}{t:FG}{c:FT}{e:FE}
theorem vW (ke:X.xe=λ_ _=>False)(hc:X.calm=true)(ok:gn X N fr scope)(hit:vU X tg iter fi)(cM:∀C s3 H fp pins,DG (bS X N scope C s3 H fp pins) tg t/\iU (bS X N scope C s3 H fp pins) ifs c/\DE (bS X N scope C s3 H fp pins) elt e)
   (hs:∀x,abD iter X.env x=pure x:=by intro _;rfl):DE X (.ListComp elt [⟨tg,iter,ifs,0⟩] scope pos) (kL bU fi fr t c e):=.of (by
 intro pins s σ H Q I h
 obtain⟨ι,σd,g,d,gg,G0,S0,h,p⟩:=h
 obtain⟨⟨sh,L,g1⟩,l,h⟩:=bind_some h
 dsimp only at h
 split at h
 . rename_i j
   obtain⟨⟨all,g'⟩,i,h⟩:=bind_some h
   rw[eval_ListComp]
   refine t_ (use:=none) ke hc ok hit cM hs I G0 S0 l j i λq n ιo vs z C a fC ⟨m,hm⟩ e' f hD r y BY=>?_
   refine⟨m,hm,λGn sb=>⟨.ref z,n,?_,rfl,pU e' f hD r y h p⟩⟩
   obtain⟨f0,f1,f2,k,f4,u⟩:=fC
   exact a.turned (t':=q.toks) (λb o v e=>sb.extBut b o v e) f0 f1 k f4 u
 . cases h)
theorem m_ {mk:List D->G->Option (D×G)}{i:Nat}{x:Str}{px nc:Pos}(Ya:∀{H ι H' ιo g' all vs Dl d gg Q},Ext H ι H' ιo->H Dl=none->ax X.kw H' (Ix.hide ιo Dl) g'->H' Dl=some (.lst vs)->ag X.kw H' (Ix.hide ιo Dl) all vs->Dl ∉ ιo.hd->mk all g'=some (d,gg)->gG X.kw H ι d gg Q->Q (.ref Dl) H')
   (ke:X.xe=λ_ _=>False) (hc:X.calm=true) (ok:gn X N fr scope) (hit:vU X tg iter fi) (cM:∀C s3 H fp pins,DG (bS X N scope C s3 H fp pins) tg t/\iU (bS X N scope C s3 H fp pins) ifs c/\DE (bS X N scope C s3 H fp pins) elt e)
   (hN:X.N.Nodup) (hi:X.N[i]? = some x) (hx:Loc X.env.scope x)
   (qJ:adW (.ListComp elt [⟨tg,iter,ifs,0⟩] scope pos) (some (.Name x px)) nc.line X.env=pure true)
   (hs:∀x,abD iter X.env x=pure x) (hf:X.fn x=true\/X.env.scope.names.lookup x=some .local):DS X (.Assign [.Name x px] (.ListComp elt [⟨tg,iter,ifs,0⟩] scope pos) nc) (aM (kL mk fi fr t c e) (gN i)):=.of (by
 intro pins s σ H q I h
 obtain⟨ι,n,g,r,b4,gg,G0,y,h0,p⟩:=h
 obtain⟨⟨d,vX⟩,qH,hr⟩:=bind_some h0
 have fI:some (F.nx,n.set i (some d),vX)=some (r,b4,gg):=hr
 clear h0
 obtain⟨⟨sh,L,g1⟩,h1,f⟩:=bind_some (x:=fi n g) qH
 dsimp only at f
 split at f
 . rename_i hz
   obtain⟨⟨all,g'⟩,h2,h4⟩:=bind_some f
   rw[exec_Assign_Name_used _ _ _ _ qJ]
   refine aas (aey (aas ?_))
   show wpAny _ X.A (do let _ <- comprehension (.ListComp elt [⟨tg,iter,ifs,0⟩] scope pos) scope X.env _ (newList []) false (eval iter X.env) (some (ad3 (.Name x px) X.env))) _ _ s
   refine aas (aeK (t_ (use:=some (ad3 (.Name x px) X.env)) (Q:=λ_ k=>SP X pins q .next k) ke hc ok hit cM hs I G0 y h1 hz h2 λk H' ιo vs Dl C I' fC ⟨m,hm⟩ e' G' hD r hn BY=>?_) (λ_ k hq=>aau (aau hq)) λ_ _ e=>e)
   show wpAny _ X.A (ad3 (.Name x px) X.env (.ref Dl)) _ _ _
   refine wpAny_assign_Name (tH I' hN hi hx (v:=.ref Dl) rfl (λvp l ⟨a,sb,j⟩=>?_) hf)
   obtain⟨f0,f1,f2,f3,f4,f5⟩:=fC
   have Yb:C≠a:=by
    rcases j with rfl|j
    . exact f1
    . exact λz=>f4 _ _ j z.symm
   obtain⟨oc,es,ep,ho,rest⟩:=hm
   refine⟨m,⟨oc,es,ep,(sb.2 C Yb).trans ho,rest⟩,λGn Yc=>?_⟩
   refine⟨σ.set i (some (.ref Dl)),H',l.turned (t':=vp.toks) (λb o hb e=>Yc.extBut b o hb e) f0 f1 f3 f4 f5,?_⟩
   cases fI
   exact Ya (Q:=λv H'=>q.nx (σ.set i (some v)) H') e' BY G' hD r hn h4 λH2 ι2 v u G2 r2=>p H2 ι2 u G2 _ ((y.ext u).set r2 i)
 . cases f)
end
noncomputable def B1 (fi:FI):pF:=λσ g=>(fi σ g).map λr=>(λ_=>some r.1,r.1.length,r.2)
theorem vY {X:Cx}{tg iter:Expr}{fi:FI}(h:DI X tg iter fi):vU X tg iter (B1 fi):=.of (PI.imp h.un λσ H Q q=>by
 obtain⟨ι,o,g,x,L,z,G0,u,a,p⟩:=q
 obtain⟨⟨ds,g1⟩,l,e⟩:=aaK.mp a
 cases e
 exact⟨ι,o,g,ds,g1,G0,u,l,λn v J r k j=>p n v J r k λi H1 s g2 b c xs f y=>by
  cases f
  exact j i H1 s g2 b c⟩)
theorem sg {ds:List D}{t:FG}{c:FT}{e:FE}:∀(k:Nat) (σ:Sg) (g:G),k<=ds.length->cY (λ_=>some ds) ds.length t c e k σ g=bV t c e (ds.drop (ds.length-k)) σ g
 | 0,σ,g,_=>by simp[cY,bV]
 |k+1,σ,g,h=>by
  have a:ds.length-(k+1)<ds.length:=by omega
  rw[acD a,show ds.length-(k+1)+1=ds.length-k by omega]
  simp only[cY,bV,aax,if_true,aay a]
  refine congrArg _ (funext λq=>congrArg _ (funext λb=>?_))
  split
  . refine congrArg _ (funext λr=>?_)
    rw[sg k _ _ (by omega)]
  . rw[sg k _ _ (by omega)]
theorem yK {mk:List D->G->Option (D×G)}{fi:FI}{fr:List (Option Nat)}{t:FG}{c:FT}{e:FE}:bQ mk fi fr t c e=kL mk (B1 fi) fr t c e:=by
 funext σ g
 unfold bQ kL B1
 cases fi σ g with
 |none=>rfl
 |some r =>
  simp only[aax,abo]
  rw[sg _ _ _ (aaC _),ac1,adj]
section
variable {X:Cx}{tg iter elt:Expr}{ifs:List Expr}{scope:Scope}{pos gF:Pos}{N:List Str}{fr:List (Option Nat)}{fi:FI}{t:FG}{c:FT}{e:FE}
theorem Jh (ke:X.xe=λ_ _=>False)(hc:X.calm=true)(ok:gn X N fr scope)(hit:DI X tg iter fi)(cM:∀C s3 H fp pins,DG (bS X N scope C s3 H fp pins) tg t/\iU (bS X N scope C s3 H fp pins) ifs c/\DE (bS X N scope C s3 H fp pins) elt e)
  (hs:∀x,abD iter X.env x=pure x:=by intro _;rfl):DE X (.ListComp elt [⟨tg,iter,ifs,0⟩] scope pos) (bQ bU fi fr t c e):=by
 rw[yK];exact vW ke hc ok (vY hit) cM hs
theorem Ab {i:Nat}{x:Str}{px nc:Pos}(ke:X.xe=λ_ _=>False)(hc:X.calm=true)(ok:gn X N fr scope)(hit:DI X tg iter fi)(cM:∀C s3 H fp pins,DG (bS X N scope C s3 H fp pins) tg t/\iU (bS X N scope C s3 H fp pins) ifs c/\DE (bS X N scope C s3 H fp pins) elt e)
  (hN:X.N.Nodup) (hi:X.N[i]? = some x) (hx:Loc X.env.scope x) (qJ:adW (.ListComp elt [⟨tg,iter,ifs,0⟩] scope pos) (some (.Name x px)) nc.line X.env=pure true:=by rfl)
  (hs:∀x,abD iter X.env x=pure x:=by intro _;rfl) (hf:X.fn x=true\/X.env.scope.names.lookup x=some .local:=by first|exact .inl rfl|exact .inr rfl|assumption):
  DS X (.Assign [.Name x px] (.ListComp elt [⟨tg,iter,ifs,0⟩] scope pos) nc) (aM (bQ bU fi fr t c e) (gN i)):=
 by rw[yK];exact m_ (λf _ a hD r h b p=>pU f a hD r h b p) ke hc ok (vY hit) cM hN hi hx qJ hs hf
end
noncomputable def gB (sh:Sh)(L:Nat)(t:FG)(b:FS):Nat->FS
 | 0,σ,g=>(sh g).bind λxs=>if xs.length=L then some (.nx,σ,g)else none
 |r+1,σ,g=>(sh g).bind λxs=>if xs.length=L then(xs[L-(r+1)]?).bind λd=>(t d σ g).bind λq=>(b q.1 q.2).bind λa=>match a.1 with
   |.nx=>gB sh L t b r a.2.1 a.2.2
   |.ct=>gB sh L t b r a.2.1 a.2.2
   |.bk=>some (.nx,a.2.1,a.2.2)
   |.rt d=>some (.rt d,a.2.1,a.2.2)
  else none
noncomputable def qK (fi:pF)(t:FG)(b:FS):FS:=λσ g=>(fi σ g).bind λr=>gB r.1 r.2.1 t b r.2.1 σ r.2.2
section
variable {X:Cx}{tg:Expr}{pos:Pos}
inductive Ep (X:Cx)(t:FG)(b:FS)(sh:Sh)(L:Nat)(H1:Hp)(ι1:Ix)(r:F)(b4:Sg)(g':G)(i:Nat)(σ2:L2.St)(H2:Hp):Prop
 |mk (ι2:Ix) (qE:Sg) (g2:G) (e2:Ext H1 ι1 H2 ι2) (G2:ax X.kw H2 ι2 g2) (S2:bN X.kw H2 ι2 qE σ2) (hf:gB sh L t b (L-i) qE g2=some (r,b4,g')):Ep X t b sh L H1 ι1 r b4 g' i σ2 H2
theorem yL {iter:Expr}{body:List Stmt}{fi:pF}{t:FG}{b:FS}(hp:aeF (model X.prog X.w) X.A X.env X.xe)(hc:X.calm=true)(hi:vU X tg iter fi)(hg:DG X tg t)(hb:j8 X body b)
   (hs:∀x,abD iter X.env x=pure x:=by intro _;rfl):DS X (.For tg iter body [] pos) (qK fi t b):=.of (PS.imp (La hp hc hi.un hg.un hb.un hs) λDn σ H h=>by
 obtain⟨ι,σd,g,r,b4,g',G0,S0,h,p⟩:=h
 obtain⟨⟨n,L,g1⟩,h1,h⟩:=bind_some h
 refine⟨ι,σd,g,n,L,g1,G0,S0,h1,λH1 ι1 J j G1 J1=>?_⟩
 dsimp only at h
 refine⟨λi m s a=>m=L-i/\i<=L/\Ep X t b n L H1 ι1 r b4 g' i s a,
   ⟨L,by simp,abd _,ι1,σd,g1,Ext.refl,G1,S0.ext j,by simpa using h⟩,?_⟩
 rintro i m s a ⟨rfl,hi,o,qE,g2,e2,G2,S2,hf⟩
 have j1:=J1 i a o g2 e2.fH G2
 by_cases bR:i<L
 . rw[show L-i=(L-(i+1))+1 by omega]at hf
   simp only[gB]at hf
   obtain⟨xs,l,hf⟩:=bind_some hf
   split at hf
   . rename_i z
     obtain⟨d0,BZ,hf⟩:=bind_some hf
     rw[show L-(L-(i+1)+1)=i by omega]at BZ
     obtain⟨⟨σ3,g3⟩,h3,hf⟩:=bind_some hf
     obtain⟨⟨r4,σ4,u⟩,h4,hf⟩:=bind_some hf
     obtain⟨st,go⟩:=j1 xs l z
     obtain⟨go,yl⟩:=go d0 BZ
     refine .inr ⟨go,λσ5 H5=>Ep X t b n L H1 ι1 r b4 g' (i+1) σ5 H5,?_,?_⟩
     . rintro σ5 H5 ⟨ι5,Yd,g5,e5,G5,S5,h5⟩
       exact⟨L-(i+1),by omega,rfl,bR,ι5,Yd,g5,e5,G5,S5,h5⟩
     . intro x H' y
       obtain⟨e3,G3,r3⟩:=yl x H' y
       refine⟨o,qE,g2,d0,σ3,g3,G3,S2.ext e3,r3,h3,λH6 ι6 σ6 e6 G6 S6=>?_⟩
       refine⟨ι6,σ3,g3,r4,σ4,u,G6,S6,h4,λH7 c e7 k=>?_⟩
       have f:=e2.trans (e3.trans (e6.trans e7))
       cases r4 with
       |nx=>exact λq S7=>⟨c,σ4,u,f,k,S7,hf⟩
       |ct=>exact λq S7=>⟨c,σ4,u,f,k,S7,hf⟩
       |bk=>cases hf;exact λq S7=>p H7 c (j.trans f) k q S7
       |rt d=>cases hf;exact λv r7=>p H7 c (j.trans f) k v r7
   . cases hf
 . have e:i=L:=by omega
   subst e
   rw[ac1]at hf
   simp only[gB]at hf
   obtain⟨xs,l,hf⟩:=bind_some hf
   split at hf
   . rename_i z
     cases hf
     obtain⟨st,_⟩:=j1 xs l z
     exact .inl ⟨st (aaC _),p a o (j.trans e2) G2 s S2⟩
   . cases hf)
end
theorem yM {ds:List D}{t:FG}{b:FS}:∀(k:Nat) (σ:Sg) (g:G),k<=ds.length->gB (λ_=>some ds) ds.length t b k σ g=forL t b (ds.drop (ds.length-k)) σ g
 | 0,σ,g,_=>by simp[gB,forL]
 |k+1,σ,g,h=>by
  have a:ds.length-(k+1)<ds.length:=by omega
  rw[acD a,show ds.length-(k+1)+1=ds.length-k by omega]
  simp only[gB,forL,aax,if_true,aay a,yM k _ _ (aer h)]<;>rfl
theorem MA {fi:FI}{t:FG}{b:FS}:e_ fi t b=qK (B1 fi) t b:=by
 funext σ g
 unfold e_ qK B1
 cases fi σ g with
 |none=>rfl
 |some r =>
  simp only[aax,abo]
  rw[yM _ _ _ (aaC _),ac1,adj]
theorem MB {X:Cx}{tg:Expr}{pos:Pos}{iter:Expr}{body:List Stmt}{fi:FI}{t:FG}{b:FS}(hp:aeF (model X.prog X.w) X.A X.env X.xe)(hc:X.calm=true)(hi:DI X tg iter fi)(hg:DG X tg t)(hb:j8 X body b)
  (hs:∀x,abD iter X.env x=pure x:=by intro _;rfl):DS X (.For tg iter body [] pos) (e_ fi t b):=by
 rw[MA];exact yL hp hc (vY hi) hg hb hs
noncomputable def bK (c:Int->Int->Bool)(f:Int->Int->Int)(d1 d2:D)(g:G):Option (D×G):=match d1,d2 with
 |.int i,.int j=>if c i j=true then some (.int (f i j),g)else none
 |_,_=>none
noncomputable def qL (f:Int->Int->Bool)(d1 d2:D)(g:G):Option (D×G):=match d1,d2 with
 |.int i,.int j=>some (.bl (f i j),g)
 |_,_=>none
noncomputable def cf (_ _:Int):Bool:=true
noncomputable def cT (i j:Int):Bool:=adD i.natAbs 18446744073709551615||adD j.natAbs 18446744073709551615
noncomputable def iB (_ j:Int):Bool:=adD 1 j.toNat&&adD j.toNat 1073741823
noncomputable def eH (_ j:Int):Bool:=adD 1 j.toNat
noncomputable def dX (i j:Int):Bool:=(match j with|.ofNat n=>adD n 1000000|.negSucc _=>false)&&adD i.natAbs 18446744073709551615
section
variable {X:Cx}
theorem gZ {f:Value->Value->Sem Value}{C:Int->Int->Prop}{c:Int->Int->Bool}{fi:Int->Int->Int}(h:aY X f (rI C λi j=>.int (fi i j)))(hc:∀i j,c i j=true->C i j):aY X f (cC X.kw (bK c fi)):=by
 intro pins s σ H x y v u Q I k e q
 obtain⟨ι,g,n,l,d,o,G0,b,a,q,p⟩:=q
 cases n with
 |int i =>
  cases l with
  |int j =>
   simp only[Rel]at b a;subst b;subst a
   simp only[bK]at q
   split at q
   . rename_i z
     cases q
     exact h pins s σ H _ _ v u Q I k e ⟨i,j,rfl,rfl,hc i j z,p H ι _ Ext.refl G0 (by simp[Rel])⟩
   . cases q
  |_=>cases q
 |_=>cases q
theorem oq {g:Int->Int->V}{x y:V}{H:Hp}{Q:VK}(h:rI (λ_ _=>True) g x y H Q):mw g x y H Q:=let⟨i,j,a,b,_,q⟩:=h;⟨i,j,a,b,q⟩
theorem aY.imp {f:Value->Value->Sem Value}{r r':R2}(h:aY X f r)(i:∀x y H Q,r' x y H Q->r x y H Q):aY X f r':=λpins s σ H x y v u Q I b a q=>h pins s σ H x y v u Q I b a (i _ _ _ _ q)
theorem MC:aY X (abp .Sub) (cC X.kw (bK cf (· - ·))):=gZ (aY.imp Lf λ_ _ _ _=>oq) λ_ _ _=>trivial
theorem Ji:aY X (abp .Add) (cC X.kw (bK cf (· + ·))):=gZ (aY.imp Le λ_ _ _ _=>oq) λ_ _ _=>trivial
theorem Jj:aY X (abp .Mult) (cC X.kw (bK cT (· * ·))):=gZ Lg λi j h=>by
 unfold cT at h
 simp only[abx]at h
 rcases h with h|h
 . have:=abw h
   exact .inl ⟨by omega,by omega⟩
 . have:=abw h
   exact .inr ⟨by omega,by omega⟩
theorem Jk:aY X (abp .FloorDiv) (cC X.kw (bK iB (· / ·))):=gZ Iw λi j h=>by
 unfold iB at h
 simp only[aav]at h
 have b:=abw h.1
 have a:=abw h.2
 exact⟨by omega,by omega⟩
theorem MD:aY X (abp .Mod) (cC X.kw (bK eH (· % ·))):=gZ Lh λi j h=>by
 have a:=abw (show adD 1 j.toNat=true from h)
 show 0<j
 omega
theorem ME:aY X (abp .Pow) (cC X.kw (bK dX (λi j=>i ^ j.toNat))):=gZ Li λi j h=>by
 unfold dX at h
 simp only[aav]at h
 have a:=abw h.2
 cases j with
 |ofNat n =>
  have b:=abw (show adD n 1000000=true from h.1)
  exact⟨ahe n,(by show((n:Nat):Int)<=1000000;omega),(by omega)⟩
 |negSucc n=>exact absurd h.1 (by simp)
theorem uO {f:Value->Value->Sem Value}{fi:Int->Int->Bool}(h:aY X f (mw λi j=>.bl (fi i j))):aY X f (cC X.kw (qL fi)):=by
 intro pins s σ H x y v u Q I e c q
 obtain⟨ι,g,l,k,d,n,G0,b,a,q,p⟩:=q
 cases l with
 |int i =>
  cases k with
  |int j =>
   simp only[Rel]at b a;subst b;subst a
   cases q
   exact h pins s σ H _ _ v u Q I e c ⟨i,j,rfl,rfl,p H ι _ Ext.refl G0 (by simp[Rel])⟩
  |_=>cases q
 |_=>cases q
theorem QM:aY X (aa8 .Lt) (cC X.kw (qL λi j=>decide (i<j))):=uO Qr
theorem QN:aY X (aa8 .LtE) (cC X.kw (qL λi j=>decide (i<=j))):=uO Qs
theorem QO:aY X (aa8 .Gt) (cC X.kw (qL λi j=>decide (j<i))):=uO Qt
theorem QP:aY X (aa8 .GtE) (cC X.kw (qL λi j=>decide (j<=i))):=uO Qu
noncomputable def lG (d:D)(g:G):Option (D×G):=match d with|.int i=>some (.int (-i),g)|_=>none
theorem MF:Bi X (unaryOp .USub) (Mb X.kw lG):=by
 intro pins s σ H x v Q I c q
 obtain⟨ι,g,b,d,e,G0,a,q,p⟩:=q
 cases b with
 |int i =>
  simp only[Rel]at a;subst a
  cases q
  exact Ll pins s σ H _ v Q I c ⟨i,rfl,p H ι _ Ext.refl G0 (by simp[Rel])⟩
 |_=>cases q
mutual
noncomputable def flat:D->Bool
 |.ref _=>false
 |.de=>false
 |.aG _=>false
 |.fn _=>false
 |.tup xs=>aP xs
 |.lst xs=>aP xs
 |_=>true
noncomputable def aP:List D->Bool
 | []=>true
 |d::ds=>flat d&&aP ds
end
mutual
noncomputable def aJ:D->D->Bool
 |.ay,.ay=>true
 |.bl a,.bl b=>a == b
 |.bl a,.int b=>(if a then 1 else 0)== b
 |.int a,.bl b=>a == (if b then 1 else 0)
 |.int a,.int b=>a == b
 |.str a,.str b=>a == b
 |.tup xs,.tup ys=>b6 xs ys
 |.lst xs,.lst ys=>b6 xs ys
 |_,_=>false
noncomputable def b6:List D->List D->Bool
 | [],[]=>true
 |x::xs,y::ys=>aJ x y&&b6 xs ys
 |_,_=>false
end
mutual
noncomputable def dep:D->Nat
 |.tup xs=>bW xs+1
 |.lst xs=>bW xs+1
 |_=>0
noncomputable def bW:List D->Nat
 | []=>0
 |d::ds=>max (dep d) (bW ds)
end
mutual
theorem lH:∀d:D,flat d=true->aJ d d=true
 |.ay,_=>by simp[aJ]
 |.bl _,_=>by simp[aJ]
 |.int _,_=>by simp[aJ]
 |.str _,_=>by simp[aJ]
 |.tup xs,h=>by simp only[aJ];exact ng xs h
 |.lst xs,h=>by simp only[aJ];exact ng xs h
theorem ng:∀ds:List D,aP ds=true->b6 ds ds=true
 | [],_=>by simp[b6]
 |d::ds,h=>by
  simp only[aP,aav]at h
  simp only[b6,aav]
  exact⟨lH d h.1,ng ds h.2⟩
end
theorem lI:∀xs ys:List D,b6 xs ys=((aaz (min xs.length ys.length)).all (λj=>aJ (xs[j]?.getD .ay) (ys[j]?.getD .ay))&&xs.length == ys.length)
 | [],[]=>by simp[b6]
 | [],y::ys=>by simp[b6]
 |x::xs,[]=>by simp[b6]
 |x::xs,y::ys=>by
  simp only[b6,lI xs ys,adt,Nat.succ_min_succ,List.range_succ_eq_map,acu,abb,ah7,acs,abF,abg]
  rw[agn]
  congr 2
  simp
theorem ou {pins:List (Addr×Obj)}{σ:L2.St}{H:Hp}{s:aat}{a:Addr}{xs ys:List V}(I:Inv X pins σ H s)(h:dS X.kw H a xs)(h':da X.kw H a ys):False:=by
 obtain⟨f,_,c,_⟩:=I.tuple h
 obtain⟨b,_,e,_⟩:=I.list h'
 exact SeqAt.ne_of_list_tuple e.isList c rfl
mutual
theorem Rel.inj {pins:List (Addr×Obj)}{σ:L2.St}{H:Hp}{s:aat}{ι:Ix}(I:Inv X pins σ H s):∀(d1 d2:D) {v:V},flat d1=true->flat d2=true->Rel X.kw H ι d1 v->Rel X.kw H ι d2 v->d1=d2
 |.ay,d2,v,_,f2,r1,r2=>by
  simp only[Rel]at r1;subst r1
  cases d2<;>simp_all[Rel,flat]
 |.bl _,d2,v,_,f2,r1,r2=>by
  simp only[Rel]at r1;subst r1
  cases d2<;>simp_all[Rel,flat]
 |.int _,d2,v,_,f2,r1,r2=>by
  simp only[Rel]at r1;subst r1
  cases d2<;>simp_all[Rel,flat]
 |.str _,d2,v,_,f2,r1,r2=>by
  simp only[Rel]at r1;subst r1
  cases d2<;>simp_all[Rel,flat]
 |.tup xs,d2,v,f1,f2,r1,r2=>by
  simp only[Rel]at r1
  obtain⟨a,j,rfl,c,i⟩:=r1
  cases d2 with
  |tup ys =>
   simp only[Rel]at r2
   obtain⟨h,ws,e,b,f⟩:=r2
   cases e
   have:=I.mN c.sq b.sq
   subst this
   rw[ag.inj I xs ys f1 f2 i f]
  |lst ys =>
   simp only[Rel]at r2
   obtain⟨h,ws,e,b,f⟩:=r2
   cases e
   exact(ou I c.sq b.sq).elim
  |de=>cases f2
  |ref n=>cases f2
  |aG n=>cases f2
  |fn x=>cases f2
  |_=>simp[Rel]at r2
 |.lst xs,d2,v,f1,f2,r1,r2=>by
  simp only[Rel]at r1
  obtain⟨a,j,rfl,c,i⟩:=r1
  cases d2 with
  |lst ys =>
   simp only[Rel]at r2
   obtain⟨h,ws,e,b,f⟩:=r2
   cases e
   have:=I.vh c.sq b.sq
   subst this
   rw[ag.inj I xs ys f1 f2 i f]
  |tup ys =>
   simp only[Rel]at r2
   obtain⟨h,ws,e,b,f⟩:=r2
   cases e
   exact(ou I b.sq c.sq).elim
  |de=>cases f2
  |ref n=>cases f2
  |aG n=>cases f2
  |fn x=>cases f2
  |_=>simp[Rel]at r2
 |.de,d2,v,f1,_,_,_=>by cases f1
 |.ref _,d2,v,f1,_,_,_=>by cases f1
 |.aG _,d2,v,f1,_,_,_=>by cases f1
 |.fn _,d2,v,f1,_,_,_=>by cases f1
theorem ag.inj {pins:List (Addr×Obj)}{σ:L2.St}{H:Hp}{s:aat}{ι:Ix}(I:Inv X pins σ H s):∀(ds es:List D) {vs:List V},aP ds=true->aP es=true->ag X.kw H ι ds vs->ag X.kw H ι es vs->ds=es
 | [],es,vs,_,_,r1,r2=>by
  simp only[ag]at r1;subst r1
  cases es with
  |nil=>rfl
  |cons e es=>simp[ag]at r2
 |d::ds,es,vs,f1,f2,r1,r2=>by
  simp only[ag]at r1
  obtain⟨v,k,rfl,f,c⟩:=r1
  cases es with
  |nil=>simp[ag]at r2
  |cons e es =>
   simp only[ag]at r2
   obtain⟨i,j,b,a,h⟩:=r2
   cases b
   simp only[aP,aav]at f1 f2
   rw[Rel.inj I d e f1.1 f2.1 f a,ag.inj I ds es f1.2 f2.2 c h]
end
theorem Rel.yO {K H ι d v b t}(r:Rel K H ι d v)(rv:RelV v (.float b t)):False:=by
 cases d with
 |ay=>simp only[Rel]at r;subst r;cases rv
 |bl _=>simp only[Rel]at r;subst r;cases rv
 |int _=>simp only[Rel]at r;subst r;obtain⟨t,e⟩:=rv;cases e
 |str _=>simp only[Rel]at r;subst r;obtain⟨t,e⟩:=rv;cases e
 |tup _=>simp only[Rel]at r;obtain⟨a,c,rfl,_⟩:=r;cases rv
 |lst _=>simp only[Rel]at r;obtain⟨a,c,rfl,_⟩:=r;cases rv
 |de=>simp only[Rel]at r;obtain⟨a,rfl,_⟩:=r;cases rv
 |ref _=>simp only[Rel]at r;obtain⟨a,rfl,_⟩:=r;cases rv
 |aG _=>simp only[Rel]at r;obtain⟨a,rfl,_⟩:=r;cases rv
 |fn _=>simp only[Rel]at r;obtain⟨a,rfl,_⟩:=r;cases rv
theorem in1_units (A:aaV):A.in1.units=A.units+1:=rfl
section
open SeqAt
variable {pins:List (Addr×Obj)}{σ:L2.St}{H:Hp}{s:aat}{ι:Ix}
theorem qM {A:aaV}{s:aat}{u v:Value}{k:Bool}(h:RcAt A s u v k)(hs:u=v->k=true)(Ye:∀b t,u ≠ .float b t):EqAt A s u v k:=λprog w E Q a=>by
 unfold eqBool
 refine aa1 ?_
 refine aby (λc=>?_) (λ_=>?_)
 . rw[hs (eq_of_beq c)]at a
   exact aas (ab8 (aau a))
 . cases u with
   |float b t=>exact absurd rfl (Ye b t)
   |_=>exact aas (h prog w E _ (abq a))
set_option maxHeartbeats 4000000 in
mutual
theorem vZ (I:Inv X pins σ H s):∀(d1 d2:D) {A:aaV} {x y:V} {u v:Value},flat d1=true->flat d2=true->Rel X.kw H ι d1 x->Rel X.kw H ι d2 y->RelV x u->RelV y v->A.units+dep d1<cLine->RcAt A s u v (aJ d1 d2)
 |.ay,d2,A,x,y,u,v,_,f2,r1,r2,ru,rv,hu=>by
  simp only[Rel]at r1;subst r1;cases ru
  cases d2 with
  |ay=>simp only[Rel]at r2;subst r2;cases rv;simp only[aJ];exact .none_none
  |bl b=>simp only[Rel]at r2;subst r2;cases rv;simp only[aJ];exact .none_bool b
  |int b=>simp only[Rel]at r2;subst r2;obtain⟨t,rfl⟩:=rv;simp only[aJ];exact .none_int b t
  |str b=>simp only[Rel]at r2;subst r2;obtain⟨t,rfl⟩:=rv;simp only[aJ];exact .none_str b t
  |tup ys=>simp only[Rel]at r2;obtain⟨k,ws,rfl,f,i⟩:=r2;cases rv;obtain⟨h,_,c,_⟩:=I.tuple f.sq;simp only[aJ];exact .none_tuple c (by omega)
  |lst ys=>simp only[Rel]at r2;obtain⟨k,ws,rfl,f,i⟩:=r2;cases rv;obtain⟨h,_,c,_⟩:=I.list f.sq;simp only[aJ];exact .none_list c.isList (by omega)
  |_=>cases f2
 |.bl a,d2,A,x,y,u,v,_,f2,r1,r2,ru,rv,hu=>by
  simp only[Rel]at r1;subst r1;cases ru
  cases d2 with
  |ay=>simp only[Rel]at r2;subst r2;cases rv;simp only[aJ];exact .bool_none a
  |bl b=>simp only[Rel]at r2;subst r2;cases rv;simp only[aJ];exact .bool_bool a b
  |int b=>simp only[Rel]at r2;subst r2;obtain⟨t,rfl⟩:=rv;simp only[aJ];exact .bool_int a b t
  |str b=>simp only[Rel]at r2;subst r2;obtain⟨t,rfl⟩:=rv;simp only[aJ];exact .bool_str a b t
  |tup ys=>simp only[Rel]at r2;obtain⟨k,ws,rfl,f,i⟩:=r2;cases rv;obtain⟨h,_,c,_⟩:=I.tuple f.sq;simp only[aJ];exact .bool_tuple a c (by omega)
  |lst ys=>simp only[Rel]at r2;obtain⟨k,ws,rfl,f,i⟩:=r2;cases rv;obtain⟨h,_,c,_⟩:=I.list f.sq;simp only[aJ];exact .bool_list a c.isList (by omega)
  |_=>cases f2
 |.int a,d2,A,x,y,u,v,_,f2,r1,r2,ru,rv,hu=>by
  simp only[Rel]at r1;subst r1;obtain⟨t0,rfl⟩:=ru
  cases d2 with
  |ay=>simp only[Rel]at r2;subst r2;cases rv;simp only[aJ];exact .int_none a t0
  |bl b=>simp only[Rel]at r2;subst r2;cases rv;simp only[aJ];exact .int_bool a t0 b
  |int b=>simp only[Rel]at r2;subst r2;obtain⟨t,rfl⟩:=rv;simp only[aJ];exact .int_int a t0 b t
  |str b=>simp only[Rel]at r2;subst r2;obtain⟨t,rfl⟩:=rv;simp only[aJ];exact .int_str a t0 b t
  |tup ys=>simp only[Rel]at r2;obtain⟨k,ws,rfl,f,i⟩:=r2;cases rv;obtain⟨h,_,c,_⟩:=I.tuple f.sq;simp only[aJ];exact .int_tuple a t0 c (by omega)
  |lst ys=>simp only[Rel]at r2;obtain⟨k,ws,rfl,f,i⟩:=r2;cases rv;obtain⟨h,_,c,_⟩:=I.list f.sq;simp only[aJ];exact .int_list a t0 c.isList (by omega)
  |_=>cases f2
 |.str a,d2,A,x,y,u,v,_,f2,r1,r2,ru,rv,hu=>by
  simp only[Rel]at r1;subst r1;obtain⟨t0,rfl⟩:=ru
  cases d2 with
  |ay=>simp only[Rel]at r2;subst r2;cases rv;simp only[aJ];exact .str_none a t0
  |bl b=>simp only[Rel]at r2;subst r2;cases rv;simp only[aJ];exact .str_bool a t0 b
  |int b=>simp only[Rel]at r2;subst r2;obtain⟨t,rfl⟩:=rv;simp only[aJ];exact .str_int a t0 b t
  |str b=>simp only[Rel]at r2;subst r2;obtain⟨t,rfl⟩:=rv;simp only[aJ];exact .str_str a t0 b t
  |tup ys=>simp only[Rel]at r2;obtain⟨k,ws,rfl,f,i⟩:=r2;cases rv;obtain⟨h,_,c,_⟩:=I.tuple f.sq;simp only[aJ];exact .str_tuple a t0 c (by omega)
  |lst ys=>simp only[Rel]at r2;obtain⟨k,ws,rfl,f,i⟩:=r2;cases rv;obtain⟨h,_,c,_⟩:=I.list f.sq;simp only[aJ];exact .str_list a t0 c.isList (by omega)
  |_=>cases f2
 |.tup xs,d2,A,x,y,u,v,f1,f2,r1,r2,ru,rv,hu=>by
  simp only[Rel]at r1;obtain⟨a,vs,rfl,f,i⟩:=r1;cases ru
  obtain⟨h,q,c,_⟩:=I.tuple f.sq
  simp only[dep]at hu
  cases d2 with
  |ay=>simp only[Rel]at r2;subst r2;cases rv;simp only[aJ];exact .tuple_none c (by omega)
  |bl b=>simp only[Rel]at r2;subst r2;cases rv;simp only[aJ];exact .tuple_bool b c (by omega)
  |int b=>simp only[Rel]at r2;subst r2;obtain⟨t,rfl⟩:=rv;simp only[aJ];exact .tuple_int b t c (by omega)
  |str b=>simp only[Rel]at r2;subst r2;obtain⟨t,rfl⟩:=rv;simp only[aJ];exact .tuple_str b t c (by omega)
  |tup ys =>
   simp only[Rel]at r2;obtain⟨k,ws,rfl,p,n⟩:=r2;cases rv
   obtain⟨e,o,l,_⟩:=I.tuple p.sq
   simp only[aJ,lI]
   have l1:xs.length=h.toArray.size:=by rw[aaA,<- q.length];exact i.length
   have r:ys.length=e.toArray.size:=by rw[aaA,<- o.length];exact n.length
   rw[l1,r]
   refine .tuples c l (by omega) λj h1 z=>?_
   have:=oy I xs ys (A:=A.in1) f1 f2 i n q o (by rw[in1_units];omega) j (by simpa using h1) (by simpa using z)
   simpa using this
  |lst ys =>
   simp only[Rel]at r2;obtain⟨k,ws,rfl,p,n⟩:=r2;cases rv
   obtain⟨e,o,l,_⟩:=I.list p.sq
   simp only[aJ];exact .tuple_list c l.isList (by omega)
  |_=>cases f2
 |.lst xs,d2,A,x,y,u,v,f1,f2,r1,r2,ru,rv,hu=>by
  simp only[Rel]at r1;obtain⟨a,vs,rfl,f,i⟩:=r1;cases ru
  obtain⟨h,q,c,_⟩:=I.list f.sq
  simp only[dep]at hu
  cases d2 with
  |ay=>simp only[Rel]at r2;subst r2;cases rv;simp only[aJ];exact .list_none c.isList (by omega)
  |bl b=>simp only[Rel]at r2;subst r2;cases rv;simp only[aJ];exact .list_bool b c.isList (by omega)
  |int b=>simp only[Rel]at r2;subst r2;obtain⟨t,rfl⟩:=rv;simp only[aJ];exact .list_int b t c.isList (by omega)
  |str b=>simp only[Rel]at r2;subst r2;obtain⟨t,rfl⟩:=rv;simp only[aJ];exact .list_str b t c.isList (by omega)
  |lst ys =>
   simp only[Rel]at r2;obtain⟨k,ws,rfl,p,n⟩:=r2;cases rv
   obtain⟨e,o,l,_⟩:=I.list p.sq
   simp only[aJ,lI]
   have l1:xs.length=h.toArray.size:=by rw[aaA,<- q.length];exact i.length
   have r:ys.length=e.toArray.size:=by rw[aaA,<- o.length];exact n.length
   rw[l1,r]
   by_cases hs:h.toArray.size=e.toArray.size
   . have e0:(h.toArray.size == e.toArray.size)=true:=by simpa using hs
     rw[e0,agL,<- hs,Nat.min_self]
     refine .lists c.isList l.isList hs (by omega) λj h1 z=>?_
     have:=oy I xs ys (A:=A.in1) f1 f2 i n q o (by rw[in1_units];omega) j (by simpa using h1) (by simpa using z)
     simpa using this
   . have e0:(h.toArray.size == e.toArray.size)=false:=by simpa using hs
     rw[e0,aiO]
     exact .lists_lengths c.isList l.isList (by simpa using hs) (by omega)
  |tup ys =>
   simp only[Rel]at r2;obtain⟨k,ws,rfl,p,n⟩:=r2;cases rv
   obtain⟨e,o,l,_⟩:=I.tuple p.sq
   simp only[aJ];exact .list_tuple c.isList l (by omega)
  |_=>cases f2
 |.de,d2,A,x,y,u,v,f1,_,_,_,_,_,_=>by cases f1
 |.ref _,d2,A,x,y,u,v,f1,_,_,_,_,_,_=>by cases f1
 |.aG _,d2,A,x,y,u,v,f1,_,_,_,_,_,_=>by cases f1
 |.fn _,d2,A,x,y,u,v,f1,_,_,_,_,_,_=>by cases f1
theorem oy (I:Inv X pins σ H s):∀(xs ys:List D) {A:aaV} {vs ws:List V} {us zs:List Value},aP xs=true->aP ys=true->ag X.kw H ι xs vs->ag X.kw H ι ys ws->Vals vs us->Vals ws zs->A.units+bW xs<cLine ->
  ∀(j:Nat) (h1:j<us.length) (h2:j<zs.length),EqAt A s us[j] zs[j] (aJ (xs[j]?.getD .ay) (ys[j]?.getD .ay))
 | [],ys,A,vs,ws,us,zs,_,_,r1,_,ru,_,_,j,h1,_=>by
  simp only[ag]at r1;subst r1;cases ru;simp at h1
 |d::ds,ys,A,vs,ws,us,zs,f1,f2,r1,r2,ru,rz,hu,j,h1,h2=>by
  simp only[ag]at r1
  obtain⟨v,n,rfl,a,l⟩:=r1
  simp only[bW]at hu
  simp only[aP,aav]at f1
  cases ru with
  |cons i8 v5 =>
   cases ys with
   |nil=>simp only[ag]at r2;subst r2;cases rz;simp at h2
   |cons e es =>
    simp only[ag]at r2
    obtain⟨w,wr,rfl,hw,c⟩:=r2
    simp only[aP,aav]at f2
    cases rz with
    |cons qO B3 =>
     cases j with
     |zero =>
      have rc:=vZ I d e (A:=A) f1.1 f2.1 a hw i8 qO (by omega)
      simp only[List.getElem_cons_zero,abb,ah7]
      refine qM rc (λk=>?_) (λb t f=>Rel.yO a (by rw[f]at i8;exact i8))
      subst k
      have h:=i8.inj qO
      subst h
      have i:=Rel.inj I d e f1.1 f2.1 a hw
      subst i
      exact lH d f1.1
     |succ j =>
      have:=oy I ds es (A:=A) f1.2 f2.2 l c v5 B3 (by omega) j (by simpa using h1) (by simpa using h2)
      simpa using this
end
end
noncomputable def oEq (d1 d2:D)(g:G):Option (D×G):=if(flat d1&&flat d2&&decide (dep d1<=60))=true then some (.bl (aJ d1 d2),g)else none
theorem QQ (hu:X.A.units+64<cLine):aY X (aa8 .Eq) (cC X.kw oEq):=by
 intro pins s σ H x y v u Q I c b q
 obtain⟨ι,g,h,f,d,i,G0,e,a,q,p⟩:=q
 unfold oEq at q
 split at q
 . rename_i z
   simp only[aav,decide_eq_true_eq]at z
   cases q
   exact vZ I h f z.1.1 z.1.2 e a c b (by omega) _ _ _ _ ⟨.bl _,H,I,rfl,p H ι _ Ext.refl G0 (by simp[Rel])⟩
 . cases q
noncomputable def dH:D->Bool
 |.ay=>true
 |_=>false
noncomputable def Er (d1 d2:D)(g:G):Option (D×G):=match d2 with|.ay=>some (.bl (dH d1),g)|_=>none
noncomputable def Ac (d1 d2:D)(g:G):Option (D×G):=match d2 with|.ay=>some (.bl (!dH d1),g)|_=>none
theorem yP {K H ι d v}(r:Rel K H ι d v):decide (v=V.ay)=dH d:=by
 cases d with
 |ay=>simp only[Rel]at r;subst r;rfl
 |bl _=>simp only[Rel]at r;subst r;rfl
 |int _=>simp only[Rel]at r;subst r;rfl
 |str _=>simp only[Rel]at r;subst r;rfl
 |tup _=>simp only[Rel]at r;obtain⟨a,b,rfl,_⟩:=r;rfl
 |lst _=>simp only[Rel]at r;obtain⟨a,b,rfl,_⟩:=r;rfl
 |de=>simp only[Rel]at r;obtain⟨a,rfl,_⟩:=r;rfl
 |ref _=>simp only[Rel]at r;obtain⟨a,rfl,_⟩:=r;rfl
 |aG _=>simp only[Rel]at r;obtain⟨a,rfl,_⟩:=r;rfl
 |fn _=>simp only[Rel]at r;obtain⟨a,rfl,_⟩:=r;rfl
theorem MJ:aY X (aa8 .Is) (cC X.kw Er):=by
 intro pins s σ H x y v u Q I c b q
 obtain⟨ι,g,i,f,d,h,G0,e,a,q,p⟩:=q
 cases f with
 |ay =>
  simp only[Rel]at a;subst a
  simp only[Er]at q
  cases q
  exact Lm pins s σ H _ _ v u Q I c b ⟨rfl,by rw[yP e];exact p H ι _ Ext.refl G0 (by simp[Rel])⟩
 |_=>cases q
theorem Jl:aY X (aa8 .IsNot) (cC X.kw Ac):=by
 intro pins s σ H x y v u Q I c b q
 obtain⟨ι,g,i,f,d,h,G0,e,a,q,p⟩:=q
 cases f with
 |ay =>
  simp only[Rel]at a;subst a
  simp only[Ac]at q
  cases q
  refine Iy pins s σ H _ _ v u Q I c b ⟨rfl,?_⟩
  rw[yP e]
  exact p H ι _ Ext.refl G0 (by simp[Rel])
 |_=>cases q
noncomputable def bD (d:D)(g:G):Option (List D):=match d with
 |.tup xs=>some xs
 |.lst xs=>some xs
 |.ref n=>g[n]?
 |_=>none
theorem gL {K H ι g d v xs}(G0:ax K H ι g)(r:Rel K H ι d v)(h:bD d g=some xs):∃a vs,v = .ref a/\(da K H a vs\/dS K H a vs)/\ag K H ι xs vs:=by
 cases d with
 |tup ys=>cases h;simp only[Rel]at r;obtain⟨a,vs,rfl,b,c⟩:=r;exact⟨a,vs,rfl,.inr b.sq,c⟩
 |lst ys=>cases h;simp only[Rel]at r;obtain⟨a,vs,rfl,b,c⟩:=r;exact⟨a,vs,rfl,.inl b.sq,c⟩
 |ref n =>
  simp only[Rel]at r;obtain⟨a,rfl,f⟩:=r
  obtain⟨vs,i,e⟩:=G0.at h f
  exact⟨a,vs,rfl,.inl (.of i),e⟩
 |_=>cases h
noncomputable def kN (d1 d2:D)(g:G):Option (D×G):=match d2 with
 |.int i=>(bD d1 g).bind λxs=>(dU xs i).map λd=>(d,g)
 |_=>none
theorem Jm {K H ι}{xs:List D}{vs:List V}{i:Int}{d:D}(r:ag K H ι xs vs)(h:dU xs i=some d):∃v,dU vs i=some v/\Rel K H ι d v:=by
 unfold dU at h ⊢
 rw[<- r.length]
 obtain⟨j,e,b⟩:=bind_some h
 obtain⟨v,a,c⟩:=r.get b
 exact⟨v,by rw[e];exact a,c⟩
theorem Jn:mV X (cC X.kw kN):=by
 intro value slice pins s σ H x y v u Q I h f q j
 obtain⟨ι,g,d1,d2,d,g',G0,z,c,q,p⟩:=q
 cases d2 with
 |int i =>
  simp only[Rel]at c;subst c
  simp only[kN]at q
  obtain⟨xs,r,q⟩:=bind_some q
  cases h2:dU xs i with
  |none=>rw[h2]at q;cases q
  |some e =>
   rw[h2]at q;cases q
   obtain⟨a,k,rfl,b,n⟩:=gL G0 z r
   obtain⟨w,l,o⟩:=Jm n h2
   have fin:=p H ι w Ext.refl G0 o
   rcases b with b|b
   . exact Bu value slice pins s σ H _ _ v u Q I h f (.inl ⟨a,k,i,w,rfl,rfl,b,l,fin⟩) j
   . exact Bu value slice pins s σ H _ _ v u Q I h f (.inr (.inl ⟨a,k,i,w,rfl,rfl,b,l,fin⟩)) j
 |_=>cases q
noncomputable def cZ (ds:List D)(g:G):Option (D×G):=match ds with| [d]=>(bD d g).map λxs=>(.int xs.length,g)|_=>none
theorem MK:cu X (.builtin "len") (gX X.kw cZ):=by
 intro pins s σ H xs us Q I r q
 obtain⟨ι,g,ds,d,j,G0,b,q,p⟩:=q
 cases ds with
 |nil=>cases q
 |cons e kO =>
 cases kO with
 |cons _ _=>cases q
 |nil =>
  simp only[cZ]at q
  cases hx:bD e g with
  |none=>rw[hx]at q;cases q
  |some ys =>
   rw[hx]at q;cases q
   simp only[ag]at b
   obtain⟨v,_,rfl,h,rfl⟩:=b
   obtain⟨a,i,rfl,c,f⟩:=gL G0 h hx
   exact vB pins s σ H _ us Q I r ⟨a,i,rfl,c,by rw[<- f.length];exact p H ι _ Ext.refl G0 (by simp[Rel])⟩
noncomputable def v7 (ds:List D)(g:G):Option (D×G):=match ds with| [.int i,.int j]=>some (.int (if j>i then j else i),g)|_=>none
noncomputable def v9 (ds:List D)(g:G):Option (D×G):=match ds with| [.int i,.int j]=>some (.int (if j<i then j else i),g)|_=>none
theorem ML (hc:X.calm=true):cu X (.builtin "max") (gX X.kw v7):=by
 intro pins s σ H xs us Q I r q
 obtain⟨ι,g,ds,d,b,G0,a,q,p⟩:=q
 unfold v7 at q
 split at q
 . cases q
   simp only[ag,Rel]at a
   obtain⟨_,_,rfl,rfl,_,_,rfl,rfl,rfl⟩:=a
   exact Bm hc pins s σ H _ us Q I r ⟨_,_,rfl,p H ι _ Ext.refl G0 (by simp[Rel])⟩
 . cases q
theorem MM (hc:X.calm=true):cu X (.builtin "min") (gX X.kw v9):=by
 intro pins s σ H xs us Q I r q
 obtain⟨ι,g,ds,d,b,G0,a,q,p⟩:=q
 unfold v9 at q
 split at q
 . cases q
   simp only[ag,Rel]at a
   obtain⟨_,_,rfl,rfl,_,_,rfl,rfl,rfl⟩:=a
   exact Bn hc pins s σ H _ us Q I r ⟨_,_,rfl,p H ι _ Ext.refl G0 (by simp[Rel])⟩
 . cases q
noncomputable def nh (ds:List D)(g:G):Option (D×G):=match ds with| [.int i]=>some (.int i,g)| [.bl k]=>some (.int (if k then 1 else 0),g)|_=>none
theorem MN:cu X (.type "int") (gX X.kw nh):=by
 intro pins s σ H xs us Q I r q
 obtain⟨ι,g,ds,d,b,G0,a,q,p⟩:=q
 unfold nh at q
 split at q
 . cases q
   simp only[ag,Rel]at a
   obtain⟨_,_,rfl,rfl,rfl⟩:=a
   exact tL pins s σ H _ us Q I r (.inl ⟨_,rfl,p H ι _ Ext.refl G0 (by simp[Rel])⟩)
 . cases q
   simp only[ag,Rel]at a
   obtain⟨_,_,rfl,rfl,rfl⟩:=a
   exact tL pins s σ H _ us Q I r (.inr ⟨_,rfl,p H ι _ Ext.refl G0 (by simp[Rel])⟩)
 . cases q
noncomputable def fJ (ds:List D)(g:G):Option (D×G):=match ds with| [d]=>(bD d g).bind λxs=>if az xs.length=true then some (.tup xs,g)else none|_=>none
noncomputable def iV (ds:List D)(g:G):Option (D×G):=match ds with| [d]=>(bD d g).bind λxs=>if az xs.length=true then some (.lst xs,g)else none|_=>none
noncomputable def qP (ds:List D)(g:G):Option (D×G):=match ds with| [d]=>(bD d g).bind λxs=>if az xs.length=true then some (.ref g.length,g ++ [xs])else none|_=>none
theorem MO:cu X (.type "tuple") (gX X.kw fJ):=by
 intro pins s σ H xs us Q I r q
 obtain⟨ι,g,ds,d,g',G0,k,q,p⟩:=q
 cases ds with
 |nil=>cases q
 |cons e kO =>
 cases kO with
 |cons _ _=>cases q
 |nil =>
  simp only[fJ]at q
  obtain⟨ys,f,q⟩:=bind_some q
  split at q
  . rename_i z
    cases q
    simp only[ag]at k
    obtain⟨v,_,rfl,c,rfl⟩:=k
    cases e with
    |tup zs =>
     cases f
     simp only[Rel]at c
     obtain⟨a,vs,rfl,b,i⟩:=c
     exact mB pins s σ H _ us Q I r ⟨a,vs,rfl,.inr ⟨b.sq,p H ι _ Ext.refl G0 (by simp only[Rel];exact⟨a,vs,rfl,b,i⟩)⟩⟩
    |_ =>
     obtain⟨a,vs,rfl,b,i⟩:=gL G0 c f
     have x:da X.kw H a vs:=by
      rcases b with b|b
      . exact b
      . exfalso
        first
         | (cases f;done)
         | (simp only[Rel]at c;obtain⟨n,RW,j,y,_⟩:=c;cases j;exact ou I b y.sq)
         | (simp only[Rel]at c;obtain⟨n,j,o⟩:=c;cases j;obtain⟨ws,u,h2⟩:=G0.at f o;exact ou I b (.of u))
     refine mB pins s σ H _ us Q I r ⟨a,vs,rfl,.inl ⟨x,λl h=>p _ _ _ (Ext.lay h) (G0.lay h) ?_⟩⟩
     simp only[Rel]
     exact⟨l,vs,rfl,.inl ⟨.inl bw,G0.fresh h⟩,ag.ext (Ext.lay h) _ i⟩
  . cases q
theorem MP:cu X (.type "list") (gX X.kw iV):=by
 intro pins s σ H xs us Q I r q
 obtain⟨ι,g,ds,d,o,G0,c,q,p⟩:=q
 cases ds with
 |nil=>cases q
 |cons e kO =>
 cases kO with
 |cons _ _=>cases q
 |nil =>
  simp only[iV]at q
  obtain⟨n,i,q⟩:=bind_some q
  split at q
  . rename_i z
    cases q
    simp only[ag]at c
    obtain⟨v,_,rfl,k,rfl⟩:=c
    obtain⟨a,f,rfl,h,j⟩:=gL G0 k i
    refine mW pins s σ H _ us Q I r ⟨a,f,rfl,h,λl b=>p _ _ _ (Ext.lay b) (G0.lay b) ?_⟩
    simp only[Rel]
    exact⟨l,f,rfl,.inl ⟨.inl bw,G0.fresh b,G0.iJ b⟩,ag.ext (Ext.lay b) _ j⟩
  . cases q
theorem Jo:cu X (.type "list") (gX X.kw qP):=by
 intro pins s σ H xs us Q I r q
 obtain⟨ι,g,ds,d,o,G0,b,q,p⟩:=q
 cases ds with
 |nil=>cases q
 |cons e kO =>
 cases kO with
 |cons _ _=>cases q
 |nil =>
  simp only[qP]at q
  obtain⟨n,h,q⟩:=bind_some q
  split at q
  . rename_i z
    cases q
    simp only[ag]at b
    obtain⟨v,_,rfl,j,rfl⟩:=b
    obtain⟨a,k,rfl,f,i⟩:=gL G0 j h
    refine mW pins s σ H _ us Q I r ⟨a,k,rfl,f,λl c=>p _ _ _ (Ext.push c) (G0.push c i) ?_⟩
    simp only[Rel]
    exact⟨l,rfl,dk.new G0.len⟩
  . cases q
end
section
variable {X:Cx}
inductive Ty|int|bool|str|tuple|list|dict
noncomputable def Ty.name:Ty->String
 |.int=>"int"|.bool=>"bool"|.str=>"str"|.tuple=>"tuple"|.list=>"list"|.dict=>"dict"
noncomputable def cG:Ty->D->Bool
 |.int,.int _=>true|.int,.bl _=>true|.bool,.bl _=>true|.str,.str _=>true
 |.tuple,.tup _=>true|.list,.lst _=>true|.list,.ref _=>true|.dict,.de=>true|.dict,.aG _=>true
 |_,_=>false
noncomputable def isFn:D->Bool
 |.fn _=>true
 |_=>false
noncomputable def fK (T:Ty)(f:FE):FE:=λσ g=>(f σ g).bind λr=>if isFn r.1=true then none else some (.bl (cG T r.1),r.2)
theorem isi_call {pins:List (Addr×Obj)}{s:aat}{σ:L2.St}{H:Hp}{ι:Ix}{g:G}{d:D}{x:V}{u:Value}{Q:Value->aat->Prop}(T:Ty)(I:Inv X pins σ H s)(G0:ax X.kw H ι g)(r:Rel X.kw H ι d x)(hd:isFn d=false)(ru:RelV x u)(h:∀tk,Q (.bool (cG T d)) { s with toks:=tk }):
  wpAny (model X.prog X.w) X.A (call (.builtin "isinstance") [u,.type T.name]) Q X.xe s:=by
 cases d with
 |ay=>simp only[Rel]at r;subst r;cases ru;exact acn PySem.W.kitx_none I.iZ adH (b:=cG T .ay) (by cases T<;>rfl) (λz=>nomatch z) h
 |bl b=>simp only[Rel]at r;subst r;cases ru;exact acn PySem.W.kitx_bool I.iZ adH (b:=cG T (.bl b)) (by cases T<;>rfl) (λz=>nomatch z) h
 |int b=>simp only[Rel]at r;subst r;obtain⟨t,rfl⟩:=ru;exact acn PySem.W.kitx_int I.iZ adH (b:=cG T (.int b)) (by cases T<;>rfl) (λz=>nomatch z) h
 |str b=>simp only[Rel]at r;subst r;obtain⟨t,rfl⟩:=ru;exact acn PySem.W.kitx_str I.iZ adH (b:=cG T (.str b)) (by cases T<;>rfl) (λz=>nomatch z) h
 |tup xs =>
  simp only[Rel]at r;obtain⟨a,j,rfl,k,hr⟩:=r;cases ru
  obtain⟨v,_,⟨o,e,f,_⟩,_⟩:=I.tuple k.sq
  exact acn PySem.W.kitx_tuple I.iZ ⟨o,e,f⟩ (b:=cG T (.tup xs)) (by cases T<;>rfl) (λz=>nomatch z) h
 |lst xs =>
  simp only[Rel]at r;obtain⟨a,j,rfl,k,hr⟩:=r;cases ru
  obtain⟨v,_,⟨o,n,e,f,_⟩,_⟩:=I.list k.sq
  exact acn ahC I.iZ ⟨o,e,f⟩ (b:=cG T (.lst xs)) (by cases T<;>rfl) (λz=>nomatch z) h
 |ref n =>
  simp only[Rel]at r;obtain⟨a,rfl,i⟩:=r;cases ru
  have l:n<g.length:=by rw[<- G0.len];exact(aaB.mp i.1).1
  obtain⟨j,e,f⟩:=G0.at (aay l) i
  obtain⟨v,_,⟨o,n,e,f,_⟩,_⟩:=I.list (da.of e)
  exact acn ahC I.iZ ⟨o,e,f⟩ (b:=true&&cG T (.lst [])) (by cases T<;>rfl) (λz=>nomatch z) (by cases T<;>exact h)
 |de =>
  simp only[Rel]at r;obtain⟨a,rfl,i,_⟩:=r;cases ru
  obtain⟨_,_,j,_,p⟩:=(show cP X.prog X.w H s.heap a (.dK []) from I.bB a _ i)
  obtain⟨o,q,ep,e,f,_⟩:=p
  exact acn ahD I.iZ ⟨o,e,f.1⟩ (b:=cG T .de) (by cases T<;>rfl) (λz=>nomatch z) h
 |aG n =>
  simp only[Rel]at r;obtain⟨a,rfl,i⟩:=r;cases ru
  have l:n<g.length:=by rw[<- G0.len];exact(aaB.mp i.1).1
  obtain⟨q,j,c,e,_⟩:=G0.pB (aay l) i
  have f:=((show cP X.prog X.w H s.heap a (dO a q c) from I.bB a _ e)).1
  exact acn ahD I.iZ ⟨_,f,rfl⟩ (b:=cG T (.aG n)) (by cases T<;>rfl) (λz=>nomatch z) h
 |fn y=>cases hd
theorem MQ {a:Expr}{fa:FE}{p p2 pos:Pos}(T:Ty)(hm:X.mg "isinstance" = none)(Yh:X.mg (aa4 T.name)=none)(ha:DE X a fa)(hg:Gl X "isinstance":=by rfl)(Yi:Gl X (aa4 T.name):=by rfl)
   (eU:aaZ [a,.Name (aa4 T.name) p2] X.env=(false,eval a X.env)::aaZ [.Name (aa4 T.name) p2] X.env:=by rfl):DE X (.Call (.Name "isinstance" p) [a,.Name (aa4 T.name) p2] [] pos) (fK T fa):=.of (by
 have j:acq (aa4 T.name)=some (.type T.name):=by
   cases T
   . exact aiz
   . exact PyProof.Rows.boot_bool
   . exact PyProof.Rows.boot_str
   . exact ahR
   . exact agx
   . exact aii
 have e:cu X (.builtin "isinstance") (λxs H Q=>∃x ι g d,xs = [x,.ty T.name]/\ax X.kw H ι g/\Rel X.kw H ι d x/\isFn d=false/\Q (.bl (cG T d)) H):=by
   intro pins s σ H xs us Q I r q
   obtain⟨x,ι,g,d,rfl,G0,o,nf,q⟩:=q
   obtain⟨u,w',rfl,f,rt⟩:=vals2 r
   cases rt
   exact isi_call T I G0 o nf f λtk=>⟨.bl _,H,I.tok _,rfl,q⟩
 refine PE.imp (vx e hg hm PyProof.Rows.boot_isinstance (kF ha.un (kF (Il (v:=.ty T.name) Yi Yh j rfl (by cases T<;>decide) (by cases T<;>decide)) qr (by rfl)) eU) (by decide) (by decide) eU) λσ H Q h=>?_
 obtain⟨ι,σd,g,d,y,G0,n,h,p⟩:=h
 obtain⟨⟨z,g1⟩,i,h⟩:=bind_some h
 dsimp only at h
 split at h
 . cases h
 rename_i nf
 cases h
 exact tD.bind G0 n i λH1 c v k b S1 l=>⟨v,c,y,z,rfl,b,l,by simpa using nf,p H1 c _ k b (by simp[Rel])⟩)
noncomputable def bools:List D->Option (List Bool)
 | []=>some []
 |.bl b::ds=>(bools ds).map (b :: ·)
 |_=>none
noncomputable def fL (ds:List D)(g:G):Option (D×G):=match ds with| [.lst xs]=>(bools xs).map λbs=>(.bl (bs.all id),g)|_=>none
theorem nj {K H ι}:∀{xs:List D} {vs:List V} {us:List Value} {bs:List Bool},bools xs=some bs->ag K H ι xs vs->Vals vs us->us=bs.map acS
 | [],vs,us,bs,hb,r,rv=>by simp only[ag]at r;subst r;cases rv;cases hb;rfl
 |.bl b::ds,vs,us,bs,hb,r,rv=>by
  simp only[ag,Rel]at r
  obtain⟨v,c,rfl,rfl,a⟩:=r
  cases rv with
  |cons r0 rr =>
   cases r0
   simp only[bools]at hb
   cases eQ:bools ds with
   |none=>rw[eQ]at hb;cases hb
   |some bs' =>
    rw[eQ]at hb;cases hb
    rw[nj eQ a rr];rfl
 |.ay::ds,_,_,_,hb,_,_=>by simp[bools]at hb
 |.int _::ds,_,_,_,hb,_,_=>by simp[bools]at hb
 |.str _::ds,_,_,_,hb,_,_=>by simp[bools]at hb
 |.tup _::ds,_,_,_,hb,_,_=>by simp[bools]at hb
 |.lst _::ds,_,_,_,hb,_,_=>by simp[bools]at hb
 |.de::ds,_,_,_,hb,_,_=>by simp[bools]at hb
 |.ref _::ds,_,_,_,hb,_,_=>by simp[bools]at hb
theorem qQ {s:aat}{h':Heap}{o:Obj}(hk:∀b x,b ∉ [s.heap.objs.size]->(s.heap.push o).get? b=some x->h'.get? b=some x):∀b x,s.heap.get? b=some x->h'.get? b=some x :=
 λb x e=>hk b x (λhm=>by rw[afi.mp hm]at e;exact acf _ (aaH e)) (aaw _ e)
theorem Ad (bs:List Bool):((aaz bs.length).all λi=>(bs[i]?).getD true)=bs.all id:=by
 rw[aed]
 simp only[aaQ,aaL,id_eq]
 constructor
 . intro h x b
   obtain⟨i,a,e⟩:=abG.mp b
   have:=h i a
   rw[aay a,e]at this
   simpa using this
 . intro h i a
   rw[aay a]
   exact h _ (ace a)
theorem Ae (bs:List Bool):((aaz bs.length).any λi=>(bs[i]?).getD false)=bs.any id:=by
 rw[aed]
 simp only[acQ,aaL,id_eq]
 constructor
 . rintro⟨i,a,h⟩
   rw[aay a]at h
   exact⟨_,ace a,by simpa using h⟩
 . rintro⟨x,b,h⟩
   obtain⟨i,a,e⟩:=abG.mp b
   exact⟨i,a,by rw[aay a,e];simpa using h⟩
theorem MS (hc:X.calm=true):cu X (.builtin "all") (gX X.kw fL):=by
 intro pins s σ H xs us Q I r q
 obtain⟨ι,g,ds,d,g',G0,j,q,p⟩:=q
 unfold fL at q
 split at q
 . rename_i ys
   cases hb:bools ys with
   |none=>rw[hb]at q;cases q
   |some bs =>
    rw[hb]at q;cases q
    simp only[ag,Rel]at j
    obtain⟨_,_,rfl,⟨a,vs,rfl,k,n⟩,rfl⟩:=j
    obtain⟨u,rfl,z⟩:=vals1 r
    cases z
    obtain⟨au,o,l,hz⟩:=I.list k.sq
    have y:=nj hb n o
    subst y
    have f:=l.isList
    have bR:a<s.heap.objs.size:=by obtain⟨_,e,_⟩:=f;exact aaH e
    refine call_all_walk (aeq f ?_)
    refine⟨s.heap.objs.size,[s.heap.objs.size,a],[s.heap.objs.size],_,_,_,λi=>(bs[i]?).getD true,rfl,Walks.list (A:=X.A.in1) (I.ok.hd hc) _ a (aaN bR) _,
      ⟨⟨_,aaG _ rfl,rfl,rfl⟩,f.push _⟩,λi v s' Q' E' hP h=>?_,λh' tk x=>?_⟩
    . have c:(bs.map acS)[i]? = some v:=by simpa using hP
      rw[abE]at c
      cases e:bs[i]? with
      |none=>rw[e]at c;cases c
      |some b =>
       rw[e]at c;cases c
       dsimp only at h
       rw[e]at h
       exact abq h
    . have e:((aaz (bs.map acS).toArray.size).all λi=>(bs[i]?).getD true)=bs.all id:=by
       rw[aaA,aaM];exact Ad bs
      rw[e]
      exact⟨.bl _,H,I.kept (qQ x),rfl,p H ι _ Ext.refl G0 (by simp[Rel])⟩
 . cases q
end
end L3
namespace L3
open PySem PySem.Spec PyProof.Rows L2
open Sem (wp)
open Builtin
theorem tuple_addW0 (l b:Addr)(items fM:Array Value)(n n2:Nat)(dd mT:Option Addr)(sl my:Array (Option Value))(hc0:items.isEmpty=true):
  Meets (ab1.«tuple.__add__» ⟨[.ref l,.ref b],[]⟩) (λ_ R s=>s.heap.get? l=some { cls:=.type "tuple",dict:=dd,data:=.seq items n,slots:=sl }/\s.heap.get? b=some { cls:=.type "tuple",dict:=mT,data:=.seq fM n2,slots:=my }/\R (.ok (.ret (adE b))) { s with heap:=s.heap,toks:=s.toks }):=
 .of_wp λprog w A R s h=>by obtain⟨e,g,d,j,os⟩:=s;obtain⟨a,c,h⟩:=h;have f1:=aeB;have f2:=acG;have i:=AutoSeq1.sub_list_list;have f4:=AutoSeq1.sub_tuple_list;have f:=AutoSeq1.sub_list_tuple;wp_walk using abu a,abu c;exact⟨_,rfl,h⟩
theorem pV:fillsNumberSlot (.type "tuple") "mul" = pure false :=
 PySem.fillsNumberSlot_seq (id:="tuple.__mul__") (r:=some (.builtin "tuple.__rmul__")) F.slot_tuple_mul.lookup (by decide +kernel) F.slot_tuple_rmul.lookup (by decide +kernel)
theorem v_:seqRepeat? (.type "tuple")=pure (some (.builtin "tuple.__mul__")):=by
 unfold seqRepeat?
 rw[ah8 (T:="tuple") (name:="__mul__") (id:="tuple.__mul__") F.slot_tuple_mul.lookup (by decide +kernel),ah8 (T:="tuple") (name:="__rmul__") (id:="tuple.__rmul__") F.slot_tuple_rmul.lookup (by decide +kernel)]
 rfl
theorem sj (a:Int)(t:Tok)(l:Addr)(items:Array Value)(n:Nat)(dd:Option Addr)(sl:Array (Option Value)):
  Meets (ab1.«int.__rmul__» ⟨[.int a t,.ref l],[]⟩) (λ_ R s=>s.heap.get? l=some { cls:=.type "tuple",dict:=dd,data:=.seq items n,slots:=sl }/\R (.ok (.ret agy)) s):=
 .of_wp λprog w A R s h=>by obtain⟨b,g,d,e,os⟩:=s;obtain⟨c,h⟩:=h;wp_walk;exact⟨_,rfl,h⟩
theorem Af (l:Addr)(items:Array Value)(n:Nat)(dd:Option Addr)(sl:Array (Option Value))(x:Int)(u:Tok)(h0:¬(decide (x < -(2 ^ 63))||decide (x>=2 ^ 63))=true)(h1:¬(items.isEmpty||x == 1)=true)(h2:¬(decide (x<=0)||items.isEmpty)=true)
  (h3:¬(items.size:Int)*x>(2 ^ 63-1) / 8) (h4:¬af_ ((items.size:Int)*x)=true) (hsz:((aaW x.toNat items).foldl (· ++ ·) #[]).size<=aaP):
  Meets (ab1.«tuple.__mul__» ⟨[.ref l,.int x u],[]⟩) (λ_ R s=>s.heap.get? l=some { cls:=.type "tuple",dict:=dd,data:=.seq items n,slots:=sl }/\R (.ok (.ret (adE s.heap.objs.size))) { s with heap:=s.heap.push { cls:=abm "tuple",data:=Data.seq ((aaW x.toNat items).foldl (· ++ ·) #[]) },toks:=s.toks }):=
 .of_wp λprog w A R s h=>by
  obtain⟨b,g,d,c,os⟩:=s;obtain⟨a,h⟩:=h
  have f1:=aeB;have f2:=acG
  wp_walk using abu a
  refine aeT (decide_eq_false h0) ?_
  wp_walk using abu a
  refine aeT (decide_eq_false h3) ?_
  wp_walk using abu a
  exact⟨_,rfl,h⟩
theorem xZ (l:Addr)(items:Array Value)(n:Nat)(dd:Option Addr)(sl:Array (Option Value))(x:Int)(u:Tok)(h0:¬(decide (x < -(2 ^ 63))||decide (x>=2 ^ 63))=true)(h1:(items.isEmpty||x == 1)=true):
  Meets (ab1.«tuple.__mul__» ⟨[.ref l,.int x u],[]⟩) (λ_ R s=>s.heap.get? l=some { cls:=.type "tuple",dict:=dd,data:=.seq items n,slots:=sl }/\R (.ok (.ret (adE l))) { s with heap:=s.heap,toks:=s.toks }):=
 .of_wp λprog w A R s h=>by
  obtain⟨b,g,d,c,os⟩:=s;obtain⟨a,h⟩:=h
  have f1:=aeB;have f2:=acG
  wp_walk using abu a
  refine aeT (decide_eq_false h0) ?_
  wp_walk using abu a
  exact⟨_,rfl,h⟩
theorem x4 (l:Addr)(items:Array Value)(n:Nat)(dd:Option Addr)(sl:Array (Option Value))(x:Int)(u:Tok)(h0:¬(decide (x < -(2 ^ 63))||decide (x>=2 ^ 63))=true)(h1:¬(items.isEmpty||x == 1)=true)(h2:(decide (x<=0)||items.isEmpty)=true):
  Meets (ab1.«tuple.__mul__» ⟨[.ref l,.int x u],[]⟩) (λ_ R s=>s.heap.get? l=some { cls:=.type "tuple",dict:=dd,data:=.seq items n,slots:=sl }/\R (.ok (.ret (adE s.heap.objs.size))) { s with heap:=s.heap.push { cls:=abm "tuple",data:=Data.seq #[] },toks:=s.toks }):=
 .of_wp λprog w A R s h=>by
  obtain⟨b,g,d,c,os⟩:=s;obtain⟨a,h⟩:=h
  have f1:=aeB;have f2:=acG
  wp_walk using abu a
  refine aeT (decide_eq_false h0) ?_
  wp_walk using abu a
  exact⟨_,rfl,h⟩
section
variable {X:Cx}
noncomputable def QR (K:KW):R2:=λx y H Q=>∃a k xs,x = .ref a/\y = .int k/\dS K H a xs /\ -(2 ^ 63)<=k/\k<2 ^ 63/\xs.length*k.toNat<=16777216 /\
 ((xs = []\/k=1)->Q (.ref a) H)/\(xs ≠ []->k<=0->∀p,H p=none->Q (.ref p) (upd H p (.tup [])))/\(xs ≠ []->2<=k->∀p,H p=none->Q (.ref p) (upd H p (.tup (aaW k.toNat xs).flatten)))
theorem Jp:aY X (abp .Mult) (QR X.kw):=by
 intro pins s σ H x y v u Q I rx ry h
 obtain⟨a,k,xs,rfl,rfl,hq,h1,h2,l,q1,q0,q2⟩:=h
 cases rx
 obtain⟨t,rfl⟩:=ry
 obtain⟨c,r,ht,MT⟩:=I.tuple hq
 have hl:=r.length
 obtain⟨⟨cls,j,data,i⟩,f,z,n,hd⟩:=id ht
 simp only at z hd
 subst z hd
 have p:¬(decide (k < -(2 ^ 63))||decide (k>=2 ^ 63))=true:=by
   rw[abx,decide_eq_true_eq,decide_eq_true_eq]
   omega
 refine wpAny_binaryOp_repeat_ref (T:="tuple") (U:="int") (by decide) ⟨_,f,rfl⟩ (λs'=>afA s' k t) pV F.fills_int_mul F.slot_int_rmul v_ F.slot_int_index.lookup
   (adb F.slot_int_rmul (afA s k t) F.entry_int_rmul (F.args_int_rmul_2 _ _) (sj k t a c.toArray n j i) ⟨f,rfl,⟨_,f,rfl⟩,?_⟩)
 by_cases c1:xs = []\/k=1
 . refine adb F.slot_tuple_mul ⟨_,f,rfl⟩ F.entry_tuple_mul (F.args_tuple_mul_2 _ _) (xZ a c.toArray n j i k t p ?_) ⟨f,.ref a,H,I,rfl,q1 c1⟩
   rcases c1 with c1|c1
   . subst c1
     cases r
     simp
   . subst c1;simp
 . have o:xs ≠ []:=λe=>c1 (.inl e)
   have B4:k≠1:=λe=>c1 (.inr e)
   have hi:c ≠ []:=λe=>o (by subst e;cases r;rfl)
   have q:¬(c.toArray.isEmpty||k == 1)=true:=by simp[hi,B4]
   have fresh:H s.heap.objs.size=none:=I.bB.fresh (aaC _)
   by_cases c0:k<=0
   . refine adb F.slot_tuple_mul ⟨_,f,rfl⟩ F.entry_tuple_mul (F.args_tuple_mul_2 _ _) (x4 a c.toArray n j i k t p q (by simp[c0])) ⟨f,?_⟩
     refine⟨.ref _,_,I.laid (t':=s.toks) (λb u e=>aaw _ e) (aaC _) ?_,rfl,q0 o c0 _ fresh⟩
     exact⟨abd _,[],.nil,⟨_,aaG _ rfl,rfl,⟨_,rfl⟩,rfl⟩⟩
   . have MU:List.foldl (λx1 x2=>x1++x2) #[] (aaW k.toNat c.toArray)=(aaW k.toNat c).flatten.toArray:=by
       have:=foldl_rep c k.toNat []
       rw[acH]at this
       exact this
     have hs:aaP=16777216:=acr
     have ab:(c.length:Int)*k<=16777216:=by
       have e1:((xs.length*k.toNat:Nat):Int)<=16777216:=Int.ofNat_le.mpr l
       rw[Int.natCast_mul,agU (by omega),hl]at e1
       exact e1
     refine adb F.slot_tuple_mul ⟨_,f,rfl⟩ F.entry_tuple_mul (F.args_tuple_mul_2 _ _) (Af a c.toArray n j i k t p q (by simp[c0,hi]) (by rw[aaA];omega) ?_ ?_) ⟨f,?_⟩
     . rw[aaA]
       unfold af_
       simp
       omega
     . rw[MU,aaA,len_rep,<- hl,aha,hs];exact l
     . rw[MU]
       refine⟨.ref _,_,I.laid (t':=s.toks) (λb u e=>aaw _ e) (aaC _) ?_,rfl,q2 o (by omega) _ fresh⟩
       exact⟨by rw[len_rep,aha,hs];exact l,_,r.rep k.toNat,⟨_,aaG _ rfl,rfl,⟨_,rfl⟩,rfl⟩⟩
theorem ag.rep {K H ι}{xs:List D}{vs:List V}(r:ag K H ι xs vs):∀k:Nat,ag K H ι (aaW k xs).flatten (aaW k vs).flatten
 | 0=>by simp[ag]
 |k+1=>by
  rw[acp,acp,ac8,ac8]
  exact ag.append r (ag.rep r k)
noncomputable def cL (d1 d2:D)(g:G):Option (D×G):=match d1,d2 with
 |.int i,.int j=>if cT i j=true then some (.int (i*j),g)else none
 |.tup xs,.int k=>if(gK k&&az (xs.length*k.toNat))=true then some (.tup (aaW k.toNat xs).flatten,g)else none
 |_,_=>none
theorem MV:aY X (abp .Mult) (cC X.kw cL):=by
 intro pins s σ H x y v u Q I r o q
 obtain⟨ι,g,d1,d2,d,g',G0,l,f,q,p⟩:=q
 unfold cL at q
 split at q
 . split at q
   . rename_i i j z
     exact Jj pins s σ H x y v u Q I r o ⟨ι,g,.int i,.int j,d,g',G0,l,f,by simp only[bK];rw[if_pos z];exact q,p⟩
   . cases q
 . split at q
   . rename_i xs k z
     simp only[aav]at z
     have z1:=gK.and z.1
     have z2:=az.le z.2
     cases q
     simp only[Rel]at l f
     obtain⟨a,vs,rfl,n,b⟩:=l
     subst f
     have hl:=b.length
     have new:∀{zs:List D} {ws:List V},ag X.kw H ι zs ws->zs=(aaW k.toNat xs).flatten->∀q,H q=none->Q (.ref q) (upd H q (.tup ws)):=fun {zs ws} rz ez q e=>by
       subst ez
       refine p _ _ _ (Ext.lay e) (G0.lay e) ?_
       simp only[Rel]
       exact⟨q,ws,rfl,.inl ⟨.inl bw,G0.fresh e⟩,ag.ext (Ext.lay e) _ rz⟩
     refine Jp pins s σ H _ _ v u Q I r o ⟨a,k,vs,rfl,rfl,n.sq,(by omega),(by omega),by rw[<- hl];exact z2,λc=>?_,λhx hk=>?_,λhx hk=>?_⟩
     . refine p H ι _ Ext.refl G0 ?_
       simp only[Rel]
       refine⟨a,vs,rfl,n,?_⟩
       rcases c with c|c
       . subst c
         have:xs = []:=adJ (by simpa using hl)
         subst this
         have h:(aaW k.toNat ([]:List D)).flatten = []:=by simp
         rw[h];exact b
       . subst c
         have h:(aaW (1:Int).toNat xs).flatten=xs:=by simp
         rw[h];exact b
     . refine new (zs:=[]) (by simp[ag]) ?_
       have:k.toNat=0:=by omega
       rw[this];simp
     . exact new (b.rep k.toNat) rfl
   . cases q
 . cases q
theorem Es:aY X (abp .Add) (λx y H Q=>∃a b ys,x = .ref a/\y = .ref b/\dS X.kw H a []/\dS X.kw H b ys/\Q (.ref b) H):=by
 intro pins s σ H x y v u Q I z l h
 obtain⟨a,b,ys,rfl,rfl,o,hb,q⟩:=h
 cases z
 cases l
 obtain⟨r,r1,j,_⟩:=I.tuple o
 obtain⟨k,r2,p2,_⟩:=I.tuple hb
 obtain⟨⟨cls,dd,data,sl⟩,f,c,n,hd⟩:=id j
 obtain⟨⟨D0,p,data2,my⟩,i,e,n2,hd2⟩:=id p2
 simp only at c hd e hd2
 subst c hd e hd2
 exact afK ⟨_,f,rfl⟩ ⟨_,i,rfl⟩ afL agE aes aen (aef _ _)
  (tuple_addW0 a b r.toArray k.toArray n n2 dd p sl my (by cases r1;simp)) ⟨f,i,.ref b,H,I,rfl,q⟩
theorem Jq:aY X (abp .Add) (λx y H Q=>∃a b xs ys,x = .ref a/\y = .ref b/\da X.kw H a xs/\da X.kw H b ys/\xs.length+ys.length<=aaP /\ ∀p,H p=none->Q (.ref p) (upd H p (.lst (xs++ys)))):=by
 intro pins s σ H x y v u Q I rx ry h
 obtain⟨a,b,xs,ys,rfl,rfl,ha,hb,k,q⟩:=h
 cases rx
 cases ry
 obtain⟨f,r1,p1,_⟩:=I.list ha
 obtain⟨c,i,p2,_⟩:=I.list hb
 obtain⟨⟨cls,dd,data,sl⟩,n,o,j,z,hd⟩:=id p1
 obtain⟨⟨D0,mT,data2,my⟩,n2,r,l,MW,hd2⟩:=id p2
 simp only at j hd l hd2 z MW
 subst j hd l hd2 z MW
 have e:f.toArray++c.toArray=(f++c).toArray:=by simp
 have hl:f.length+c.length<=aaP:=by rw[<- r1.length,<- i.length];exact k
 refine afK ⟨_,o,rfl⟩ ⟨_,r,rfl⟩ noFill_list_add seq_list_add PySem.F.slot_list_add PySem.F.entry_list_add (PySem.F.args_list_add_2 _ _) (list_addW a b f.toArray c.toArray n n2 none none sl my (by simpa using hl)) ⟨o,r,?_⟩
 rw[e]
 exact⟨.ref _,_,I.Uq (t':=s.toks) (r1.append i) (by rw[acd];exact k),rfl,q _ I.fresh⟩
noncomputable def fw (d:D)(g:G):Option (List D):=match d with
 |.lst xs=>some xs
 |.ref n=>g[n]?
 |_=>none
theorem jJ {K H ι g d v xs}(G0:ax K H ι g)(r:Rel K H ι d v)(h:fw d g=some xs):∃a vs,v = .ref a/\da K H a vs/\ag K H ι xs vs:=by
 cases d with
 |lst ys =>
  cases h
  simp only[Rel]at r
  obtain⟨a,vs,rfl,b,i⟩:=r
  exact⟨a,vs,rfl,b.sq,i⟩
 |ref n =>
  simp only[Rel]at r
  obtain⟨a,rfl,e⟩:=r
  obtain⟨vs,f,c⟩:=G0.at h e
  exact⟨a,vs,rfl,.of f,c⟩
 |_=>cases h
noncomputable def aQ (d1 d2:D)(g:G):Option (D×G):=match d1,d2 with
 |.int i,.int j=>some (.int (i+j),g)
 |.tup xs,.tup ys=>if az (xs.length+ys.length)=true then some (.tup (xs++ys),g)else none
 |.str i,.str j=>if az (i.length+j.length)=true then some (.str (i++j),g)else none
 |d1,d2=>match fw d1 g,fw d2 g with
  |some xs,some ys=>if az (xs.length+ys.length)=true then some (.lst (xs++ys),g)else none
  |_,_=>none
theorem MX:aY X (abp .Add) (cC X.kw aQ):=by
 intro pins s σ H x y v u Q I r o q
 obtain⟨ι,g,d1,d2,d,g',G0,l,k,q,p⟩:=q
 unfold aQ at q
 split at q
 . rename_i i j
   exact Ji pins s σ H x y v u Q I r o ⟨ι,g,.int i,.int j,d,g',G0,l,k,q,p⟩
 . split at q
   . rename_i xs ys z
     cases q
     simp only[Rel]at l k
     obtain⟨a,vs,rfl,n,f⟩:=l
     obtain⟨b,ws,rfl,qR,h⟩:=k
     by_cases hx:vs = []
     . subst hx
       have:xs = []:=adJ (by simpa using f.length)
       subst this
       refine Es pins s σ H _ _ v u Q I r o ⟨a,b,ws,rfl,rfl,n.sq,qR.sq,p H ι _ Ext.refl G0 ?_⟩
       simp only[Rel,acH]
       exact⟨b,ws,rfl,qR,h⟩
     . refine IG pins s σ H _ _ v u Q I r o ⟨a,b,vs,ws,rfl,rfl,n.sq,qR.sq,hx,by rw[<- f.length,<- h.length];exact az.le z,λe=>?_,λe q' c=>?_⟩
       . subst e
         have:ys = []:=adJ (by simpa using h.length)
         subst this
         refine p H ι _ Ext.refl G0 ?_
         simp only[Rel,ab9]
         exact⟨a,vs,rfl,n,f⟩
       . refine p _ _ _ (Ext.lay c) (G0.lay c) ?_
         simp only[Rel]
         exact⟨q',_,rfl,.inl ⟨.inl bw,G0.fresh c⟩,ag.ext (Ext.lay c) _ (ag.append f h)⟩
   . cases q
 . split at q
   . rename_i x1 y1 z
     cases q
     simp only[Rel]at l k
     subst l k
     exact zL pins s σ H _ _ v u Q I r o ⟨x1,y1,rfl,rfl,az.le z,p H ι _ Ext.refl G0 (by simp[Rel])⟩
   . cases q
 . split at q
   . rename_i xs ys e1 e2
     split at q
     . rename_i z
       cases q
       obtain⟨a,vs,rfl,n,f⟩:=jJ G0 l e1
       obtain⟨b,ws,rfl,qR,h⟩:=jJ G0 k e2
       refine Jq pins s σ H _ _ v u Q I r o ⟨a,b,vs,ws,rfl,rfl,n,qR,by rw[<- f.length,<- h.length];exact az.le z,λq' c=>?_⟩
       refine p _ _ _ (Ext.lay c) (G0.lay c) ?_
       simp only[Rel]
       exact⟨q',_,rfl,.inl ⟨.inl bw,G0.fresh c,G0.iJ c⟩,ag.ext (Ext.lay c) _ (ag.append f h)⟩
     . cases q
   . cases q
abbrev FO:=Sg->G->Option (Option Int×G)
inductive RY (K:KW)(f:FO)(σ:L2.St)(H:Hp)(Q:(Option Int->Hp->Prop)):Prop
 |mk (ι:Ix) (σd:Sg) (g:G) (o:Option Int) (g':G) (h0:ax K H ι g) (h1:bN K H ι σd σ) (h2:f σd g=some (o,g')) (h3:qA K H ι g' (Q o)):RY K f σ H Q
structure DO (X:Cx)(e:Option Expr)(f:FO):Prop where of ::
 un:PO X e (RY X.kw f)
theorem PO.imp {X:Cx}{e:Option Expr}{t t':TO}(h:PO X e t)(i:∀σ H Q,t' σ H Q->t σ H Q):PO X e t':=λpins s σ H Q I q=>h pins s σ H Q I (i σ H Q q)
noncomputable def fg:FO:=λ_ g=>some (none,g)
noncomputable def dA (f:FE):FO:=λσ g=>(f σ g).bind λr=>match r.1 with|.int i=>some (some i,r.2)|_=>none
theorem Jr:DO X none fg:=.of (PO.imp IE λσ H Q h=>by
 obtain⟨ι,a,g,o,c,G0,b,h,p⟩:=h
 cases h
 exact p H ι Ext.refl G0)
theorem yQ {e:Expr}{f:FE}(h:DE X e f):DO X (some e) (dA f):=.of (PO.imp (IF h.un) λσ H Q h=>by
 obtain⟨ι,n,g,o,r,G0,l,h,p⟩:=h
 obtain⟨⟨d,g1⟩,b,h⟩:=bind_some h
 cases d with
 |int i =>
  cases h
  exact tD.bind G0 l b λH1 j v c a q k=>⟨i,by simpa[Rel]using k,p H1 j c a⟩
 |_=>cases h)
noncomputable def cutD (xs:List D)(lo hi:Option Int):List D:=(xs.drop (HT.bA xs.length 0 lo)).take (HT.bA xs.length xs.length hi-HT.bA xs.length 0 lo)
noncomputable def gp (n:Nat)(lo hi:Option Int):Bool:=decide (HT.bA n 0 lo=0)&&decide (HT.bA n n hi=n)
noncomputable def nq (d:D)(lo hi:Option Int)(g:G):Option (D×G):=match d with
 |.tup xs=>if gp xs.length lo hi=true then none else some (.tup (cutD xs lo hi),g)
 |.lst xs=>some (.lst (cutD xs lo hi),g)
 |.ref n=>match g[n]? with|some xs=>some (.lst (cutD xs lo hi),g)|none=>none
 |_=>none
theorem ag.MY {K H ι}{xs:List D}{vs:List V}(r:ag K H ι xs vs)(lo hi:Option Int):ag K H ι (cutD xs lo hi) (mU vs lo hi):=by
 unfold cutD mU
 rw[<- r.length]
 exact ag.take _ (ag.drop _ r)
noncomputable def MZ (K:KW):V->Option Int->Option Int->Hp->VK->Prop:=λx lo a H Q=>Lv K x lo a H Q\/LD K x lo a H Q
theorem Js:ph X (MZ X.kw):=by
 intro pins s σ H x v c j lo b a Q I f i e pu h
 rcases h with h|h
 . exact Lw pins s σ H x v c j lo b a Q I f i e pu h
 . exact IJ pins s σ H x v c j lo b a Q I f i e pu h
theorem big {pins:List (Addr×Obj)}{σ:L2.St}{H:Hp}{s:aat}(I:Inv X pins σ H s):ac_<s.heap.objs.size:=by
 obtain⟨o,b,c,e,_⟩:=I.mod.glob
 have a:=aaH (I.bk _ _ e)
 exact aeR (by decide) a
theorem Et {pos:Pos}:DE X (.Dict [] [] pos) (fC .de):=.of (by
 intro pins s σ H Q I h
 obtain⟨ι,a,g,d,f,G0,c,h,p⟩:=h
 cases h
 have hf:H s.heap.objs.size=none:=I.bB.fresh (aaC _)
 refine wpAny_Dict_empty ⟨.ref s.heap.objs.size,upd H s.heap.objs.size (.dK []),I.laid (t':=s.toks) (λb u e=>aaw _ e) (aaC _) ?_,rfl,p _ _ _ (Ext.lay hf) (G0.lay hf) ?_⟩
 . exact⟨abd _,beq_eq_false_iff_ne.mpr (acg (aaN (big I))),[],.nil,Heap.DictOf.new _⟩
 . simp only[Rel]
   exact⟨_,rfl,bw,G0.fresh hf⟩)
end
end L3
namespace L3
open PySem PySem.Spec PyProof.Rows L2
noncomputable def oLt:=qL λi j=>decide (i<j)
noncomputable def oLe:=qL λi j=>decide (i<=j)
noncomputable def M0:=qL λi j=>decide (j<i)
noncomputable def Gp:=qL λi j=>decide (j<=i)
noncomputable def sk (S:Scope)(XN N:List Str)(fr:List (Option Nat))(scope:Scope):Bool :=
 decide (scope.kind = .function)&&scope.names.all (λy=>!decide (y.2 = .cell)||decide (scope.names.lookup y.1=some .cell))&&scope.names.all (λy=>!decide (y.2 = .local)||decide (scope.names.lookup y.1=some .local)) &&
 scope.names.all (λy=>!decide (y.2 = .free)||(decide (scope.names.lookup y.1=some .free)&&(decide (S.names.lookup y.1=some .cell)||decide (S.names.lookup y.1=some .free)))) &&
 decide (fr.length=N.length)&&(aaz fr.length).all (λj=>match fr[j]? with
  |some (some i)=>match N[j]? with
   |some x=>decide (XN[i]? = some x)&&decide (scope.names.lookup x=some .free)
   |none=>false
  |_=>true)
theorem B5 {X:Cx}{N:List Str}{fr:List (Option Nat)}{scope:Scope}{S:Scope}{XN:List Str}(hS:X.env.scope=S)(hN:X.N=XN)(h:sk S XN N fr scope=true):gn X N fr scope:=by
 unfold sk at h
 simp only[aav,decide_eq_true_eq,aaQ,abx,abc,decide_eq_false_iff_not]at h
 obtain⟨⟨⟨⟨⟨o,k⟩,f⟩,c⟩,n⟩,b⟩:=h
 refine⟨o,λy a e=>?_,λy a e=>?_,λy a e=>?_,n,λj i hf=>?_⟩
 . rcases k y a with z|z
   . exact absurd e z
   . exact z
 . rcases f y a with z|z
   . exact absurd e z
   . exact z
 . rcases c y a with z|z
   . exact absurd e z
   . refine⟨z.1,?_⟩
     show X.env.scope.names.lookup y.1=_\/X.env.scope.names.lookup y.1=_
     rw[hS];exact z.2
 . have p:j∈aaz fr.length:=aaL.mpr (aaB.mp hf).1
   have:=b j p
   rw[hf]at this
   dsimp only at this
   split at this
   . rename_i x l
     simp only[aav,decide_eq_true_eq]at this
     exact⟨x,l,by rw[hN];exact this.1,this.2⟩
   . cases this
noncomputable def cv (f:FE):FI:=λσ g=>(f σ g).bind λr=>match r.1 with|.tup xs=>some (xs,r.2)|.lst xs=>some (xs,r.2)|_=>none
theorem wa {X:Cx}{tg l:Expr}{fe:FE}(hl:DE X l fe):DI X tg l (cv fe):=.of (by
 intro pins s σ H R I h
 obtain⟨ι,a,g,ds,b,G0,i,h,p⟩:=h
 obtain⟨⟨j,g1⟩,f,c⟩:=bind_some h
 cases j with
 |tup xs =>
  have e:uM fe a g=some (ds,b):=by unfold uM;rw[f];exact c
  exact(Mu hl).un pins s σ H R I ⟨ι,a,g,ds,b,G0,i,e,p⟩
 |lst xs =>
  have e:uN fe a g=some (ds,b):=by unfold uN;rw[f];exact c
  exact(Mv hl).un pins s σ H R I ⟨ι,a,g,ds,b,G0,i,e,p⟩
 |_=>cases c)
end L3
namespace L3
open PySem L2
section
variable {σ:Sg}{g:G}{fa fb fc:FE}{fr:FA}{ga gb:FT}{f1 f2:FS}{o o':D->D->G->Option (D×G)}{fn:Fn}{t:FG}{ts:pD}
@[simp] theorem lJ {d}:fC d σ g=some (d,g):=rfl
@[simp] theorem cJ {i:Nat}:af i σ g=(match σ[i]? with|some (some d)=>some (d,g)|_=>none):=rfl
@[simp] theorem jK:aq o fa fb σ g=(fa σ g).bind λr=>(fb σ r.2).bind λq=>o r.1 q.1 q.2:=rfl
@[simp] theorem Yj {o:D->G->Option (D×G)}:vK o fa σ g=(fa σ g).bind λr=>o r.1 r.2:=rfl
@[simp] theorem Yk {b:Bool}:i6 (some (.bl b,g))=some (b,g):=rfl
@[simp] theorem Eu:aN fa σ g=i6 (fa σ g):=rfl
@[simp] theorem RZ:gY o o' fa fb fc σ g=(fa σ g).bind λr=>(fb σ r.2).bind λq=>(i6 (o r.1 q.1 q.2)).bind λk=>if k.1=true then(fc σ k.2).bind λw=>o' q.1 w.1 w.2 else some (.bl false,k.2):=rfl
@[simp] theorem WU:cK fa σ g=(fa σ g).bind λr=>(ky r.1 r.2).map λb=>(b,r.2):=rfl
@[simp] theorem R0 {b:Bool}:ky (.bl b) g=some b:=rfl
@[simp] theorem QS {i:Int}:ky (.int i) g=some (i != 0):=rfl
@[simp] theorem WV:jI ga gb σ g=(ga σ g).bind λr=>if r.1=true then gb σ r.2 else some (false,r.2):=rfl
@[simp] theorem Yl:kI ga gb σ g=(ga σ g).bind λr=>if r.1=true then some (true,r.2)else gb σ r.2:=rfl
@[simp] theorem WW:dq ga σ g=(ga σ g).bind λr=>some (!r.1,r.2):=rfl
@[simp] theorem UD:eG fa fb σ g=(i6 (fa σ g)).bind λr=>if r.1=true then fb σ r.2 else some (.bl false,r.2):=rfl
@[simp] theorem WX:se fa fb σ g=(i6 (fa σ g)).bind λr=>if r.1=true then some (.bl true,r.2)else fb σ r.2:=rfl
@[simp] theorem UE:om fa σ g=(i6 (fa σ g)).bind λr=>some (.bl (!r.1),r.2):=rfl
@[simp] theorem WY:z6 ga fa fb σ g=(ga σ g).bind λr=>if r.1=true then fa σ r.2 else fb σ r.2:=rfl
@[simp] theorem jv:aj σ g=some ([],g):=rfl
@[simp] theorem gH:aa fa fr σ g=(fa σ g).bind λr=>(fr σ r.2).bind λq=>some (r.1::q.1,q.2):=rfl
@[simp] theorem M1 {m:List D->G->Option (D×G)}:aL m fr σ g=(fr σ g).bind λr=>m r.1 r.2:=rfl
theorem Jt {n:Nat}:az n=decide (n<=16777216):=rfl
@[simp] theorem QT {n:Nat}(h:n<=16777216):az n=true:=decide_eq_true h
@[simp] theorem R1 {ds:List D}:aH ds g=if az ds.length=true then some (.tup ds,g)else none:=rfl
@[simp] theorem R3 {ds:List D}:cS ds g=if az ds.length=true then some (.lst ds,g)else none:=rfl
@[simp] theorem R4 {ds:List D}:mkRef ds g=if az ds.length=true then some (.ref g.length,g ++ [ds])else none:=rfl
@[simp] theorem UG:bp σ g=some (.nx,σ,g):=rfl
@[simp] theorem il:aD f1 f2 σ g=(f1 σ g).bind λr=>match r.1 with|.nx=>f2 r.2.1 r.2.2|_=>some r:=rfl
@[simp] theorem WZ:aU fa σ g=(fa σ g).bind λr=>some (.rt r.1,σ,r.2):=rfl
@[simp] theorem qS:cA ga f1 f2 σ g=(ga σ g).bind λr=>if r.1=true then f1 σ r.2 else f2 σ r.2:=rfl
@[simp] theorem Ew:fu fa σ g=(fa σ g).bind λr=>some (.nx,σ,r.2):=rfl
@[simp] theorem Ju:aM fa t σ g=(fa σ g).bind λr=>(t r.1 σ r.2).bind λq=>some (.nx,q.1,q.2):=rfl
@[simp] theorem qU {i:Nat}{d:D}:gN i d σ g=some (σ.set i (some d),g):=rfl
@[simp] theorem UH:aV [] σ g=some (σ,g):=rfl
@[simp] theorem R5 {d:D}{r:List D}:aw t ts (d::r) σ g=(t d σ g).bind λq=>ts r q.1 q.2:=rfl
@[simp] theorem aaa {n:Nat}{xs:List D}:gT n ts (.tup xs) σ g=if xs.length=n then ts xs σ g else none:=rfl
@[simp] theorem pW:av fn fr σ g=(fr σ g).bind λr=>fn r.1 r.2:=rfl
@[simp] theorem W0 {T:Ty}:fK T fa σ g=(fa σ g).bind λr=>if isFn r.1=true then none else some (.bl (cG T r.1),r.2):=rfl
@[simp] theorem kP {i:FI}:e_ i t f1 σ g=(i σ g).bind λr=>forL t f1 r.1 σ r.2:=rfl
@[simp] theorem W2:cv fa σ g=(fa σ g).bind λr=>match r.1 with|.tup xs=>some (xs,r.2)|.lst xs=>some (xs,r.2)|_=>none:=rfl
@[simp] theorem UI:uM fa σ g=(fa σ g).bind λr=>match r.1 with|.tup xs=>some (xs,r.2)|_=>none:=rfl
@[simp] theorem UJ:uN fa σ g=(fa σ g).bind λr=>match r.1 with|.lst xs=>some (xs,r.2)|_=>none:=rfl
@[simp] theorem Ex {mk:List D->G->Option (D×G)}{fi:FI}{fr:List (Option Nat)}{c:FT}:bQ mk fi fr t c fa σ g=(fi σ g).bind λr=>if az r.1.length=true then(bV t c fa r.1 (bq fr σ) r.2).bind λq=>mk q.1 q.2 else none:=rfl
@[simp] theorem W3 {ds:List D}:bU ds g=some (.lst ds,g):=rfl
@[simp] theorem UK:aO σ g=some (true,g):=rfl
@[simp] theorem Ym {c:Int->Int->Bool}{f:Int->Int->Int}{i j:Int}:bK c f (.int i) (.int j) g=if c i j=true then some (.int (f i j),g)else none:=rfl
@[simp] theorem UL {i j:Int}:cf i j=true:=rfl
@[simp] theorem Yn {i j:Int}:oLt (.int i) (.int j) g=some (.bl (decide (i<j)),g):=rfl
@[simp] theorem Yo {i j:Int}:oLe (.int i) (.int j) g=some (.bl (decide (i<=j)),g):=rfl
@[simp] theorem Yp {i j:Int}:M0 (.int i) (.int j) g=some (.bl (decide (j<i)),g):=rfl
@[simp] theorem Yq {i j:Int}:Gp (.int i) (.int j) g=some (.bl (decide (j<=i)),g):=rfl
@[simp] theorem W4 {i:Int}:lG (.int i) g=some (.int (-i),g):=rfl
@[simp] theorem W5 {i j:Int}:aQ (.int i) (.int j) g=some (.int (i+j),g):=rfl
@[simp] theorem W6 {i j:Int}:cL (.int i) (.int j) g=if cT i j=true then some (.int (i*j),g)else none:=rfl
@[simp] theorem Yr {d:D}{i:Int}:kN d (.int i) g=(bD d g).bind λxs=>(dU xs i).map λe=>(e,g):=rfl
@[simp] theorem W7 {xs:List D}:bD (.tup xs) g=some xs:=rfl
@[simp] theorem W9 {xs:List D}:bD (.lst xs) g=some xs:=rfl
@[simp] theorem W_ {n:Nat}:bD (.ref n) g=g[n]?:=rfl
@[simp] theorem Xa {d:D}:cZ [d] g=(bD d g).map λxs=>(.int xs.length,g):=rfl
@[simp] theorem Xb {i j:Int}:v7 [.int i,.int j] g=some (.int (if j>i then j else i),g):=rfl
@[simp] theorem Xc {i j:Int}:v9 [.int i,.int j] g=some (.int (if j<i then j else i),g):=rfl
@[simp] theorem UM {k:Bool}:nh [.bl k] g=some (.int (if k then 1 else 0),g):=rfl
@[simp] theorem UN {i:Int}:nh [.int i] g=some (.int i,g):=rfl
@[simp] theorem Xd {d:D}:fJ [d] g=(bD d g).bind λxs=>if az xs.length=true then some (.tup xs,g)else none:=rfl
@[simp] theorem Xe {d:D}:iV [d] g=(bD d g).bind λxs=>if az xs.length=true then some (.lst xs,g)else none:=rfl
@[simp] theorem Xf {xs:List D}:fL [.lst xs] g=(bools xs).map λbs=>(.bl (bs.all id),g):=rfl
@[simp] theorem Xg {i j:Int}:oEq (.int i) (.int j) g=some (.bl (i == j),g):=rfl
@[simp] theorem Xh {i j:Bool}:oEq (.bl i) (.bl j) g=some (.bl (i == j),g):=rfl
@[simp] theorem Xi {i j:Str}:oEq (.str i) (.str j) g=some (.bl (i == j),g):=rfl
@[simp] theorem Xj {d:D}:Er d .ay g=some (.bl (dH d),g):=rfl
@[simp] theorem UO {d:D}:Ac d .ay g=some (.bl (!dH d),g):=rfl
theorem bM {nN nP:Nat}{ds:List D}{b:FS}{σ':Sg}{d:D}{g':G}(hl:ds.length=nP)(h:b (ds.map some++aaW (nN-nP) none) g=some (.rt d,σ',g'))(hg:g'.length=g.length):aA false nN nP b ds g=some (d,g'):=by
 unfold aA
 rw[if_pos hl,h]
 have e:settle g.length d g'=some (d,g'):=by
  unfold settle
  rw[if_pos hg]
 simpa using e
theorem yR {nN nP:Nat}{ds:List D}{b:FS}{σ':Sg}{d:D}{g':G}(hl:ds.length=nP)(h:b (ds.map some++aaW (nN-nP) none) g=some (.rt d,σ',g')):aA true nN nP b ds g=some (d,g'):=by
 unfold aA
 rw[if_pos hl,h]
 rfl
end
theorem cz {t:FG}{c:FT}{e:FE}{h:D->D}(I:Sg->Prop):∀(ds:List D) (σ:Sg) (g:G),I σ->(∀d∈ds,∀σ,I σ->∃σ1,t d σ g=some (σ1,g)/\c σ1 g=some (true,g)/\e σ1 g=some (h d,g)/\I σ1)->bV t c e ds σ g=some (ds.map h,g)
 | [],_,_,_,_=>rfl
 |d::ds,σ,g,hi,hh=>by
  obtain⟨σ1,i,f,b,a⟩:=hh d aaO σ hi
  simp only[bV,i,f,b,aax,if_true,cz I ds σ1 g a λx j=>hh x (aaR _ j),aaX]
theorem cp {α:Type}(f:α->Bool):∀xs:List α,bools (xs.map λx=>D.bl (f x))=some (xs.map f)
 | []=>rfl
 |x::xs=>by simp only[aaX,bools,cp f xs,abo]
@[simp] theorem UP {α:Type}{σ:List (Option α)}:bq [] σ = []:=rfl
@[simp] theorem R6 {α:Type}{σ:List (Option α)}{fr:List (Option Nat)}:bq (none::fr) σ=none::bq fr σ:=rfl
@[simp] theorem R7 {α:Type}{σ:List (Option α)}{fr:List (Option Nat)}{i:Nat}:bq (some i::fr) σ=(σ[i]?).join::bq fr σ:=rfl
end L3
namespace L3
open PySem PySem.Spec PyProof.Rows L2
noncomputable def Ag (c:Bool):D->Bool
 |.bl b=>b == c
 |_=>false
noncomputable def isLit (d1 d2:D):Option Bool:=match d2 with
 |.ay=>some (dH d1)
 |.bl c=>some (Ag c d1)
 |_=>none
noncomputable def Gq (d1 d2:D)(g:G):Option (D×G):=(isLit d1 d2).map λb=>(.bl b,g)
noncomputable def dI (d1 d2:D)(g:G):Option (D×G):=(isLit d1 d2).map λb=>(.bl (!b),g)
section
variable {X:Cx}
theorem B6 {K H ι d v u c}(r:Rel K H ι d v)(rx:RelV v u):(u == acS c)=Ag c d/\PySem.plainIs u (.bool c)=true:=by
 cases d with
 |ay=>simp only[Rel]at r;subst r;cases rx;exact⟨rfl,rfl⟩
 |bl b=>simp only[Rel]at r;subst r;cases rx;exact⟨by cases b<;>cases c<;>rfl,rfl⟩
 |int _=>simp only[Rel]at r;subst r;obtain⟨t,rfl⟩:=rx;exact⟨rfl,rfl⟩
 |str _=>simp only[Rel]at r;subst r;obtain⟨t,rfl⟩:=rx;exact⟨rfl,rfl⟩
 |tup _=>simp only[Rel]at r;obtain⟨a,e,rfl,_⟩:=r;cases rx;exact⟨rfl,rfl⟩
 |lst _=>simp only[Rel]at r;obtain⟨a,e,rfl,_⟩:=r;cases rx;exact⟨rfl,rfl⟩
 |de=>simp only[Rel]at r;obtain⟨a,rfl,_⟩:=r;cases rx;exact⟨rfl,rfl⟩
 |ref _=>simp only[Rel]at r;obtain⟨a,rfl,_⟩:=r;cases rx;exact⟨rfl,rfl⟩
 |aG _=>simp only[Rel]at r;obtain⟨a,rfl,_⟩:=r;cases rx;exact⟨rfl,rfl⟩
 |fn _=>simp only[Rel]at r;obtain⟨a,rfl,_⟩:=r;cases rx;exact⟨rfl,rfl⟩
theorem QU:aY X (aa8 .Is) (cC X.kw Gq):=by
 intro pins s σ H x y v u Q I f b q
 obtain⟨ι,g,k,i,d,j,G0,h,a,q,p⟩:=q
 cases i with
 |ay=>exact MJ pins s σ H x y v u Q I f b ⟨ι,g,k,.ay,d,j,G0,h,a,q,p⟩
 |bl c =>
  simp only[Rel]at a;subst a;cases b
  simp only[Gq,isLit,abo]at q
  cases q
  obtain⟨e,z⟩:=B6 (c:=c) h f
  refine wpAny_is_plain z ?_
  rw[e]
  exact⟨.bl _,H,I,rfl,p H ι _ Ext.refl G0 (by simp[Rel])⟩
 |_=>cases q
theorem Jv:aY X (aa8 .IsNot) (cC X.kw dI):=by
 intro pins s σ H x y v u Q I f b q
 obtain⟨ι,g,k,i,d,j,G0,h,a,q,p⟩:=q
 cases i with
 |ay=>exact Jl pins s σ H x y v u Q I f b ⟨ι,g,k,.ay,d,j,G0,h,a,q,p⟩
 |bl c =>
  simp only[Rel]at a;subst a;cases b
  simp only[dI,isLit,abo]at q
  cases q
  obtain⟨e,z⟩:=B6 (c:=c) h f
  refine wpAny_isNot_plain z ?_
  rw[e]
  exact⟨.bl _,H,I,rfl,p H ι _ Ext.refl G0 (by simp[Rel])⟩
 |_=>cases q
end
@[simp] theorem Ys {d1 d2:D}{g:G}:Gq d1 d2 g=(isLit d1 d2).map λb=>(.bl b,g):=rfl
@[simp] theorem UQ {d1 d2:D}{g:G}:dI d1 d2 g=(isLit d1 d2).map λb=>(.bl (!b),g):=rfl
@[simp] theorem R8 {d1:D}:isLit d1 .ay=some (dH d1):=rfl
@[simp] theorem R9 {d:D}{c:Bool}:isLit d (.bl c)=some (Ag c d):=rfl
@[simp] theorem Xk {b c:Bool}:Ag c (.bl b)=(b == c):=rfl
noncomputable def Ix.none (ι:Ix):Ix:=⟨[],ι.ix++ι.hd,ι.kd⟩
noncomputable def Ey:HO->Bool
 |.tup _=>true
 |.mK _ _=>true
 |.dK _=>true
 |_=>false
mutual
theorem Rel.toN {K H ι}:∀(d:D) {v:V},bx 0 d=true->Rel K H ι d v->Rel K H (Ix.none ι) d v
 |.ay,v,_,h=>by simpa[Rel]using h
 |.bl _,v,_,h=>by simpa[Rel]using h
 |.int _,v,_,h=>by simpa[Rel]using h
 |.str _,v,_,h=>by simpa[Rel]using h
 |.tup xs,v,z,h=>by
  simp only[Rel]at h ⊢
  obtain⟨a,f,c,b,e⟩:=h
  refine⟨a,f,c,?_,ag.toN xs z e⟩
  rcases b with⟨b,hn⟩|b
  . exact .inl ⟨b,by simp[Ix.none]⟩
  . exact .inr b
 |.lst xs,v,z,h=>by
  simp only[Rel]at h ⊢
  obtain⟨a,f,c,b,e⟩:=h
  refine⟨a,f,c,?_,ag.toN xs z e⟩
  rcases b with⟨b,hn,hh⟩|b
  . exact .inl ⟨b,by simp[Ix.none],λm=>(aaE.mp m).elim hn hh⟩
  . exact .inr b
 |.de,v,_,h=>by
  simp only[Rel]at h ⊢
  obtain⟨a,c,b,e⟩:=h
  exact⟨a,c,b,by simp[Ix.none]⟩
 |.ref k,v,z,h=>by simp[bx]at z
 |.aG k,v,z,h=>by simp[bx]at z
 |.fn x,v,_,h=>by simpa[Rel]using h
theorem ag.toN {K H ι}:∀(ds:List D) {vs:List V},aX 0 ds=true->ag K H ι ds vs->ag K H (Ix.none ι) ds vs
 | [],vs,_,h=>by simpa[ag]using h
 |d::ds,vs,z,h=>by
  simp only[ag]at h ⊢
  simp only[aX,aav]at z
  obtain⟨v,b,e,a,c⟩:=h
  exact⟨v,b,e,Rel.toN d z.1 a,ag.toN ds z.2 c⟩
end
mutual
theorem Rel.yS {K H ι ι'}(hh:ι'.hd=ι.ix++ι.hd)(hl:∀a∈ι.ix,∃o,H a=some o/\Ey o=false):∀(d:D) {v:V},bx 0 d=true->Rel K H ι' d v->Rel K H ι d v
 |.ay,v,_,h=>by simpa[Rel]using h
 |.bl _,v,_,h=>by simpa[Rel]using h
 |.int _,v,_,h=>by simpa[Rel]using h
 |.str _,v,_,h=>by simpa[Rel]using h
 |.tup xs,v,z,h=>by
  simp only[Rel]at h ⊢
  obtain⟨a,j,c,b,i⟩:=h
  refine⟨a,j,c,?_,ag.yS hh hl xs z i⟩
  rcases b with⟨b,hn⟩|b
  . refine .inl ⟨b,λm=>?_⟩
    obtain⟨us,e,f⟩:=hl a m
    rcases b with b|⟨o,b⟩<;>rw[e]at b<;>cases b<;>cases f
  . exact .inr b
 |.lst xs,v,z,h=>by
  simp only[Rel]at h ⊢
  obtain⟨a,j,c,b,i⟩:=h
  refine⟨a,j,c,?_,ag.yS hh hl xs z i⟩
  rcases b with⟨b,hn,hk⟩|b
  . rw[hh]at hk
    exact .inl ⟨b,λm=>hk (aaE.mpr (.inl m)),λm=>hk (aaE.mpr (.inr m))⟩
  . exact .inr b
 |.de,v,_,h=>by
  simp only[Rel]at h ⊢
  obtain⟨a,c,b,i⟩:=h
  refine⟨a,c,b,λm=>?_⟩
  obtain⟨us,e,f⟩:=hl a m
  rw[e]at b;cases b;cases f
 |.ref k,v,z,h=>by simp[bx]at z
 |.aG k,v,z,h=>by simp[bx]at z
 |.fn x,v,_,h=>by simpa[Rel]using h
theorem ag.yS {K H ι ι'}(hh:ι'.hd=ι.ix++ι.hd)(hl:∀a∈ι.ix,∃o,H a=some o/\Ey o=false):∀(ds:List D) {vs:List V},aX 0 ds=true->ag K H ι' ds vs->ag K H ι ds vs
 | [],vs,_,h=>by simpa[ag]using h
 |d::ds,vs,z,h=>by
  simp only[ag]at h ⊢
  simp only[aX,aav]at z
  obtain⟨v,c,f,b,e⟩:=h
  exact⟨v,c,f,Rel.yS hh hl d z.1 b,ag.yS hh hl ds z.2 e⟩
end
theorem ax.lst {K H ι g}(h:ax K H ι g){a:Addr}(ha:a∈ι.ix):∃o,H a=some o/\Ey o=false:=by
 obtain⟨i,c,e⟩:=abG.mp ha
 have k:i<g.length:=by rw[<- h.len];exact c
 obtain⟨b,o,n,f,l,j,_⟩:=h.at_ i _ (aay k)
 rw[aay c,e]at f
 cases f
 generalize ι.kd i=kk at j
 exact⟨o,l,by cases j<;>rfl⟩
noncomputable def nu (fn:Fn):Fn:=λds g=>if aX 0 ds=true then(fn ds []).bind λr=>if bx 0 r.1=true then some (r.1,g)else none else none
theorem pG {fn:Fn}{ds g d g'}(h:nu fn ds g=some (d,g')):aX 0 ds=true/\(∃gx,fn ds []=some (d,gx))/\bx 0 d=true/\g'=g:=by
 unfold nu at h
 split at h
 . rename_i z
   obtain⟨⟨c,g1⟩,b,h⟩:=bind_some h
   split at h
   . rename_i a
     cases h
     exact⟨z,⟨g1,b⟩,a,rfl⟩
   . cases h
 . cases h
theorem Jw {P:aaY}{K:KW}{base:Heap}{k n f fd ps}{fn:Fn}(F:dE P K.w K.fr K.mg base i4 k f fd ps (m9 K n fn)):dE P K.w K.fr K.mg base i4 k f fd ps (m9 K n (nu fn)):=
 dE.imp F λl H Q E ⟨hl,ι,g,ds,d,g',G0,r,h,p⟩=>by
  obtain⟨z,⟨gx,x⟩,u,rfl⟩:=pG h
  refine⟨hl,Ix.none ι,[],ds,d,gx,⟨ae6,rfl,λb hb=>⟨by simp[Ix.none],?_⟩,λi xs q=>by simp at q⟩,ag.toN ds z r,x,λj ι' v e G1 y=>?_⟩
  . rcases aaE.mp hb with m|m
    . exact G0.tF m
    . exact(G0.cN b m).2
  . have same:∀a∈ι.ix,j a=H a:=λa c=>by
      obtain⟨l,ev,_⟩:=G0.lst c
      rw[ev]
      exact e.same a _ ev (by simp[Ix.none])
    have s:Ext H ι j ι:=⟨λa o q _=>e.same a o q (by simp[Ix.none]),e.there,⟨[],by simp,λ_ q=>by simp at q⟩,rfl,λ_ _=>rfl⟩
    refine p j ι v s (G0.ext s same) (Rel.yS e.cN (λa c=>?_) d u y)
    obtain⟨l,ev,f⟩:=G0.lst c
    exact⟨l,by rw[same a c];exact ev,f⟩
theorem Ah {fn:Fn}{n:Nat}(h:∀ds g r,fn ds g=some r->ds.length=n):∀ds g r,nu fn ds g=some r->ds.length=n:=λds g r q=>by
 obtain⟨_,⟨gx,a⟩,_⟩:=pG (d:=r.1) (g':=r.2) q
 exact h _ _ _ a
end L3
namespace L3
open PySem L2
def wp {α:Type}(o:Option α)(Q:α->Prop):Prop:=∃a,o=some a/\Q a
section
variable {α β:Type}{o:Option α}{Q R:α->Prop}
@[simp] theorem b_ {a:α}:wp (some a) Q=Q a:=by simp[wp]
@[simp] theorem Xl:wp (none:Option α) Q=False:=by simp[wp]
@[simp] theorem wp_bind {f:α->Option β}{Q:β->Prop}:wp (o.bind f) Q=wp o λa=>wp (f a) Q:=by
 cases o<;>simp[wp]
@[simp] theorem wp_map {f:α->β}{Q:β->Prop}:wp (o.map f) Q=wp o λa=>Q (f a):=by
 cases o<;>simp[wp]
theorem wp_mono (h:wp o R)(i:∀a,R a->Q a):wp o Q:=let⟨a,e,r⟩:=h;⟨a,e,i a r⟩
end
@[simp] theorem Yt {o:Option (D×G)}{Q:Bool×G->Prop}:wp (i6 o) Q=wp o λr=>∃b,r.1 = .bl b/\Q (b,r.2):=by
 cases o with
 |none=>simp[i6]
 |some r =>
  obtain⟨d,g⟩:=r
  cases d with
  |bl b=>cases b<;>simp[i6]
  |_=>simp[i6]
section
variable {σ:Sg}{g:G}{fa:FE}{fl fh:FO}
@[simp] theorem UR {xs ys:List D}:aQ (.tup xs) (.tup ys) g=if az (xs.length+ys.length)=true then some (.tup (xs++ys),g)else none:=rfl
@[simp] theorem US {xs ys:List D}:aQ (.lst xs) (.lst ys) g=if az (xs.length+ys.length)=true then some (.lst (xs++ys),g)else none:=rfl
@[simp] theorem UT {x y:Str}:aQ (.str x) (.str y) g=if az (x.length+y.length)=true then some (.str (x++y),g)else none:=rfl
@[simp] theorem oz:fg σ g=some (none,g):=rfl
@[simp] theorem lK:dA fa σ g=(fa σ g).bind λr=>match r.1 with|.int i=>some (some i,r.2)|_=>none:=rfl
theorem Ai {xs:List D}{k:Int}(h1:k<=1000)(h0:-1000<=k)(h2:xs.length<=1000):cL (.tup xs) (.int k) g=some (.tup (aaW k.toNat xs).flatten,g):=by
 show(if(gK k&&az (xs.length*k.toNat))=true then some (D.tup (aaW k.toNat xs).flatten,g)else none)=_
 rw[if_pos]
 have a:k.toNat<=1000:=by omega
 have:xs.length*k.toNat<=1000*1000:=Nat.mul_le_mul h2 a
 rw[gK.of (by omega) (by omega),QT (by omega)]
 rfl
theorem qV {n a:Nat}(h:a<=n):HT.bA n n (some (a:Int))=a:=by rw[HT.yi];omega
theorem pX {n a:Nat}(h:a<=n):HT.bA n 0 (some (a:Int))=a:=by rw[HT.yi];omega
theorem uP {xs:List D}{a:Nat}(h:a<xs.length):nq (.tup xs) none (some (a:Int)) g=some (.tup (xs.take a),g):=by
 have hw:gp xs.length none (some (a:Int))=false:=by
  unfold gp
  rw[qV (adk h)]
  simp;omega
 simp only[nq,hw,aaF,if_false]
 unfold cutD
 rw[qV (adk h),HT.jC]
 simp
theorem oA {xs:List D}{a:Nat}(h:a<xs.length):nq (.tup xs) (some ((a:Int)+1)) none g=some (.tup (xs.drop (a+1)),g):=by
 have e:(a:Int)+1=((a+1:Nat):Int):=by simp
 rw[e]
 have hw:gp xs.length (some ((a+1:Nat):Int)) none=false:=by
  unfold gp
  rw[pX h]
  simp
 simp only[nq,hw,aaF,if_false]
 unfold cutD
 rw[pX h,HT.jC,abS (by simp)]
end
theorem ip {t:FG}{b:FS}{Q:F×Sg×G->Prop}(I:Nat->Sg->G->Prop):∀(ds:List D) (i:Nat) (σ:Sg) (g:G),I i σ g ->
  (∀(j:Nat) (d:D) σ g,ds[j]? = some d->I (i+j) σ g->wp (t d σ g) λq=>wp (b q.1 q.2) λr=>match r.1 with
   |.nx=>I (i+j+1) r.2.1 r.2.2
   |.ct=>I (i+j+1) r.2.1 r.2.2
   |.bk=>Q (.nx,r.2.1,r.2.2)
   |.rt d=>Q (.rt d,r.2.1,r.2.2))->(∀σ g,I (i+ds.length) σ g->Q (.nx,σ,g))->wp (forL t b ds σ g) Q
 | [],i,σ,g,hi,_,he=>by simp only[forL,b_];exact he σ g hi
 |d::ds,i,σ,g,hi,hs,he=>by
  simp only[forL,wp_bind]
  refine wp_mono (hs 0 d σ g rfl hi) λq f=>wp_mono f λr a=>?_
  have go:I (i+0+1) r.2.1 r.2.2->wp (forL t b ds r.2.1 r.2.2) Q:=λz =>
   ip I ds (i+1) _ _ z (λj d σ g e h=>by
    have q:=hs (j+1) d σ g (by simpa using e) (by rw[show i+(j+1)=i+1+j by omega];exact h)
    rw[show i+(j+1)+1=i+1+j+1 by omega]at q
    exact q) λσ g h=>he σ g (by rw[adt,show i+(ds.length+1)=i+1+ds.length by omega];exact h)
  obtain⟨c,k⟩:=r
  cases c with
  |nx=>exact go a
  |ct=>exact go a
  |bk=>simp only[b_];exact a
  |rt d=>simp only[b_];exact a
theorem wb {t:FG}{c:FT}{e:FE}{Q:List D×G->Prop}(I:Nat->List D->Sg->G->Prop):∀(ds:List D) (i:Nat) (σ:Sg) (g:G) (acc:List D),I i acc σ g ->
  (∀(j:Nat) (d:D) acc σ g,ds[j]? = some d->I (i+j) acc σ g->wp (t d σ g) λq=>wp (c q.1 q.2) λk=>if k.1=true then wp (e q.1 k.2) λr=>I (i+j+1) (acc ++ [r.1]) q.1 r.2 else I (i+j+1) acc q.1 k.2) ->
  (∀xs σ g,I (i+ds.length) (acc++xs) σ g->Q (xs,g))->wp (bV t c e ds σ g) Q
 | [],i,σ,g,acc,hi,_,he=>by simp only[bV,b_];exact he [] σ g (by simpa using hi)
 |d::ds,i,σ,g,acc,hi,hs,he=>by
  simp only[bV,wp_bind]
  refine wp_mono (hs 0 d acc σ g rfl hi) λq f=>wp_mono f λk b=>?_
  have go:∀(a:List D) (s:Sg) (h:G) (R:List D×G->Prop),I (i+1) a s h->(∀xs σ g,I (i+1+ds.length) (a++xs) σ g->R (xs,g))->wp (bV t c e ds s h) R:=λa s h R z he =>
    wb I ds (i+1) s h a z (λj d acc σ g e h=>by
     have q:=hs (j+1) d acc σ g (by simpa using e) (by rw[show i+(j+1)=i+1+j by omega];exact h)
     rw[show i+(j+1)+1=i+1+j+1 by omega]at q
     exact q) he
  have n:i+(d::ds).length=i+1+ds.length:=by rw[adt];omega
  rw[n]at he
  by_cases hc:k.1=true
  . rw[if_pos hc]at b ⊢
    simp only[wp_bind]
    refine wp_mono b λr l=>?_
    refine go (acc ++ [r.1]) q.1 r.2 _ l λxs σ g h=>?_
    simp only[b_]
    exact he (r.1::xs) σ g (by simpa using h)
  . rw[if_neg hc]at b ⊢
    exact go acc q.1 k.2 _ b he
theorem gM {nN nP:Nat}{b:FS}{ds:List D}{g:G}{Q:D×G->Prop}(hl:ds.length=nP)(h:wp (b (ds.map some++aaW (nN-nP) none) g) λr=>match r.1 with
  |.rt d=>bx g.length d=true/\(r.2.2.take g.length).all (aX g.length)=true/\g.length<=r.2.2.length/\Q (d,r.2.2.take g.length)
  |.nx=>(r.2.2.take g.length).all (aX g.length)=true/\g.length<=r.2.2.length/\Q (.ay,r.2.2.take g.length)
  |_=>False):wp (aA false nN nP b ds g) Q:=by
 obtain⟨⟨r,σ,a⟩,e,q⟩:=h
 unfold aA
 rw[if_pos hl,e]
 have fin:∀d,bx g.length d=true->(a.take g.length).all (aX g.length)=true->g.length<=a.length->Q (d,a.take g.length)->wp (settle g.length d a) Q:=λd l n p j=>by
  by_cases hg:a.length=g.length
  . rw[abS (by omega)]at j
    exact⟨_,by unfold settle;rw[if_pos hg],j⟩
  . refine⟨_,?_,j⟩
    unfold settle
    rw[if_neg hg,if_pos n]
    cases d with
    |ref k =>
     have z:k<g.length:=by simpa[bx]using l
     simp only[if_pos z]
    |_=>simp only[if_pos l]
 cases r with
 |rt d =>
  obtain⟨o,i,f,c⟩:=q
  exact fin d o i f c
 |nx =>
  obtain⟨i,f,c⟩:=q
  exact fin .ay rfl i f c
 |bk=>exact q.elim
 |ct=>exact q.elim
end L3
namespace L3
open PySem PySem.Spec PyProof.Rows L2
open SeqAt
noncomputable def gi:D->Bool
 |.ay=>true
 |.bl _=>true
 |.int _=>true
 |.str _=>true
 |_=>false
noncomputable def toV:D->V
 |.bl b=>.bl b
 |.int i=>.int i
 |.str x=>.str x
 |_=>.ay
theorem oB {K H ι d v}(h:gi d=true)(r:Rel K H ι d v):v=toV d/\ja v=true:=by
 cases d with
 |ay=>simp only[Rel]at r;subst r;exact⟨rfl,rfl⟩
 |bl _=>simp only[Rel]at r;subst r;exact⟨rfl,rfl⟩
 |int _=>simp only[Rel]at r;subst r;exact⟨rfl,rfl⟩
 |str _=>simp only[Rel]at r;subst r;exact⟨rfl,rfl⟩
 |_=>cases h
theorem sm {K H ι d}(h:gi d=true):Rel K H ι d (toV d):=by
 cases d with
 |ay=>simp[Rel,toV]
 |bl _=>simp[Rel,toV]
 |int _=>simp[Rel,toV]
 |str _=>simp[Rel,toV]
 |_=>cases h
theorem pY {K H ι}:∀{xs:List D} {vs:List V},xs.all gi=true->ag K H ι xs vs->vs=xs.map toV/\vs.all ja=true
 | [],vs,_,r=>by simp only[ag]at r;subst r;exact⟨rfl,rfl⟩
 |d::xs,vs,h,r=>by
  simp only[ag]at r
  obtain⟨v,f,rfl,a,b⟩:=r
  rw[acu,aav]at h
  obtain⟨c,f1⟩:=oB h.1 a
  obtain⟨e,f2⟩:=pY h.2 b
  subst c e
  exact⟨rfl,by rw[acu,f1,f2];rfl⟩
theorem wc {K H ι}:∀{xs:List D},xs.all gi=true->ag K H ι xs (xs.map toV)
 | [],_=>by simp[ag]
 |d::xs,h=>by
  rw[acu,aav]at h
  simp only[aaX,ag]
  exact⟨_,_,rfl,sm h.1,wc h.2⟩
theorem QV {a b:D}(ha:gi a=true)(hb:gi b=true):tR (toV a) (toV b)=aJ a b:=by
 cases a<;>cases b<;>first| (simp[toV,tR,aJ];done)| (simp[gi]at ha;done)| (simp[gi]at hb;done)
def UU (K:KW)(d:D)(v:V):Prop:=(gi d=true/\v=toV d) \/
 ∃xs a o au n,d = .tup xs/\xs.all gi=true/\v = .ref a/\K.fr.lookup a=some o/\o.cls = .type "tuple" /\ o.dict=none/\o.data = .seq au n/\au.size<=aaP/\Vals (xs.map toV) au.toList
noncomputable def Gr (w:World)(K:KW):List aa_->List (Str×D)->Prop
 | [],j0=>j0 = []
 |e::es,j0=>∃x d rest,j0=(x,d)::rest/\(∃t,e.key = .str x t)/\e.hash=hashStr w x/\(∃v,RelV v e.val/\UU K d v)/\Gr w K es rest
structure uQ (w:World)(K:KW)(a:Addr)(j0:List (Str×D)):Prop where
 ex:∃o es ep,K.fr.lookup a=some o/\o.ExactDict/\o.data = .dict es ep/\Gr w K es.toList j0
 sys:(a == ac_)=false
section
variable {X:Cx}{a:Addr}{j0:List (Str×D)}
noncomputable def pZ (xs:List D)(d:D):Option Nat:=xs.findIdx? λy=>aJ y d
end
end L3
namespace L3
open PySem PySem.Spec PyProof.Rows L2
section
variable {X:Cx}
noncomputable def sr (i j:Nat)(fr:FA):FS:=λσ g=>(fr σ g).bind λr=>match r.1 with
 | [a,b]=>some (.nx,(σ.set i (some a)).set j (some b),r.2)
 |_=>none
theorem M3 {i j:Nat}{x y:Str}{a b:Expr}{fr:FA}{px py pt pos:Pos}{kt k2 mv}(hc:X.calm=true)(hN:X.N.Nodup)(hi:X.N[i]? = some x)(hj:X.N[j]? = some y)(vk:i≠j)
  (hx:X.env.scope.names.lookup x=some .local) (hy:X.env.scope.names.lookup y=some .local) (ha:DA X [a,b] fr)
  (hw:adz [.Tuple [.Name x px,.Name y py] kt pt] (.Tuple [a,b] k2 mv) X.env=pure (some [x,y]))
  (hs:ad4 [.Tuple [.Name x px,.Name y py] kt pt] (.Tuple [a,b] k2 mv) pos.line X.env=pure false:=by rfl):
  DS X (.Assign [.Tuple [.Name x px,.Name y py] kt pt] (.Tuple [a,b] k2 mv) pos) (sr i j fr):=.of (
 PS.imp (K6 hc hN hi hj vk hx hy ha.un hw hs) λDn σ H h=>by
  obtain⟨ι,σd,g,r,b4,g',G0,o,h,p⟩:=h
  obtain⟨⟨ds,g1⟩,f,h⟩:=bind_some h
  refine i5.bind G0 o f λH1 n vs l e k c=>?_
  dsimp only at h
  split at h
  . rename_i a b
    cases h
    simp only[ag]at c
    obtain⟨v,z,rfl,q,u,ur,rfl,s,rfl⟩:=c
    exact⟨v,u,rfl,p H1 n l e _ ((k.set q i).set s j)⟩
  . cases h)
end
theorem uE {prog:aaY}{w:World}{A:aaV}{E:Value->aat->Prop}{s:aat}{it a:Addr}{i:Nat}{items:Array Value}{x:Value}{Q:Value->aat->Prop}(hit:s.heap.IsTupleIter it a i)(hl:s.heap.IsTuple a items)(hx:items[i]? = some x)
  (hQ:∀h',h'.IsTupleIter it a (i+1)->acW it s.heap h'->Q x { s with heap:=h' }):wpAny (model prog w) A (ade (.ref it)) Q E s:=by
 obtain⟨o,c,e,b⟩:=id hit
 obtain⟨j,h,_,k,f⟩:=hl
 unfold ade
 refine aas (abf (name:=aa4 "__next__") hit.typeIs F.slot_tuple_iterator_next (aa7 F.slot_tuple_iterator_next hit.typeIs F.entry_tuple_iterator_next ?_ (F.args_tuple_iterator_next_1 _)))
 change wpAny _ _ (field (.ref it) 0 >>= λ_=>_) _ _ _
 refine aas (acT c b (x:=.ref a) rfl ?_)
 change wpAny _ _ (if(adE a == acE)=true then _ else _) _ _ _
 rw[if_neg (by exact abZ)]
 change wpAny _ _ (field (.ref it) 1 >>= λ_=>_) _ _ _
 refine aas (acT c b (x:=.int i 0) rfl ?_)
 change wpAny _ _ (seqItems? (.ref a) >>= λ_=>_) _ _ _
 refine aas (ae7 h f ?_)
 simp only[abK,hx]
 refine aas (adi c b (by simp) ?_)
 refine aau ⟨x,rfl,aau (hQ _ ⟨_,abl _ c (ago (aei b _)),(ahE ..).trans e,?_⟩ (abn ..))⟩
 rw[aei b]
 simp[acX]
theorem nz {prog:aaY}{w:World}{A:aaV}{E:Value->aat->Prop}{s:aat}{it a:Addr}{i:Nat}{items:Array Value}{Q:Value->aat->Prop}(hh:A.handled=none)(hit:s.heap.IsTupleIter it a i)(hl:s.heap.IsTuple a items)(hx:items[i]? = none)
  (hE:∀h' e,af8 it s.heap h'->(∃o,h'.get? e=some o/\o.cls = .type "StopIteration")->E (.ref e) { s with heap:=h' }):wpAny (model prog w) A (ade (.ref it)) Q E s:=by
 obtain⟨o,c,j,b⟩:=id hit
 obtain⟨k,h,_,l,f⟩:=hl
 unfold ade
 refine aas (abf (name:=aa4 "__next__") hit.typeIs F.slot_tuple_iterator_next (aa7 F.slot_tuple_iterator_next hit.typeIs F.entry_tuple_iterator_next ?_ (F.args_tuple_iterator_next_1 _)))
 change wpAny _ _ (field (.ref it) 0 >>= λ_=>_) _ _ _
 refine aas (acT c b (x:=.ref a) rfl ?_)
 change wpAny _ _ (if(adE a == acE)=true then _ else _) _ _ _
 rw[if_neg (by exact abZ)]
 change wpAny _ _ (field (.ref it) 1 >>= λ_=>_) _ _ _
 refine aas (acT c b (x:=.int i 0) rfl ?_)
 change wpAny _ _ (seqItems? (.ref a) >>= λ_=>_) _ _ _
 refine aas (ae7 h f ?_)
 simp only[abK,hx]
 refine aas (ab8 (aas (adi c b (by simp) ?_)))
 change wpAny _ _ (newExc (.type "StopIteration") [] >>= λ_=>_) _ _ _
 refine aas ?_
 simp only[newExc,newTuple]
 refine aas (aba ?_ (by size_fits))
 refine aas (m:=ae4 _ _) (ahP (a:=acE) (by first|rfl| (simp only[ae4];rfl)) ?_)
 refine aba ?_ (by size_fits)
 simp only[raiseNew]
 refine aas (agI ?_)
 rw[show A.in1.handled=none from hh]
 exact aas (aau (ahQ (hE _ _ (((abn ..).extBut.push _).push _) ⟨_,aaG _ rfl,rfl⟩)))
theorem B7 {prog:aaY}{w:World}{A:aaV}(hh:A.handled=none)(it a:Addr)(fG:a≠it)(items:Array Value):
  Draws prog w A it [it,a] items.size (λi v=>items[i]? = some v) (λi h=>h.IsTupleIter it a i/\h.IsTuple a items) where
 live:=λ_ _ st=>let⟨o,ho,_⟩:=st.1;⟨o,ho⟩
 frame:=λ_ _ _ st b=>⟨st.1.at λo e=>b it (by simp) o e,let⟨o,ho,r⟩:=st.2;⟨o,b a (by simp) o ho,r⟩⟩
 item:=λi s Q E c st l=>uE st.1 st.2 (x:=items[i]) (by simp[c]) λj k f=>l _ j s.toks (by simp[c]) ⟨k,st.2.extBut f.extBut fG⟩ f
 done:=λs Q E st n=>nz hh st.1 st.2 (by simp) n
theorem B8 {prog:aaY}{w:World}{A:aaV}(hh:A.handled=none)(it a:Addr)(items:Array Value)(n:Nat)(hn:items.size<=n):
  Draws prog w A it [it,a] n (λ_ _=>True) (λj h=>j=n/\h.IsTupleIter it a n/\h.IsTuple a items) where
 live:=λ_ _ st=>let⟨o,ho,_⟩:=st.2.1;⟨o,ho⟩
 frame:=λ_ _ _ st b=>⟨st.1,st.2.1.at λo e=>b it (by simp) o e,let⟨o,ho,r⟩:=st.2.2;⟨o,b a (by simp) o ho,r⟩⟩
 item:=λi s Q E c st k=>absurd st.1 (aaN c)
 done:=λs Q E st f=>nz hh st.2.1 st.2.2 (by simp;exact hn) f
theorem B9 (a:Addr)(items:Array Value)(n:Nat)(aG:Option Addr)(sl:Array (Option Value)):
  Meets (ab1.«enumerate.__new__» ⟨[.type "enumerate",.ref a],[]⟩) (λ_ R s=>s.heap.get? a=some { cls:=.type "tuple",dict:=aG,data:=.seq items n,slots:=sl } /\
    R (.ok (.ret (.ref (s.heap.push { cls:=.type "tuple_iterator",data:=.fields #[.ref a,.int 0 0] }).objs.size)))
     { s with heap:=(s.heap.push { cls:=.type "tuple_iterator",data:=.fields #[.ref a,.int 0 0] }).push { cls:=.type "enumerate",data:=.fields #[.none,.bool false,.ref s.heap.objs.size,acX 0,.none,.none] } }):=
 .of_wp λprog w A R s h=>by
  obtain⟨e,g,d,f,os⟩:=s
  obtain⟨b,h⟩:=h
  have sub:=sub_enumerate
  have tup:Heap.IsTuple (Shared.heap ⟨e,g,d,f,os⟩) a items:=⟨_,b,rfl,n,rfl⟩
  wp_walk using wpAny_loadPart' b
  refine wpAny_stack_any λst=>aau ?_
  split
  . rename_i c _ _ _ _ _
    cases (c == abm "enumerate")<;>(wp_walk using wpAny_loadPart' b,adF tup;exact⟨_,rfl,h⟩)
  . wp_walk using wpAny_loadPart' b,adF tup
    exact⟨_,rfl,h⟩
theorem Aj {prog:aaY}{w:World}{A:aaV}{E:Value->aat->Prop}{s:aat}{a:Addr}{items:Array Value}{Q:Value->aat->Prop}(ht:s.heap.IsTuple a items)
  (h:∀h',IsEnum h' (s.heap.objs.size+1) s.heap.objs.size 0 .none->h'.IsTupleIter s.heap.objs.size a 0->(∀b o,s.heap.get? b=some o->h'.get? b=some o)->Q (.ref (s.heap.objs.size+1)) { s with heap:=h' }):
  wpAny (model prog w) A (call (.type "enumerate") [.ref a]) Q E s:=by
 obtain⟨⟨c,aG,dt,e⟩,j,f,n,i⟩:=ht
 cases (show c = .type "tuple" from f)
 cases (show dt = .seq items n from i)
 refine callType_new F.called_enumerate (by decide) (F.typeCall_enumerate_1 _) (F.newCall_enumerate_1 _) (λobj=>F.args_object_init_2 obj _) F.entry_enumerate_new (B9 a items n aG e) ⟨j,?_⟩
 have sz:(s.heap.push { cls:=.type "tuple_iterator",data:=.fields #[.ref a,.int 0 0] }).objs.size=s.heap.objs.size+1:=aci ..
 have en:=aaG (s.heap.push { cls:=.type "tuple_iterator",data:=.fields #[.ref a,.int 0 0] }) (o:={ cls:=.type "enumerate",data:=.fields #[.none,.bool false,.ref s.heap.objs.size,acX 0,.none,.none] }) rfl
 rw[sz]at en
 show _/\_
 rw[sz]
 exact⟨⟨_,en,rfl⟩,h _ en ⟨_,aaw _ (aaG _ rfl),rfl,rfl⟩ λb o x=>aaw _ (aaw _ x)⟩
theorem Jx {X:Cx}{pins:List (Addr×Obj)}{σ:L2.St}{H:Hp}{s:aat}{h':Heap}{t':Nat}{ch:List Addr}(I:L2.Inv X pins σ H s)(k:∀b o,b ∉ ch->s.heap.get? b=some o->h'.get? b=some o)(hf:∀b∈ch,gU X pins H b):
   L2.Inv X pins σ H { s with heap:=h',toks:=t' }:=by
 have f:∀b u,H b=some u->b ∉ ch:=λb u e z=>by rw[(hf b z).1]at e;cases e
 refine I.step (g':=s.gens) (d':=s.drawn) (ch:=ch) (λb p=>?_) (λb o _ _ a e _=>k b o a e) (λb o _ _ a e _=>⟨o.slots,k b o a e⟩) (λ_ _ _ _ n=>n)
   (λb o a e=>⟨o,k b o a e⟩) (λ_ _ e=>e) (λ_ _ _ e=>e) (λb y e=>⟨#[],by rw[e];simp⟩) (λm hm=>?_) (λb u e=>?_) I.bare
 . obtain⟨f0,f1,f2,i,f4,l⟩:=hf b p
   exact⟨i,f1,f4,l⟩
 . obtain⟨o,h,x,j,r⟩:=hm
   exact⟨o,h,x,k _ o (λz=>(hf _ z).2.1 rfl) j,r⟩
 . refine(I.bB b u e).pO (λc v a q=>k c v ?_ q) (λ_ q=>q) λ_ _ q=>q
   rcases a with z|z
   . rw[z];exact f b u e
   . exact f c _ z
noncomputable def M6 (K:aaI)(a:Addr):It :=
 ⟨λi H=>∃xs x,dS K H a xs/\xs[i]? = some x,λi H x b=>∃T v,x = .ref T/\H T=none/\b=upd H T (.tup [.int i,v]) /\ ∀xs,dS K H a xs->xs[i]? = some v,λi H=>∃xs,dS K H a xs/\xs.length<=i⟩
theorem Ak {P:aaY}{w:World}{K:aaI}{elts:List Expr}{kt:Nat}{tp:Pos}(a e it:Addr)(M7:e≠it):Turn P w K (.Tuple elts kt tp) (M6 K a) [e,it] e (λi h=>(∃old,IsEnum h e it i old)/\h.IsTupleIter it a i) where
 mem:=by simp
 obj:=λi h st b c=>by
  obtain⟨⟨old,l⟩,o,j,h3,h4⟩:=st
  rcases aaD.mp c with rfl|c
  . exact⟨_,l,λv z=>by cases z⟩
  . have eQ:b=it:=by simpa using c
    subst eQ
    exact⟨o,j,λv z=>by rw[h4]at z;cases z⟩
 keep:=λi h n st k=>by
  obtain⟨⟨old,l⟩,j⟩:=st
  exact⟨⟨old,k e (by simp) _ l⟩,j.at λo q=>k it (by simp) o q⟩
 item:=by
  intro X hP hw hK hc i pins s σ H E I hf st hg
  subst hP hw hK
  obtain⟨⟨old,l⟩,j⟩:=st
  obtain⟨xs,x,hq,hx⟩:=hg
  obtain⟨au,rv,p,hz⟩:=I.tuple hq
  obtain⟨u,hu,ru⟩:=rv.get hx
  have ai:a≠it:=λz=>by
    obtain⟨o,r,y,_⟩:=p
    obtain⟨o',q3,q4,_⟩:=j
    rw[z,q3]at r
    cases r
    rw[q4]at y
    exact absurd y (by decide)
  have ae:e≠a:=λz=>by
    obtain⟨o,r,y,_⟩:=p
    rw[<- z,l]at r
    cases r
    exact absurd (show abm "enumerate" = abm "tuple" from y) (by decide)
  have hi:i<au.toArray.size:=by
    have:=(aaB.mp hu).1
    simpa using this
  refine wpAny_pyNext_enum_itemD (B7 (A:=X.A.in1) (I.ok.hd hc) it a ai au.toArray) l ⟨j,p⟩ hi M7 (by simp[M7,ae]) λx' n tk hP UW ck hT ab hk=>?_
  have ex:x'=u:=by
    have q:au.toArray[i]? = some x':=hP
    have q':au[i]? = some x':=by simpa using q
    rw[hu]at q'
    exact(abN q').symm
  subst ex
  refine⟨_,rfl,wpAny_letOwnedTupleGo_enum UW λGn qW M8=>?_⟩
  have I1:L2.Inv X pins σ (upd H s.heap.objs.size (.tup [.int i,x])) { s with heap:=s.heap.push { cls:=.type "tuple",data:=.seq #[.int i tk,x'] } }:=
    I.laid (t':=s.toks) (o:=.tup [.int i,x]) (λb o q=>aaw _ q) (aaC _) (show cP X.prog X.w _ _ _ (.tup [.int i,x]) from⟨by show 2<=aaP;decide,[.int i tk,x'],.cons ⟨tk,rfl⟩ (.cons ru .nil),fD.new _ _⟩)
  have eT:e≠s.heap.objs.size:=aaN (aaH l)
  have iT:it≠s.heap.objs.size:=by
    obtain⟨o',q3,_⟩:=j
    exact aaN (aaH q3)
  have I2:L2.Inv X pins σ (upd H s.heap.objs.size (.tup [.int i,x])) { s with heap:=Gn,toks:=tk+1 }:=Jx (s:={ s with heap:=s.heap.push { cls:=.type "tuple",data:=.seq #[.int i tk,x'] } }) (ch:=[e,it]) I1 (λb o c q=>by
    simp only[aaD,ad0,or_false,not_or]at c
    have h3:n.get? b=some o:=by
      by_cases R_:b=s.heap.objs.size
      . subst R_
        have:(s.heap.push { cls:=.type "tuple",data:=.seq #[.int i tk,x'] }).get? s.heap.objs.size=some o:=q
        rw[aaG _ rfl]at this
        rw[<- this];exact hT
      . exact hk b o c.1 c.2 ((acL s.heap b _ R_).symm.trans q)
    exact(M8.2 b c.1).trans h3) (λb c=>by
      obtain⟨f0,f1,f2,f3,f4,f5⟩:=hf b c
      refine⟨?_,f1,f2,f3,f4,f5⟩
      rcases aaD.mp c with rfl|c
      . rw[aR eT];exact f0
      . have eQ:b=it:=by simpa using c
        subst eQ
        rw[aR iT];exact f0)
  refine⟨.ref s.heap.objs.size,_,I2,rfl,⟨_,x,rfl,I.fresh,rfl,λys hy=>by rw[I.mN hy hq];exact hx⟩,⟨⟨_,by simpa using qW⟩,?_⟩,λb c=>?_⟩
  . exact ck.1.at λo q=>(M8.2 it (acg M7)).trans q
  . rcases aaD.mp c with rfl|c
    . rw[aR eT];exact(hf _ (by simp)).1
    . have eQ:b=it:=by simpa using c
      subst eQ
      rw[aR iT];exact(hf _ (by simp)).1
 done:=by
  intro X hP hw hK hc i pins s σ H E I hf st hg
  subst hP hw hK
  obtain⟨⟨old,l⟩,j⟩:=st
  obtain⟨xs,hq,hx⟩:=hg
  obtain⟨au,rv,p,hz⟩:=I.tuple hq
  have ai:a≠it:=λz=>by
    obtain⟨o,r,y,_⟩:=p
    obtain⟨o',q3,q4,_⟩:=j
    rw[z,q3]at r
    cases r
    rw[q4]at y
    exact absurd y (by decide)
  have f:=hf it (by simp)
  have fin:∀n,af8 it s.heap n->L2.Inv X pins σ H { s with heap:=n }:=λn eb=>I.turned (t':=s.toks) (λb o c q=>eb b o c q) f.1 f.2.1 f.2.2.2.1 f.2.2.2.2.1 f.2.2.2.2.2
  have hl:=rv.length
  exact wpAny_pyNext_enum_endD (B8 (A:=X.A.in1) (I.ok.hd hc) it a au.toArray i (by simp;omega)) l ⟨rfl,j,p⟩ λn eb=>⟨rfl,fin n eb⟩
 self:=λ_ _ _ _ _ st h=>wpAny_pyIter_enum st.1.choose_spec h
noncomputable def cU (xs:List D):List D:=xs.zipIdx.map λp=>.tup [.int (p.2:Nat),p.1]
noncomputable def B_ (f:FE):FI:=λσ g=>(f σ g).bind λr=>match r.1 with|.tup xs=>some (cU xs,r.2)|_=>none
theorem lE.QW {K H ι a vs ds}(hq:jH K H ι a vs)(hr:ag K H ι ds vs):lE K (M6 K a) H ι (cU ds):=λi H1 o g1 c e =>
 ⟨λk=>⟨vs,(hq.fH c).sq,by rw[<- hr.length];simpa[cU]using k⟩,λd hd=>by
  unfold cU at hd
  rw[abE,List.getElem?_zipIdx]at hd
  cases hx:ds[i]? with
  |none=>rw[hx]at hd;cases hd
  |some d0 =>
   rw[hx]at hd
   simp only[abo,abW,ac0]at hd
   subst hd
   obtain⟨v,f,j⟩:=(ag.fH c _ hr).get hx
   refine⟨⟨vs,v,(hq.fH c).sq,f⟩,λx l y=>?_⟩
   obtain⟨T,n,rfl,b,rfl,h⟩:=y
   have:=h vs (hq.fH c).sq
   rw[f]at this
   cases this
   refine⟨Ext.lay b,e.lay b,?_⟩
   simp only[Rel]
   refine⟨T,_,rfl,.inl ⟨.inl bw,e.fresh b⟩,?_⟩
   simp only[ag,Rel]
   exact⟨_,_,rfl,rfl,_,_,rfl,Rel.ext (Ext.lay b) _ j,rfl⟩⟩
theorem Ez {X:Cx}{l:Expr}{fe:FE}{p pos tp:Pos}{elts:List Expr}{kt:Nat}(hg:Gl X "enumerate")(hm:X.mg "enumerate" = none)(hl:DE X l fe)
  (hs:aaZ [l] X.env = [(false,eval l X.env)]:=by rfl):DI X (.Tuple elts kt tp) (.Call (.Name "enumerate" p) [l] [] pos) (B_ fe):=.of (by
 intro pins s σ H R I h
 obtain⟨ι,σd,g,ds,g',G0,S0,h,q⟩:=h
 obtain⟨⟨d1,g1⟩,h1,h⟩:=bind_some h
 cases d1 with
 |tup xs =>
  cases h
  refine Call_ (iG I hg hm PyProof.Rows.boot_enumerate (acm (aT ((kF hl.un qr hs) pos pins s σ H (λn H1=>∃v c,n = [v]/\Ext H ι H1 c/\ax X.kw H1 c g1/\Rel X.kw H1 c (.tup xs) v) I ?_) λus s1 ⟨n,H1,e,k,v,c,e0,j,f,x⟩=>?_) hs rfl))
  . exact⟨ι,σd,g,_,g1,G0,S0,h1,λH1 c v j f k=>⟨v,c,rfl,j,f,k⟩⟩
  . subst e0
    obtain⟨u,rfl,ru⟩:=vals1 k
    simp only[Rel]at x
    obtain⟨a,n,rfl,o,y⟩:=x
    cases ru
    obtain⟨au,rv,pt,hz⟩:=e.tuple o.sq
    refine Aj (show s1.heap.IsTuple a au.toArray from pt) λh' r wd hk=>?_
    refine wpAny_pyIter_enum r ?_
    have z:s1.heap.objs.size+1≠s1.heap.objs.size:=ah3 _
    refine⟨s1.heap.objs.size+1,[s1.heap.objs.size+1,s1.heap.objs.size],_,_,H1,rfl,e.kept (t':=s1.toks) hk,Ak a _ _ z,⟨⟨_,r⟩,wd⟩,λb i=>?_,q H1 c _ j f (.QW o y)⟩
    rcases aaD.mp i with rfl|i
    . exact e.mO (adI _) (e.bB.fresh (adI _))
    . have eQ:b=s1.heap.objs.size:=by simpa using i
      subst eQ
      exact e.mO (aaC _) (e.bB.fresh (aaC _))
 |_=>cases h)
noncomputable def jg (f:FE):FI:=λσ g=>(f σ g).bind λr=>match r.1 with|.tup xs=>some (cU xs,r.2)|_=>none
theorem Jy {X:Cx}{l:Expr}{fe:FE}{p pos tp:Pos}{elts:List Expr}{kt:Nat}(hg:Gl X "enumerate")(hm:X.mg "enumerate" = none)(hl:DE X l fe)
  (hs:aaZ [l] X.env = [(false,eval l X.env)]:=by rfl):DI X (.Tuple elts kt tp) (.Call (.Name "enumerate" p) [l] [] pos) (jg fe):=.of (by
 intro pins s σ H R I h
 obtain⟨ι,c,g,ds,f,G0,e,h,q⟩:=h
 obtain⟨⟨i,g1⟩,b,a⟩:=bind_some h
 cases i with
 |tup xs=>exact(Ez hg hm hl hs).un pins s σ H R I ⟨ι,c,g,ds,f,G0,e,by unfold B_;rw[b];exact a,q⟩
 |_=>cases a)
@[simp] theorem UX {fa:FE}{σ:Sg}{g:G}:jg fa σ g=(fa σ g).bind λr=>match r.1 with|.tup xs=>some (cU xs,r.2)|_=>none:=rfl
section
variable {σ:Sg}{g:G}{fa fb fo fx:FE}{fr:FA}
@[simp] theorem Xm {i j:Nat}:sr i j fr σ g=(fr σ g).bind λr=>match r.1 with
 | [a,b]=>some (.nx,(σ.set i (some a)).set j (some b),r.2)
 |_=>none:=rfl
end
section
variable {σ:Sg}{g:G}{fa fb:FE}
@[simp] theorem QX:ky .ay g=some false:=rfl
@[simp] theorem QY {xs:List D}:ky (.tup xs) g=some (!xs.isEmpty):=rfl
@[simp] theorem QZ {xs:List D}:ky (.lst xs) g=some (!xs.isEmpty):=rfl
end
def pO (cs:List Addr)(h h':Heap):Prop:=∀c o,c ∉ cs->h.get? c=some o->h'.get? c=some o
noncomputable def bu (n:Nat)(lo hi:Option Int)(st:Int):Int×Nat:=((abT lo hi st (n:Int)).1,aca (abT lo hi st (n:Int)).1 (abT lo hi st (n:Int)).2 st)
noncomputable def fz {α:Type}(xs:List α)(l:Int)(n:Nat)(st:Int):List α:=(aaz n).filterMap λ(k:Nat)=>xs[(l+(k:Int)*st).toNat]?
noncomputable def sA (d:D)(lo hi st:Option Int)(g:G):Option (D×G):=match d,st with
 |.tup xs,some k=>if(!(k == 0) && !(k == 1)&&az (bu xs.length lo hi k).2)=true then some (.tup (fz xs (bu xs.length lo hi k).1 (bu xs.length lo hi k).2 k),g)else none
 |_,_=>none
theorem Ca {d d':D}{lo hi st:Option Int}{g g':G}(h:sA d lo hi st g=some (d',g')):∃xs k,d = .tup xs/\st=some k/\k≠0/\k≠1/\az (bu xs.length lo hi k).2=true/\d' = .tup (fz xs (bu xs.length lo hi k).1 (bu xs.length lo hi k).2 k)/\g'=g:=by
 unfold sA at h
 split at h
 . rename_i xs k
   split at h
   . rename_i z
     rw[aav,aav]at z
     cases h
     exact⟨xs,k,rfl,rfl,by simpa using z.1.1,by simpa using z.1.2,z.2,rfl,rfl⟩
   . cases h
 . cases h
noncomputable def Al (fa:FE)(fl fh fs:FO):FE:=λσ g=>(fa σ g).bind λr=>(fl σ r.2).bind λl=>(fh σ l.2).bind λh=>(fs σ h.2).bind λk=>sA r.1 l.1 h.1 k.1 k.2
theorem nA {α:Type}(xs:List α)(l:Int)(n:Nat)(st:Int):(fz xs l n st).length<=n:=by
 unfold fz
 exact abt (List.length_filterMap_le _ _) (by simp)
theorem ag.pick {K H ι}{xs:List D}{vs:List V}(r:ag K H ι xs vs)(l:Int)(st:Int):∀n k,ag K H ι ((afd k n).filterMap λ(k:Nat)=>xs[(l+(k:Int)*st).toNat]?) ((afd k n).filterMap λ(k:Nat)=>vs[(l+(k:Int)*st).toNat]?)
 | 0,k=>by simp[ag]
 |n+1,k=>by
  rw[ah_,abU,abU]
  have ih:=ag.pick r l st n (k+1)
  cases hx:xs[(l+(k:Int)*st).toNat]? with
  |none =>
   have a:vs[(l+(k:Int)*st).toNat]? = none:=by
    rw[aec]at hx ⊢
    rw[<- r.length];exact hx
   rw[a];exact ih
  |some d =>
   obtain⟨v,a,b⟩:=r.get hx
   rw[a]
   simp only[ag]
   exact⟨v,_,rfl,b,ih⟩
theorem ua {vs:List V}{au:List Value}(r:Vals vs au)(l:Int)(st:Int):∀n k,Vals ((afd k n).filterMap λ(k:Nat)=>vs[(l+(k:Int)*st).toNat]?) ((afd k n).filterMap λ(k:Nat)=>au[(l+(k:Int)*st).toNat]?)
 | 0,k=>.nil
 |n+1,k=>by
  rw[ah_,abU,abU]
  have ih:=ua r l st n (k+1)
  cases hx:vs[(l+(k:Int)*st).toNat]? with
  |none =>
   have a:au[(l+(k:Int)*st).toNat]? = none:=by
    rw[aec]at hx ⊢
    rw[<- r.length];exact hx
   rw[a];exact ih
  |some d =>
   obtain⟨v,a,b⟩:=r.get hx
   rw[a]
   exact .cons b ih
section
variable {prog:aaY}{w:World}{A:aaV}{E:Value->aat->Prop}{s:aat}
theorem EA {sl:Addr}{vl vu vs:Value}{lo hi:Option Int}{k:Int}{n:Nat}{Q:Int×Int×Nat->aat->Prop}(hs:s.heap.IsSliceOf sl vl vu vs)(pl:ado vl lo)(pu:ado vu hi)(ps:ado vs (some k))(h0:k≠0)
  (h:Q ((bu n lo hi k).1,k,(bu n lo hi k).2) s):wpAny (model prog w) A (ac5 (.ref sl) (pure (n:Int))) Q E s:=by
 obtain⟨os,b,c,a⟩:=id hs
 unfold ac5 afz
 refine aas (aas (acT b a (x:=vl) rfl (aas (acT b a (x:=vu) rfl (aas (acT b a (x:=vs) rfl (aau ?_)))))))
 refine aas (HT.gW ps ?_)
 change wpAny _ _ (if(k == 0)=true then _ else _) _ _ s
 rw[if_neg (by simpa using h0)]
 exact aas (HT.gW pl (aas (HT.gW pu (aas (aau (aau h))))))
theorem Q0 {t sl:Addr}{items:Array Value}{vl vu vs:Value}{lo hi:Option Int}{k:Int}{Q:Value->aat->Prop}(ht:IsTup s.heap t items)(hs:s.heap.IsSliceOf sl vl vu vs)(pl:ado vl lo)(pu:ado vu hi)(ps:ado vs (some k))(h0:k≠0)(h1:k≠1)
  (h:Q (.ref s.heap.objs.size) { s with heap:=s.heap.push { cls:=.type "tuple",data:=.seq (fz items.toList (bu items.size lo hi k).1 (bu items.size lo hi k).2 k).toArray } })
  (hz:(bu items.size lo hi k).2<=aaP):wpAny (model prog w) A (ael (.ref t) (.ref sl)) Q E s:=by
 have ok:sizeOk (.seq (fz items.toList (bu items.size lo hi k).1 (bu items.size lo hi k).2 k).toArray):=by
  show(fz items.toList (bu items.size lo hi k).1 (bu items.size lo hi k).2 k).toArray.size<=aaP
  rw[aaA]
  exact abt (nA ..) hz
 obtain⟨os,b,a,c⟩:=id hs
 have ty:s.TypeIs (.ref sl) "slice":=⟨os,b,a⟩
 unfold ael
 try with_reducible refine aa1 ?_
 first|refine aas (aau ?_)|skip
 refine aas (adK ht.typeIs (by decide) (aas (abf (name:=aa4 "__getitem__") ht.typeIs aa9 (aa7 aa9 ht.typeIs aeW ?_ (afg _ _)))))
 change wpAny _ _ (ac6 (.ref t) >>= λ_=>_) _ _ s
 refine aas (agF ht (aas (adq ty ?_)))
 rw[if_pos (by decide)]
 refine aas (EA hs pl pu ps h0 ?_)
 have no:¬(((bu items.size lo hi k).1 == 0&&k == 1&&(bu items.size lo hi k).2 == items.size)=true):=by
  intro q
  rw[aav,aav]at q
  exact h1 (eq_of_beq q.1.2)
 change wpAny _ _ (if((bu items.size lo hi k).1 == 0&&k == 1&&(bu items.size lo hi k).2 == items.size)=true then _ else _) _ _ s
 rw[if_neg no]
 have e:((aaz (bu items.size lo hi k).2).filterMap λ(m:Nat)=>items[((bu items.size lo hi k).1+(m:Int)*k).toNat]?).toArray=(fz items.toList (bu items.size lo hi k).1 (bu items.size lo hi k).2 k).toArray:=by
  unfold fz
  simp only[acy]
 rw[e]
 first
  |exact aas (m:=abJ _) (aba (aau ⟨_,rfl,aau h⟩) ok)
  |exact aas (m:=abJ _) (aba (aas (aau (aau ⟨_,rfl,aau h⟩))) ok)
  |exact aas (aas (m:=abJ _) (aba (aau (aau ⟨_,rfl,aau h⟩)) ok))
  |exact aas (aas (m:=abJ _) (aba (aau ⟨_,rfl,aau h⟩) ok))
end
theorem Cb {X:Cx}{e:Expr}{lo hi:Option Expr}{st:Expr}{fe:FE}{fl fh fs:FO}{p2 pos:Pos}(he:DE X e fe)(hl:DO X lo fl)(hu:DO X hi fh)(ck:DO X (some st) fs):DE X (.Subscript e (.Slice lo hi (some st) p2) pos) (Al fe fl fh fs):=.of (by
 intro pins s σ H Q I h
 obtain⟨ι,σd,g,d,g',G0,S0,h,p⟩:=h
 obtain⟨⟨d1,g1⟩,h1,h⟩:=bind_some h
 obtain⟨⟨l,g2⟩,h2,h⟩:=bind_some h
 obtain⟨⟨u,g3⟩,h3,h⟩:=bind_some h
 obtain⟨⟨k,g4⟩,h4,h⟩:=bind_some h
 refine Subscript_ (aT (he.un pins s σ H (λx H1=>∃f,Ext H ι H1 f/\ax X.kw H1 f g1/\bN X.kw H1 f σd σ/\Rel X.kw H1 f d1 x) I ⟨ι,σd,g,d1,g1,G0,S0,h1,λH1 f v e1 G1 r1=>⟨f,e1,G1,S0.ext e1,r1⟩⟩) λv s1 ⟨x,H1,I1,r1,f,e1,G1,S1,rd⟩=>?_)
 refine wpAny_Slice (aT (hl.un pins s1 σ H1 (λo y=>o=l /\ ∃j,Ext H1 f y j/\ax X.kw y j g2) I1 ⟨f,σd,g1,l,g2,G1,S1,h2,λy j e2 G2=>⟨rfl,j,e2,G2⟩⟩) λvl s2 ⟨o,y,I2,pl,eo,j,e2,G2⟩=>?_)
 subst eo
 refine aT (hu.un pins s2 σ y (λo r=>o=u /\ ∃i,Ext y j r i/\ax X.kw r i g3) I2 ⟨j,σd,g2,u,g3,G2,S1.ext e2,h3,λr i e3 G3=>⟨rfl,i,e3,G3⟩⟩) λvu s3 ⟨o',r,I3,pu,eo,i,e3,G3⟩=>?_
 subst eo
 refine aT (ck.un pins s3 σ r (λo H4=>o=k /\ ∃z,Ext r i H4 z/\ax X.kw H4 z g4) I3 ⟨i,σd,g3,k,g4,G3,S1.ext (e2.trans e3),h4,λH4 z e4 G4=>⟨rfl,z,e4,G4⟩⟩) λvs s4 ⟨ab,H4,I4,ps,eo,z,e4,G4⟩=>?_
 subst eo
 have Sa:=Rel.ext (e2.trans (e3.trans e4)) _ rd
 obtain⟨xs,kk,rfl,ek,z0,z1,z2,rfl,rfl⟩:=Ca h
 cases ek
 simp only[Rel]at Sa
 obtain⟨a,ws,rfl,hq,hr⟩:=Sa
 cases r1
 have I5:L2.Inv X pins σ H4 { s4 with heap:=s4.heap.push { cls:=.type "slice",data:=.fields #[vl,vu,vs] } }:=I4.kept (t':=s4.toks) λb ob q=>aaw _ q
 obtain⟨au,rv,pt,hz⟩:=I5.tuple hq.sq
 have hlen:au.toArray.size=xs.length:=by rw[aaA,<- rv.length,<- hr.length]
 change wpAny (model X.prog X.w) X.A (agG e (.Slice lo hi (some st) p2) (.ref a) (.ref s4.heap.objs.size)) (EP X pins σ Q) X.xe { s4 with heap:=s4.heap.push { cls:=.type "slice",data:=.fields #[vl,vu,vs] } }
 refine tail_any (ops:=[.ref a,.ref s4.heap.objs.size]) pt.typeIs aa9.lookup ?_ (by with_unfolding_all rfl)
 refine Q0 pt (ag7 ..) pl pu ps z0 z1 ?_ (by rw[hlen];exact az.le z2)
 rw[hlen]
 have hp:∀{α:Type} (ys:List α) (l:Int) (n:Nat) (c:Int),fz ys l n c=(afd 0 n).filterMap λ(k:Nat)=>ys[(l+(k:Int)*c).toNat]?:=λys l n c=>by unfold fz;rw[List.range_eq_range']
 have fv:=I5.fresh
 refine⟨.ref _,_,I5.laid (t':=s4.toks) (o:=.tup (fz ws (bu xs.length o o' kk).1 (bu xs.length o o' kk).2 kk)) (λb ob q=>aaw _ q) (aaC _) ⟨abt (nA ..) (az.le z2),_,by rw[hp,hp];exact ua rv _ _ _ _,fD.new _ _⟩,rfl,?_⟩
 refine p _ z _ ((e1.trans (e2.trans (e3.trans e4))).trans (Ext.lay fv)) (G4.lay fv) ?_
 simp only[Rel]
 refine⟨_,_,rfl,.inl ⟨.inl bw,G4.fresh fv⟩,?_⟩
 rw[hp,hp]
 exact ag.ext (Ext.lay fv) _ (ag.pick hr _ _ _ _))
@[simp] theorem Xn {fa:FE}{fl fh fs:FO}{σ:Sg}{g:G}:Al fa fl fh fs σ g=(fa σ g).bind λr=>(fl σ r.2).bind λl=>(fh σ l.2).bind λh=>(fs σ h.2).bind λk=>sA r.1 l.1 h.1 k.1 k.2:=rfl
section
variable {X:Cx}
section
open SeqAt
variable {pins:List (Addr×Obj)}{σ:L2.St}{H:Hp}{s:aat}{ι:Ix}
noncomputable def ub:D->D->Bool
 |.bl _,.bl _=>true
 |.int _,.int _=>true
 |.lst _,.lst _=>true
 |_,_=>false
@[simp] theorem aab {a b:Bool}:ub (.bl a) (.bl b)=true:=rfl
@[simp] theorem aac {a b:Int}:ub (.int a) (.int b)=true:=rfl
@[simp] theorem aad {a b:List D}:ub (.lst a) (.lst b)=true:=rfl
theorem Cc (I:Inv X pins σ H s)(d1 d2:D){A:aaV}{x y:V}{u v:Value}(hk:ub d1 d2=true)(f1:flat d1=true)(f2:flat d2=true)(r1:Rel X.kw H ι d1 x)(r2:Rel X.kw H ι d2 y)(ru:RelV x u)(rv:RelV y v)(hu:A.units+dep d1<cLine):RcNeAt A s u v (!aJ d1 d2):=by
 unfold ub at hk
 split at hk
 . rename_i a b
   simp only[Rel]at r1 r2;subst r1 r2;cases ru;cases rv;simp only[aJ];exact .bool_bool a b
 . rename_i a b
   simp only[Rel]at r1 r2;subst r1 r2;obtain⟨t0,rfl⟩:=ru;obtain⟨t,rfl⟩:=rv;simp only[aJ];exact .int_int a t0 b t
 . rename_i xs p
   simp only[Rel]at r1;obtain⟨a,vs,rfl,q,h⟩:=r1;cases ru
   obtain⟨e,i,l,_⟩:=I.list q.sq
   simp only[dep]at hu
   simp only[Rel]at r2;obtain⟨a',ws,rfl,b9,k⟩:=r2;cases rv
   obtain⟨c,n,o,_⟩:=I.list b9.sq
   simp only[aJ,lI]
   have l1:xs.length=e.toArray.size:=by rw[aaA,<- i.length];exact h.length
   have r:p.length=c.toArray.size:=by rw[aaA,<- n.length];exact k.length
   rw[l1,r]
   by_cases hs:e.toArray.size=c.toArray.size
   . have f:(e.toArray.size == c.toArray.size)=true:=by simpa using hs
     rw[f,agL,<- hs,Nat.min_self]
     refine .lists l.isList o.isList hs (by omega) λj h1 z=>?_
     have:=oy I xs p (A:=A.in1) f1 f2 h k i n (by rw[in1_units];omega) j (by simpa using h1) (by simpa using z)
     simpa using this
   . have f:(e.toArray.size == c.toArray.size)=false:=by simpa using hs
     rw[f,aiO,ae5]
     exact .lists_lengths l.isList o.isList (by simpa using hs) (by omega)
 . cases hk
end
noncomputable def sC (d1 d2:D)(g:G):Option (D×G):=if(flat d1&&flat d2&&decide (dep d1<=60)&&ub d1 d2)=true then some (.bl (!aJ d1 d2),g)else none
theorem M9 (hu:X.A.units+64<cLine):aY X (aa8 .NotEq) (cC X.kw sC):=by
 intro pins s σ H x y v u Q I c b q
 obtain⟨ι,g,h,f,d,i,G0,e,a,q,p⟩:=q
 unfold sC at q
 split at q
 . rename_i z
   simp only[aav,decide_eq_true_eq]at z
   cases q
   exact Cc I h f z.2 z.1.1.1 z.1.1.2 e a c b (by omega) _ _ _ _ ⟨.bl _,H,I,rfl,p H ι _ Ext.refl G0 (by simp[Rel])⟩
 . cases q
end
@[simp] theorem Xo {d1 d2:D}{g:G}:sC d1 d2 g=if(flat d1&&flat d2&&decide (dep d1<=60)&&ub d1 d2)=true then some (.bl (!aJ d1 d2),g)else none:=rfl
noncomputable def dB:List D->Option (List Int)
 | []=>some []
 |.int i::ds=>(dB ds).map (i :: ·)
 |_=>none
theorem Am {d:D}{ds:List D}{ns:List Int}(h:dB (d::ds)=some ns):∃i ms,d = .int i/\ns=i::ms/\dB ds=some ms:=by
 cases d with
 |int i =>
  simp only[dB,aaK]at h
  obtain⟨ms,a,rfl⟩:=h
  exact⟨i,ms,rfl,rfl,a⟩
 |_=>simp[dB]at h
theorem iL {K H ι}:∀{xs:List D} {vs:List V} {us:List Value} {ns:List Int},dB xs=some ns->ag K H ι xs vs->Vals vs us->acK us ns
 | [],vs,us,ns,h,r,rv=>by simp only[ag]at r;subst r;cases rv;cases h;exact .nil
 |d::ds,vs,us,ns,h,r,rv=>by
  obtain⟨i,ms,rfl,rfl,a⟩:=Am h
  simp only[ag,Rel]at r
  obtain⟨v,c,rfl,rfl,b⟩:=r
  cases rv with
  |cons r0 rr =>
   obtain⟨t,rfl⟩:=r0
   exact .cons i t (iL a b rr)
theorem jh:∀{us:List Value} {ns:List Int},acK us ns->∃xs:List (Int×Tok),us=xs.map (λp=>aeD p.1 p.2)/\ns=xs.map (·.1)
 |_,_,.nil=>⟨[],rfl,rfl⟩
 |_,_,.cons n t h=>by
  obtain⟨xs,rfl,rfl⟩:=jh h
  exact⟨(n,t)::xs,rfl,rfl⟩
section
variable {X:Cx}
noncomputable def An (ds:List D)(g:G):Option (D×G):=match ds with| [d]=>(fw d g).bind λxs=>(dB xs).map λns=>(.int ns.sum,g)|_=>none
theorem M_ (hh:X.A.handled=none):cu X (.builtin "sum") (gX X.kw An):=by
 intro pins s σ H xs us Q I r q
 obtain⟨ι,g,ds,d,g',G0,c,q,p⟩:=q
 cases ds with
 |nil=>cases q
 |cons e kO =>
 cases kO with
 |cons _ _=>cases q
 |nil =>
  simp only[An]at q
  obtain⟨ys,i,q⟩:=bind_some q
  obtain⟨ns,x,q⟩:=aaK.mp q
  cases q
  simp only[ag]at c
  obtain⟨v,_,rfl,l,rfl⟩:=c
  obtain⟨a,vs,rfl,h,j⟩:=jJ G0 l i
  cases r with
  |cons ru rr =>
   cases rr
   cases ru
   obtain⟨y,k,o,_⟩:=I.list h
   obtain⟨b,rfl,rfl⟩:=jh (iL x j k)
   have n:(b.map (λp=>aeD p.1 p.2)).toArray=ae8 b.toArray:=by simp[ae8]
   have f:=o.isList
   rw[n]at f
   refine sum_intListG hh f λh' tk z u=>?_
   rw[preSum_eq,abS (by simp)]
   exact⟨.int _,H,I.kept u,⟨_,rfl⟩,p H ι _ Ext.refl G0 (by simp[Rel])⟩
theorem gJ:∀{us:List Value} {ns:List Int},acK us ns->Vals (ns.map V.int) us
 |_,_,.nil=>.nil
 |_,_,.cons n t h=>.cons ⟨t,rfl⟩ (gJ h)
theorem lM {K:KW}{H:Hp}{ι:Ix}:∀ns:List Int,ag K H ι (ns.map D.int) (ns.map V.int)
 | []=>by simp[ag]
 |n::ns=>by
  simp only[aaX,ag]
  exact⟨_,_,rfl,by simp[Rel],lM ns⟩
end
section
variable {σ:Sg}{g:G}{fr:FA}
@[simp] theorem Xp {d:D}:An [d] g=(fw d g).bind λxs=>(dB xs).map λns=>(.int ns.sum,g):=rfl
end
theorem x5 {prog:aaY}{w:World}{A:aaV}{E:Value->aat->Prop}{s:aat}{l:Addr}{xs:Array (Int×Tok)}{Q:Value->aat->Prop}(hh:A.handled=none)(hl:s.heap.IsTuple l (ae8 xs))
   (h:∀h' tk t',(∀b o,s.heap.get? b=some o->h'.get? b=some o)->Q (.int (preSum (numAt xs) xs.size) t') { s with heap:=h',toks:=tk }):
   wpAny (model prog w) A (call (.builtin "sum") [.ref l]) Q E s:=by
 have c:l<s.heap.objs.size:=by obtain⟨_,e,_⟩:=hl;exact aaH e
 have i:l≠s.heap.objs.size:=aaN c
 refine call_sum_walkG (adF hl ?_)
 refine⟨_,[s.heap.objs.size,l],[s.heap.objs.size],_,_,_,numAt xs,rfl,Walks.tuple (A:=A.in1) hh _ l i (ae8 xs),⟨⟨_,aaG _ rfl,rfl,rfl⟩,hl.push _⟩,λb a=>?_,(λ_ _=>intItems_at),λh' tk t' f=>?_⟩
 . show b<(s.heap.push _).objs.size
   rw[aci]
   rcases aaD.mp a with rfl|a
   . exact adu _
   . rcases aaD.mp a with rfl|a
     . exact abe c
     . cases a
 . have:=h h' tk t' λb o e=>by
     refine f b o (λhm=>?_) (aaw _ e)
     rcases aaD.mp hm with e1|hm
     . exact absurd (e1 ▸ aaH e) (acf _)
     . cases hm
   simpa[ae8]using this
section
variable {X:Cx}
noncomputable def oC (ds:List D)(g:G):Option (D×G):=match ds with
 | [.tup xs]=>(dB xs).map λns=>(.int ns.sum,g)
 |ds=>An ds g
theorem Jz (hh:X.A.handled=none):cu X (.builtin "sum") (gX X.kw oC):=by
 intro pins s σ H xs us Q I r q
 obtain⟨ι,g,ds,d,n,G0,b,q,p⟩:=q
 unfold oC at q
 split at q
 . rename_i y
   obtain⟨ns,l,q⟩:=aaK.mp q
   cases q
   simp only[ag,Rel]at b
   obtain⟨v,_,rfl,⟨a,z,rfl,f,h⟩,rfl⟩:=b
   cases r with
   |cons ru rr =>
    cases rr
    cases ru
    obtain⟨o,i,c,_⟩:=I.tuple f.sq
    obtain⟨e,rfl,rfl⟩:=jh (iL l h i)
    have j:(e.map (λp=>aeD p.1 p.2)).toArray=ae8 e.toArray:=by simp[ae8]
    rw[j]at c
    refine x5 hh c λh' x u k=>?_
    rw[preSum_eq,abS (by simp)]
    exact⟨.int _,H,I.kept k,⟨_,rfl⟩,p H ι _ Ext.refl G0 (by simp[Rel])⟩
 . exact M_ hh pins s σ H xs us Q I r ⟨ι,g,_,d,n,G0,b,q,p⟩
end
@[simp] theorem Q1 {xs:List D}{g:G}:oC [.tup xs] g=(dB xs).map λns=>(.int ns.sum,g):=rfl
@[simp] theorem Q2 {xs:List D}{g:G}:oC [.lst xs] g=(dB xs).map λns=>(.int ns.sum,g):=rfl
end L3
namespace L3
open PySem PySem.Spec PyProof.Rows L2 HT
section
variable {prog:aaY}{w:World}{A:aaV}{E:Value->aat->Prop}{s:aat}
theorem mJ {t sl:Addr}{items:Array Value}{vl vu:Value}{lo hi:Option Int}{Q:Value->aat->Prop}(ht:IsTup s.heap t items)(hs:s.heap.IsSliceOf sl vl vu .none)(pl:ado vl lo)(pu:ado vu hi)
  (hw:bA items.size 0 lo=0/\bA items.size items.size hi=items.size)
  (h:Q (.ref t) s):wpAny (model prog w) A (ael (.ref t) (.ref sl)) Q E s:=by
 obtain⟨os,e,a,f⟩:=id hs
 have c:s.TypeIs (.ref sl) "slice":=⟨os,e,a⟩
 unfold ael
 try with_reducible refine aa1 ?_
 first|refine aas (aau ?_)|skip
 refine aas (adK ht.typeIs (by decide) ?_)
 refine aas (abf (name:=aa4 "__getitem__") ht.typeIs aa9
  (aa7 aa9 ht.typeIs aeW ?_ (afg _ _)))
 show wpAny _ _ (ac6 (.ref t) >>= _) _ _ s
 refine aas (agF ht ?_)
 refine aas (adq c ?_)
 rw[if_pos (by decide)]
 refine aas (jD hs pl pu ?_)
 have b:((((bA items.size 0 lo:Nat):Int)== 0&&(1:Int)== 1&&(bA items.size items.size hi-bA items.size 0 lo)== items.size)=true):=by
  rw[hw.1,hw.2];simp
 show wpAny _ _ (if(((bA items.size 0 lo:Nat):Int)== 0&&(1:Int)== 1&&(bA items.size items.size hi-bA items.size 0 lo)== items.size)=true then _ else _) _ _ s
 rw[if_pos b]
 unfold Builtin.Tuple.tupleIsExact
 refine aas (aas (adq ht.typeIs (aau ?_)))
 rw[if_pos (by decide)]
 refine aas (ab8 (aau ⟨_,rfl,aau h⟩))
end
section
variable {X:Cx}
noncomputable def UZ (K:KW):V->Option Int->Option Int->Hp->VK->Prop:=λx lo b H Q=>∃a xs,x = .ref a/\dS K H a xs/\(HT.bA xs.length 0 lo=0/\HT.bA xs.length xs.length b=xs.length)/\Q (.ref a) H
theorem EB:ph X (UZ X.kw):=by
 intro pins s σ H x v p l lo n o Q I i j c pu h
 obtain⟨a,xs,rfl,e,hw,q⟩:=h
 cases i
 obtain⟨f,r,b,k⟩:=I.tuple e
 have hlen:f.toArray.size=xs.length:=by rw[aaA];exact r.length.symm
 refine⟨"tuple",_,aa9.lookup,b.typeIs,?_⟩
 exact mJ b j c pu (by rw[hlen];exact hw) ⟨.ref a,H,I,rfl,q⟩
noncomputable def eK (d:D)(lo hi:Option Int)(g:G):Option (D×G):=match d with
 |.tup xs=>some (.tup (cutD xs lo hi),g)
 |d=>nq d lo hi g
theorem Cd {xs:List D}{lo hi:Option Int}(h:gp xs.length lo hi=true):cutD xs lo hi=xs:=by
 unfold gp at h
 rw[aav,decide_eq_true_eq,decide_eq_true_eq]at h
 unfold cutD
 rw[h.1,h.2]
 simp
noncomputable def fZ (fa:FE)(fl fh:FO):FE:=λσ g=>(fa σ g).bind λr=>(fl σ r.2).bind λl=>(fh σ l.2).bind λh=>eK r.1 l.1 h.1 h.2
theorem Ce {a:Expr}{lo hi:Option Expr}{fa:FE}{fl fh:FO}{p2 pos:Pos}(ha:DE X a fa)(hl:DO X lo fl)(hh:DO X hi fh):DE X (.Subscript a (.Slice lo hi none p2) pos) (fZ fa fl fh):=.of (
 PE.imp (D2 (ph.or Js EB) ha.un hl.un hh.un) λσ H Q h=>by
  obtain⟨ι,y,g,d,g',G0,S0,h,p⟩:=h
  obtain⟨⟨d1,g1⟩,h1,h⟩:=bind_some h
  obtain⟨⟨l,g2⟩,h2,h⟩:=bind_some h
  obtain⟨⟨u,g3⟩,h3,h⟩:=bind_some h
  refine tD.bind G0 S0 h1 λH1 ι1 v e1 G1 S1 r1=>?_
  refine⟨ι1,y,g1,l,g2,G1,S1,h2,λH2 ι2 r G2=>?_⟩
  refine⟨ι2,y,g2,u,g3,G2,S1.ext r,h3,λo ι3 e3 i=>?_⟩
  have j:=Rel.ext (r.trans e3) _ r1
  have x:=p.mono (e1.trans (r.trans e3))
  have lst:∀{xs:List D} {a:Addr} {f:List V},v = .ref a->da X.kw o a f->ag X.kw o ι3 xs f->some (D.lst (cutD xs l u),g3)=some (d,g')->MZ X.kw v l u o Q:=fun {xs a f} ev k e hh=>by
   cases hh
   refine .inr ⟨a,f,ev,k,λq b=>x _ _ _ (Ext.lay b) (i.lay b) ?_⟩
   simp only[Rel]
   exact⟨q,_,rfl,.inl ⟨.inl bw,i.fresh b,i.iJ b⟩,ag.ext (Ext.lay b) _ (e.MY l u)⟩
  dsimp only at h
  cases d1 with
  |tup xs =>
   simp only[eK]at h
   cases h
   have r4:=j
   simp only[Rel]at j
   obtain⟨a,f,rfl,k,e⟩:=j
   by_cases z:gp xs.length l u=true
   . refine .inr ⟨a,f,rfl,k.sq,?_,x _ _ _ Ext.refl i ?_⟩
     . unfold gp at z
       rw[e.length,aav,decide_eq_true_eq,decide_eq_true_eq]at z;exact z
     . rw[Cd z];exact r4
   . refine .inl (.inl ⟨a,f,rfl,k.sq,λc=>z ?_,λq b=>x _ _ _ (Ext.lay b) (i.lay b) ?_⟩)
     . unfold gp
       rw[e.length,aav,decide_eq_true_eq,decide_eq_true_eq];exact c
     . simp only[Rel]
       exact⟨q,_,rfl,.inl ⟨.inl bw,i.fresh b⟩,ag.ext (Ext.lay b) _ (e.MY l u)⟩
  |lst xs =>
   simp only[eK,nq]at h
   simp only[Rel]at j
   obtain⟨a,f,s,k,e⟩:=j
   exact .inl (lst s k.sq e h)
  |ref n =>
   simp only[eK,nq]at h
   split at h
   . rename_i xs hx
     simp only[Rel]at j
     obtain⟨a,s,ha⟩:=j
     obtain⟨f,hv,e⟩:=i.at hx ha
     exact .inl (lst s (.of hv) e h)
   . cases h
  |_=>cases h)
end
@[simp] theorem oD {fa:FE}{fl fh:FO}{σ:Sg}{g:G}:fZ fa fl fh σ g=(fa σ g).bind λr=>(fl σ r.2).bind λl=>(fh σ l.2).bind λh=>eK r.1 l.1 h.1 h.2:=rfl
theorem iM {d:D}{lo hi:Option Int}{g g':G}{xs:List D}(h:nq (.tup xs) lo hi g=some (d,g')):eK (.tup xs) lo hi g=some (d,g'):=by
 simp only[nq]at h
 split at h
 . cases h
 . exact h
end L3
namespace L3
open PySem PySem.Spec PyProof.Rows L2
mutual
noncomputable def nd:D->Nat
 |.tup xs=>Sb xs+1
 |_=>1
noncomputable def Sb:List D->Nat
 | []=>0
 |d::ds=>nd d+Sb ds
end
section
variable {X:Cx}
noncomputable def kf (ds:List D)(g:G):Option (D×G):=match ds with| [d]=>(fw d g).bind λxs=>(bools xs).map λbs=>(.bl (bs.any id),g)|_=>none
theorem JA (hc:X.calm=true):cu X (.builtin "any") (gX X.kw kf):=by
 intro pins s σ H xs us Q I r q
 obtain⟨ι,g,ds,d,g',G0,j,q,p⟩:=q
 cases ds with
 |nil=>cases q
 |cons e kO =>
 cases kO with
 |cons _ _=>cases q
 |nil =>
  simp only[kf]at q
  obtain⟨ys,n,q⟩:=bind_some q
  cases hb:bools ys with
  |none=>rw[hb]at q;cases q
  |some bs =>
   rw[hb]at q;cases q
   simp only[ag]at j
   obtain⟨v,_,rfl,y,rfl⟩:=j
   obtain⟨a,vs,rfl,k,o⟩:=jJ G0 y n
   obtain⟨u,rfl,ru⟩:=vals1 r
   cases ru
   obtain⟨au,x,l,hz⟩:=I.list k
   have e0:=nj hb o x
   subst e0
   have f:=l.isList
   have bR:a<s.heap.objs.size:=by obtain⟨_,e,_⟩:=f;exact aaH e
   refine call_any_walk (aeq f ?_)
   refine⟨s.heap.objs.size,[s.heap.objs.size,a],[s.heap.objs.size],_,_,_,λi=>(bs[i]?).getD false,rfl,Walks.list (A:=X.A.in1) (I.ok.hd hc) _ a (aaN bR) _,
     ⟨⟨_,aaG _ rfl,rfl,rfl⟩,f.push _⟩,λi v s' Q' E' hP h=>?_,λh' tk z=>?_⟩
   . have c:(bs.map acS)[i]? = some v:=by simpa using hP
     rw[abE]at c
     cases e:bs[i]? with
     |none=>rw[e]at c;cases c
     |some b =>
      rw[e]at c;cases c
      dsimp only at h
      rw[e]at h
      exact abq h
   . have e:((aaz (bs.map acS).toArray.size).any λi=>(bs[i]?).getD false)=bs.any id:=by
      rw[aaA,aaM];exact Ae bs
     rw[e]
     exact⟨.bl _,H,I.kept (qQ z),rfl,p H ι _ Ext.refl G0 (by simp[Rel])⟩
end
section
variable {X:Cx}
noncomputable def Q3 (K:KW):V->List V->Hp->VK->Prop:=λx b H Q=>∃a xs y j,x = .ref a/\da K H a (xs.map toV)/\b = [toV y]/\gi y=true/\xs.all gi=true/\pZ xs y=some j/\Q (.int j) H
theorem Cf:RJ X "list.index" (Q3 X.kw):=by
 intro pins s σ H x vs v us Q I rx rv h
 obtain⟨a,xs,y,j,rfl,hq,rfl,f,k,o,q⟩:=h
 cases rx
 obtain⟨u,rfl,ru⟩:=rv.one
 obtain⟨b,e,pl,hz⟩:=I.list hq
 obtain⟨⟨cls,dd,data,sl⟩,n,r,h2,h3,h4⟩:=id pl
 simp only at h2 h3 h4
 subst h2 h3 h4
 have fy:ja (toV y)=true:=(oB f (sm (K:=X.kw) (H:=H) (ι:=⟨[],[],λ_=>0⟩) f)).2
 have fx:(xs.map toV).all ja=true:=(pY k (wc (K:=X.kw) (H:=H) (ι:=⟨[],[],λ_=>0⟩) k)).2
 unfold pZ at o
 rw[aex]at o
 obtain⟨bR,hit,Lu⟩:=o
 have hlen:(xs.map toV).length=b.length:=e.length
 rw[aaM]at hlen
 have c:j<b.toArray.size:=by rw[aaA];omega
 have item:∀m (hm:m<xs.length) (j6:m<b.toArray.size),FZ (toV y) b.toArray[m]=aJ xs[m] y:=λm hm j6=>by
  obtain⟨u',e',r'⟩:=e.get (i:=m) (x:=toV xs[m]) (by rw[abE,aay hm];rfl)
  have l:m<b.length:=by simpa using j6
  rw[aay l]at e'
  cases e'
  have p:gi xs[m]=true:=aaQ.mp k _ (ace hm)
  rw[List.getElem_toArray,Bv r' (oB p (sm (K:=X.kw) (H:=H) (ι:=⟨[],[],λ_=>0⟩) p)).2,QV p f]
 have MT:b.length<=aaP:=by
  have:=e.length
  first|omega| (simp only[aaM]at *;omega)
 have Na:aaP<2 ^ 62:=by decide
 refine adb F.slot_list_index ⟨_,r,rfl⟩ F.entry_list_index (F.args_list_index_2 _ _) (SeqAt.list_indexAt a b.toArray n none sl u (FZ (toV y)) j c (by rw[aaA]at c;omega) (by rw[item j bR c];exact hit) (λm hm Yw=>by
  have l:m<xs.length:=by omega
  rw[item m l hm]
  simpa using Lu m Yw)) ⟨r,λz hz=>vA ru fy e fx z (by simpa using hz),?_⟩
 exact⟨.int j,H,I.tok _,⟨_,rfl⟩,q⟩
end
section
variable {X:Cx}
theorem Nb:aY X (abp .LShift) (cC X.kw (bK dX (λi j=>i*2 ^ j.toNat))):=gZ Lj λi j h=>by
 unfold dX at h
 simp only[aav]at h
 have a:=abw h.2
 cases j with
 |ofNat n =>
  have b:=abw (show adD n 1000000=true from h.1)
  exact⟨ahe n,(by show((n:Nat):Int)<=1000000;omega),(by omega)⟩
 |negSucc n=>exact absurd h.1 (by simp)
theorem Nc:aY X (abp .BitAnd) (cC X.kw (bK cf ach)):=gZ (aY.imp Lk λ_ _ _ _=>oq) λ_ _ _=>trivial
theorem Q4:aY X (abp .BitOr) (cC X.kw (bK cf ad5)):=gZ (aY.imp Qq λ_ _ _ _=>oq) λ_ _ _=>trivial
end
end L3
namespace TL
open PySem PySem.Spec PySem.SeqAt PyProof.Rows
open AutoSeq1 (wpAny_loadPart')
open MeetsSeq MeetsSeq2 MeetsSeq3 SeqRoads2
noncomputable def lN (A:aaV)(s:aat)(y x:Value)(b:Bool):Prop :=
 ∀(prog:aaY) (w:World) (E:Value->aat->Prop) (Q:Value->aat->Prop),Q (.bool b) s->wpAny (model prog w) A (richCompare .Lt y x) Q E s
inductive Lex (A:aaV)(s:aat)(fin:Bool):List (Value×Value)->Bool->Prop
 |nil:Lex A s fin [] fin
 |eq {p q r k}:EqAt A s p q true->Lex A s fin r k->Lex A s fin ((p,q)::r) k
 |ne {p q r k}:EqAt A s p q false->lN A s p q k->Lex A s fin ((p,q)::r) k
theorem Ao (l b:Addr)(items fM:Array Value)(n n2:Nat)(dd mT:Option Addr)(sl my:Array (Option Value))(k:Bool):
  Meets (ab1.«tuple.__lt__» ⟨[.ref l,.ref b],[]⟩)
   (λA R s=>s.heap.get? l=some { cls:=.type "tuple",dict:=dd,data:=.seq items n,slots:=sl }/\s.heap.get? b=some { cls:=.type "tuple",dict:=mT,data:=.seq fM n2,slots:=my } /\
    Lex A.in1 s (decide (items.size<fM.size)) (items.toList.zip fM.toList) k/\R (.ok (.ret (.bool k))) s):=
 .of_wp λprog w A R s h=>by
  obtain⟨i,g,d,f,os⟩:=s;obtain⟨o,j,he,h⟩:=h
  have f2:=acG
  wp_walk using wpAny_loadPart' o,wpAny_loadPart' j,ad1 _ (λrest b e=>b.1=none/\e=⟨i,g,d,f,os⟩/\Lex A.in1 ⟨i,g,d,f,os⟩ (decide (items.size<fM.size)) rest k) _
  case turn =>
   rintro⟨y,x⟩ rest b e ⟨c,rfl,a⟩
   cases a with
   |eq e1 e2 =>
    refine aas (e1 prog w _ _ ?_)
    wp_walk
    exact⟨rfl,rfl,e2⟩
   |ne e1 e2 =>
    refine aas (e1 prog w _ _ ?_)
    simp only[ae5,if_true]
    refine aas (ab8 ?_)
    refine aas (e2 prog w _ _ ?_)
    wp_walk
    exact⟨_,rfl,h⟩
  case fin =>
   rintro⟨p,q⟩ e ⟨c,rfl,a⟩
   simp only at c
   subst c
   cases a
   wp_walk
   exact⟨_,rfl,by simpa[Builtin.Tuple.tupleCompareSizes]using h⟩
  case h =>
   exact⟨rfl,rfl,he⟩
section
variable {A:aaV}{s:aat}
theorem lN.tuples {l b:Addr}{items fM:Array Value}{k:Bool}(hl:s.heap.IsTuple l items)(hb:s.heap.IsTuple b fM)(hu:A.units<cLine)
  (he:Lex A.in1 s (decide (items.size<fM.size)) (items.toList.zip fM.toList) k):lN A s (.ref l) (.ref b) k:=λprog w E Q h=>by
 obtain⟨⟨cls,q,data,p⟩,e,a,n,hd⟩:=id hl
 obtain⟨⟨r,i,data2,j⟩,f,c,o,hd2⟩:=id hb
 simp only at a hd c hd2
 subst a hd c hd2
 exact richCompare_meets_room (op:=.Lt) ⟨_,e,rfl⟩ ⟨_,f,rfl⟩ F.slot_tuple_lt F.entry_tuple_lt (F.args_tuple_lt_2 _ _) (Ao l b items fM n o q i p j k)
  ⟨e,f,he,show acS k≠agy/\Q (.bool k) s from⟨(λx=>nomatch x),h⟩⟩ hu
theorem lN.ints (a b:Int)(t u:Tok):lN A s (.int a t) (.int b u) (decide (a<b)):=λprog w E Q h =>
 aga (op:=.Lt) (afA s a t) (afA s b u) slot_int_lt (call_int_lt ⟨(λx=>nomatch x),h⟩)
theorem lN.strs (a b:Str)(t u:Tok):lN A s (.str a t) (.str b u) (decide (a.cps.toList<b.cps.toList)):=λprog w E Q h =>
 aga (op:=.Lt) (agt s a t) (agt s b u) slot_str_lt (call_str_lt ⟨(λx=>nomatch x),h⟩)
end
open PySem.W
section
variable {prog:aaY}{w:World}{A:aaV}{E:Value->aat->Prop}{s:aat}
noncomputable def df (h:Heap)(a:Addr)(vs:List Value):Heap:=((h.update a (ab4 λ_=>#[])).push (ab0 "tuple" vs.toArray 0)).push (ab0 "list" #[] 0)
theorem x6 {h:Heap}{a b:Addr}{vs:List Value}{o:Obj}(hb:b≠a)(ho:h.get? b=some o):(df h a vs).get? b=some o:=by
 unfold df
 have c:=aaH ho
 rw[acL _ _ _ (by rw[size_push',adv];exact aaN (abe c)),acL _ _ _ (by rw[adv];exact aaN c),agV _ _ _ _ hb]
 exact ho
end
end TL
namespace L3
open PySem PySem.Spec PyProof.Rows L2
noncomputable def d6 (nn L:Nat)(t:FG)(c:FT)(e:FE):Nat->Sg->G->Option (List D×G)
 | 0,_,g=>(g[nn]?).bind λxs=>if xs.length=L then some ([],g)else none
 |r+1,σ,g=>(g[nn]?).bind λxs=>if xs.length=L then(xs[L-(r+1)]?).bind λd=>(t d σ g).bind λq=>(c q.1 q.2).bind λk=>if k.1=true then(e q.1 k.2).bind λa=>(d6 nn L t c e r q.1 a.2).bind λz=>some (a.1::z.1,z.2)else d6 nn L t c e r q.1 k.2 else none
abbrev ia:=Sg->G->Option (Nat×Nat×G)
noncomputable def Ap (K:KW)(J:It)(H:Hp)(ι:Ix)(nn L:Nat):Prop :=
 ∀(i:Nat) H1 ι1 g1,i7 H ι H1 ι1->ax K H1 ι1 g1->∀xs,g1[nn]? = some xs->xs.length=L->(L<=i->J.stop i H1) /\ ∀d,xs[i]? = some d->J.go i H1 /\ ∀x H2,J.yg i H1 x H2->Ext H1 ι1 H2 ι1/\ax K H2 ι1 g1/\Rel K H2 ι1 d x
inductive Nd (K:KW)(f:ia)(σ:L2.St)(H:Hp)(R:(It->Hp->Prop)):Prop
 |mk (ι:Ix) (σd:Sg) (g:G) (nn:Nat) (L:Nat) (g':G) (h0:ax K H ι g) (h1:bN K H ι σd σ) (h2:f σd g=some (nn,L,g')) (h3:∀H' ι' J,Ext H ι H' ι'->ax K H' ι' g'->Ap K J H' ι' nn L->R J H'):Nd K f σ H R
structure Gs (X:Cx)(tg iter:Expr)(f:ia):Prop where of ::
 un:PI X tg iter (Nd X.kw f)
noncomputable def nB (f:FE):ia:=λσ g=>(f σ g).bind λr=>match r.1 with|.ref n=>(r.2[n]?).bind λxs=>some (n,xs.length,r.2)|_=>none
theorem Ap.ref {K H ι a n L}(h:dk ι n a false):Ap K (FX K a) H ι n L:=λi H1 q g1 l f xs j r=>by
 obtain⟨vs,o,e⟩:=f.at j (l.at h)
 have b:da K H1 a vs:=.inl (.inl o)
 refine⟨λh=>⟨vs,b,by rw[<- e.length];omega⟩,λd hd=>?_⟩
 obtain⟨v,c,k⟩:=e.get hd
 refine⟨⟨vs,v,b,c⟩,λx p y=>?_⟩
 obtain⟨rfl,y⟩:=y
 have:=y vs b
 rw[c]at this;cases this
 exact⟨Ext.refl,f,k⟩
theorem yT {X:Cx}{tg l:Expr}{fe:FE}(hl:DE X l fe):Gs X tg l (nB fe):=.of (PI.imp (yh hl.un) λσ H Q h=>by
 obtain⟨ι,x,g,nn,L,z,G0,r,h,p⟩:=h
 obtain⟨⟨s,g1⟩,i,h⟩:=bind_some h
 cases s with
 |ref n =>
  obtain⟨xs,f,h⟩:=bind_some h
  cases h
  refine tD.bind G0 r i λH1 o v j c y e=>?_
  simp only[Rel]at e
  obtain⟨a,rfl,b⟩:=e
  obtain⟨q,k,u⟩:=c.at f b
  exact⟨a,rfl,⟨q,.inl (.inl k)⟩,p H1 o _ j c (.ref b)⟩
 |_=>cases h)
noncomputable def fN (mk:List D->G->Option (D×G))(fi:ia)(fr:List (Option Nat))(t:FG)(c:FT)(e:FE):FE:=λσ g=>(fi σ g).bind λr=>if az r.2.1=true then(d6 r.1 r.2.1 t c e r.2.1 (bq fr σ) r.2.2).bind λq=>mk q.1 q.2 else none
noncomputable def Nf (fi:ia):pF:=λσ g=>(fi σ g).map λr=>(λg=>g[r.1]?,r.2.1,r.2.2)
theorem yU {X:Cx}{tg iter:Expr}{fi:ia}(h:Gs X tg iter fi):vU X tg iter (Nf fi):=.of (PI.imp h.un λσ H Q q=>by
 obtain⟨ι,j,g,s,L,r,G0,l,a,p⟩:=q
 obtain⟨⟨nn,o,g1⟩,f,e⟩:=aaK.mp a
 cases e
 exact⟨ι,j,g,nn,o,g1,G0,l,f,λi n J k c b=>p i n J k c b⟩)
theorem we {nn L:Nat}{t:FG}{c:FT}{e:FE}:∀(k:Nat) (σ:Sg) (g:G),d6 nn L t c e k σ g=cY (λg=>g[nn]?) L t c e k σ g
 | 0,σ,g=>by simp only[d6,cY]
 |k+1,σ,g=>by simp only[d6,cY,we k]
theorem wg {mk:List D->G->Option (D×G)}{fi:ia}{fr:List (Option Nat)}{t:FG}{c:FT}{e:FE}:fN mk fi fr t c e=kL mk (Nf fi) fr t c e:=by
 funext σ g
 unfold fN kL Nf
 cases fi σ g with
 |none=>rfl
 |some r=>simp only[aax,abo,we]
section
variable {X:Cx}{tg iter elt:Expr}{ifs:List Expr}{scope:Scope}{pos gF:Pos}{N:List Str}{fr:List (Option Nat)}{fi:ia}{t:FG}{c:FT}{e:FE}
theorem EC (ke:X.xe=λ_ _=>False)(hc:X.calm=true)(ok:gn X N fr scope)(hit:Gs X tg iter fi)(cM:∀C s3 H fp pins,DG (bS X N scope C s3 H fp pins) tg t/\iU (bS X N scope C s3 H fp pins) ifs c/\DE (bS X N scope C s3 H fp pins) elt e)
  (hs:∀x,abD iter X.env x=pure x:=by intro _;rfl):DE X (.ListComp elt [⟨tg,iter,ifs,0⟩] scope pos) (fN bU fi fr t c e):=by
 rw[wg];exact vW ke hc ok (yU hit) cM hs
theorem wk {i:Nat}{x:Str}{px nc:Pos}(ke:X.xe=λ_ _=>False)(hc:X.calm=true)(ok:gn X N fr scope)(hit:Gs X tg iter fi)(cM:∀C s3 H fp pins,DG (bS X N scope C s3 H fp pins) tg t/\iU (bS X N scope C s3 H fp pins) ifs c/\DE (bS X N scope C s3 H fp pins) elt e)
  (hN:X.N.Nodup) (hi:X.N[i]? = some x) (hx:Loc X.env.scope x) (qJ:adW (.ListComp elt [⟨tg,iter,ifs,0⟩] scope pos) (some (.Name x px)) nc.line X.env=pure true:=by rfl)
  (hs:∀x,abD iter X.env x=pure x:=by intro _;rfl) (hf:X.fn x=true\/X.env.scope.names.lookup x=some .local:=by first|exact .inl rfl|exact .inr rfl|assumption):
  DS X (.Assign [.Name x px] (.ListComp elt [⟨tg,iter,ifs,0⟩] scope pos) nc) (aM (fN bU fi fr t c e) (gN i)):=
 by rw[wg];exact m_ (λf _ a hD r h b p=>pU f a hD r h b p) ke hc ok (yU hit) cM hN hi hx qJ hs hf
end
section
variable {σ:Sg}{g:G}{fa:FE}
@[simp] theorem sD:nB fa σ g=(fa σ g).bind λr=>match r.1 with|.ref n=>(r.2[n]?).bind λxs=>some (n,xs.length,r.2)|_=>none:=rfl
@[simp] theorem nC {mk:List D->G->Option (D×G)}{fi:ia}{fr:List (Option Nat)}{t:FG}{c:FT}:fN mk fi fr t c fa σ g=(fi σ g).bind λr=>if az r.2.1=true then(d6 r.1 r.2.1 t c fa r.2.1 (bq fr σ) r.2.2).bind λq=>mk q.1 q.2 else none:=rfl
end
theorem nD {t:FG}{c:FT}{e:FE}{nn:Nat}{g:G}{xs:List D}(hx:g[nn]? = some xs):∀(k:Nat) (σ:Sg) (r:List D),k<=xs.length->(∀σ d q,t d σ g=some q->q.2=g)->(∀σ q,c σ g=some q->q.2=g)->(∀σ q,e σ g=some q->q.2=g)->bV t c e (xs.drop (xs.length-k)) σ g=some (r,g)->d6 nn xs.length t c e k σ g=some (r,g)
 | 0,σ,r,_,_,_,_,h=>by
  simp only[Nat.sub_zero,List.drop_length,bV]at h
  cases h
  simp[d6,hx]
 |k+1,σ,r,hk,ht,hc,he,h=>by
  have i:xs.length-(k+1)<xs.length:=by omega
  rw[acD i,show xs.length-(k+1)+1=xs.length-k by omega]at h
  simp only[bV]at h
  obtain⟨q,j,h⟩:=bind_some h
  obtain⟨b,f,h⟩:=bind_some h
  obtain⟨l,u⟩:=q
  obtain⟨p,s⟩:=b
  have:=ht _ _ _ j
  dsimp only at this;subst this
  have:=hc _ _ f
  dsimp only at this;subst this
  simp only[d6,hx,aax,aay i,j,f,if_true]
  cases p with
  |false =>
   simp only[aaF,if_false]at h ⊢
   exact nD hx k l r (by omega) ht hc he h
  |true =>
   simp only[if_true]at h ⊢
   obtain⟨⟨x,g3⟩,a,h⟩:=bind_some h
   have:=he _ _ a
   dsimp only at this;subst this
   obtain⟨⟨o,v⟩,n,h⟩:=bind_some h
   cases h
   rw[a]
   simp only[aax]
   rw[nD hx k l o (by omega) ht hc he n]
   rfl
noncomputable def cj:FE:=λ_ _=>none
theorem bY {X:Cx}{e:Expr}:DE X e cj:=.of (λpins s σ H Q I h=>by
 obtain⟨ι,a,g,d,c,G0,b,h,p⟩:=h
 cases h)
@[simp] theorem U0 {σ:Sg}{g:G}:cj σ g=none:=rfl
end L3
namespace L3
open PySem PySem.Spec PyProof.Rows L2
open Sem (wp)
open Builtin
end L3
namespace L3
open PySem PySem.Spec PyProof.Rows L2
end L3
namespace DK
open PySem PySem.Spec PyProof.Rows L2 L3 SeqAt
def fS (s:aat)(m:Nat)(u:Value):Prop:=∀(prog:aaY) (w:World) (A:aaV) (E:Value->aat->Prop) (Q:Bool->aat->Prop),Q true s->wpAny (model prog w) A (af3 m u) Q E s
structure Gu (A:aaV)(s:aat)(key:Value)(h:Int)(es:Array aa_)(t:Nat->Bool):Prop where
 eq:∀i e,es[i]? = some e->e.hash=h->EqAt A s e.key key (t i)
 hs:∀i e,es[i]? = some e->t i=true->e.hash=h
 qk:fS s 8 key
 qe:∀e∈es,fS s 8 e.key
 rf:∀e∈es,e.key=key->e.hash=h
 un:∀i j,i<es.size->j<es.size->t i=true->t j=true->i=j
 st:∀x tk,key = .str x tk->∀i e,es[i]? = some e->isExactStrKey e.key=true->e.key.isStr x=t i
section
variable {prog:aaY}{w:World}{A:aaV}{E:Value->aat->Prop}{s:aat}{d:Addr}{o:Obj}{es:Array aa_}{ep:Nat}{key:Value}{h:Int}{t:Nat->Bool}{Q:Option Nat->aat->Prop}
theorem p4 {stored:List Value}{Q:Bool->aat->Prop}(hk:fS s 8 key)(ck:∀v∈stored,fS s 8 v)(q:Q false s):wpAny (model prog w) A (tableMayTell key stored) Q E s:=by
 unfold tableMayTell
 split
 . exact aau q
 refine aas (hk prog w _ _ _ ?_)
 simp only[ad6,aaF,if_false]
 refine aas (ad1 _ (λrest r z=>z=s/\r=(none,()) /\ ∀v∈rest,fS s 8 v) _ ?_ ?_ _ _ ⟨rfl,rfl,ck⟩)
 . rintro x rest r z ⟨rfl,rfl,a⟩
   refine aas (a x aaO prog w _ _ _ ?_)
   simp only[ad6,aaF,if_false]
   exact aau ⟨rfl,rfl,λv b=>a v (aaR _ b)⟩
 . rintro r z ⟨rfl,rfl,_⟩
   exact aau q
theorem lO {i:Nat}:i∈abI es.size (λi=>es[i]?.map (·.hash)) h ↔ ∃e,es[i]? = some e/\e.hash=h:=by
 unfold abI
 simp only[aa3,aaL,beq_iff_eq,aaK]
 constructor
 . rintro⟨_,e,a,b⟩;exact⟨e,a,b⟩
 . rintro⟨e,a,b⟩;exact⟨(abA.mp a).1,e,a,b⟩
theorem wm:(abI es.size (λi=>es[i]?.map (·.hash)) h).Nodup:=by
 unfold abI
 exact adY.sublist List.filter_sublist
theorem sE (ho:s.heap.get? d=some o)(hd:o.data = .dict es ep)(K:Gu A s key h es t)(hn:(∀i,i<es.size->t i=false)->Q none s)(hy:∀i,i<es.size->t i=true->Q (some i) s):
  wpAny (model prog w) A (dictFind d key h) Q E s:=by
 have none_of:(∀i∈abI es.size (λi=>es[i]?.map (·.hash)) h,t i=false)->Q none s:=λz=>hn λi c=>by
  cases ht:t i with
  |false=>rfl
  |true =>
    have k:=aa2 c
    rw[z i (lO.mpr ⟨_,k,K.hs i _ k ht⟩)]at ht;cases ht
 have gen:∀tells:Bool,tells=false->wpAny (model prog w) A (do
    let mut hit:Option Nat:=none
    for i in abI es.size (λi=>es[i]?.map (·.hash)) h do
      if let some e:=es[i]? then
        if e.hash == h then
          let before <- dictEpoch d (keyPart key)
          let same <- eqBool e.key key
          if(<- dictEpoch d (keyPart key)) != before then unsupported "dict.changed-during-lookup"
          if same then
            if hit.isSome then unsupported "dict.find:order-among-keys-of-one-hash"
            rule "dict.find.hit"
            if((abI es.size (λi=>es[i]?.map (·.hash)) h).filterMap λi=>es[i]?.map (·.key)).length<2 then return some i
            hit:=some i
          else
            rule "dict.find.same-hash-other-key"
            if tells && !(0<=h&&h<32)then unsupported "dict.find:asked-again-or-not-hangs-on-the-table"
    return hit) Q E s:=λtells yV=>by
  subst yV
  refine aas (ad1 _ (λrest (b:Option (Option Nat)×Option Nat) z=>z=s /\ ∃done,abI es.size (λi=>es[i]?.map (·.hash)) h=done++rest/\b.1=none /\
    ((b.2=none /\ ∀i∈done,t i=false) \/ ∃i,b.2=some i/\i∈done/\i<es.size/\t i=true)) _ ?_ ?_ _ _ ⟨rfl,[],rfl,rfl,.inl ⟨rfl,λi z=>by simp at z⟩⟩)
  . rintro x rest ⟨b1,hit⟩ z ⟨rfl,done,f,rfl,j⟩
    have r:x∈abI es.size (λi=>es[i]?.map (·.hash)) h:=by rw[f];simp
    obtain⟨e,he,p⟩:=lO.mp r
    have n:x<es.size:=(abA.mp he).1
    have y:abI es.size (λi=>es[i]?.map (·.hash)) h=(done ++ [x])++rest:=by rw[f];simp
    rw[he]
    dsimp only at j ⊢
    rw[if_pos (by simpa using p)]
    refine aas (aco ho hd (aas (K.eq x e he p prog w _ _ (aas (aco ho hd ?_)))))
    rw[if_neg (by simp)]
    cases ht:t x with
    |true =>
      have h0:hit=none:=by
        rcases j with⟨h0,_⟩|⟨i,_,c,j_,wd⟩
        . exact h0
        . have:=K.un i x j_ n wd ht
          subst this
          have nd:=wm (es:=es) (h:=h)
          rw[f,ack]at nd
          exact absurd rfl (nd.2.2 i c i aaO)
      subst h0
      simp only[if_true,Option.isSome_none,aaF,if_false]
      try refine aas (aau ?_)
      refine aas (ab8 ?_)
      split
      . exact aau (aau (hy x n ht))
      . exact aau ⟨rfl,done ++ [x],y,rfl,.inr ⟨x,rfl,by simp,n,ht⟩⟩
    |false =>
      simp only[aaF,if_false,adR]
      refine aas (ab8 ?_)
      refine aau ⟨rfl,done ++ [x],y,rfl,?_⟩
      rcases j with⟨h0,hz⟩|⟨i,l,c,j_,wd⟩
      . exact .inl ⟨h0,λi c=>by
          rcases aaE.mp c with c|c
          . exact hz i c
          . simp at c;subst c;exact ht⟩
      . exact .inr ⟨i,l,aaE.mpr (.inl c),j_,wd⟩
  . rintro⟨b1,hit⟩ z ⟨rfl,done,f,rfl,j⟩
    dsimp only at j ⊢
    refine aau ?_
    rcases j with⟨rfl,hz⟩|⟨i,rfl,_,j_,wd⟩
    . exact none_of (by rw[f];simpa using hz)
    . exact hy i j_ wd
 have plain:wpAny (model prog w) A (dictWalkPlain d key h es (abI es.size (λi=>es[i]?.map (·.hash)) h)) Q E s:=by
  unfold dictWalkPlain
  refine aas (ad1 _ (λrest b z=>z=s /\ ∃done,abI es.size (λi=>es[i]?.map (·.hash)) h=done++rest/\b=(none,()) /\ ∀i∈done,t i=false) _ ?_ ?_ _ _ ⟨rfl,[],rfl,rfl,λi z=>by simp at z⟩)
  . rintro x rest b z ⟨rfl,done,f,rfl,j⟩
    have r:x∈abI es.size (λi=>es[i]?.map (·.hash)) h:=by rw[f];simp
    obtain⟨e,he,p⟩:=lO.mp r
    have n:x<es.size:=(abA.mp he).1
    rw[he]
    dsimp only
    rw[if_pos (by simpa using p)]
    refine aas (aco ho hd (aas (K.eq x e he p prog w _ _ (aas (aco ho hd ?_)))))
    rw[if_neg (by simp)]
    cases ht:t x with
    |true =>
      simp only[if_true]
      refine aas (ab8 ?_)
      exact aau (aau (hy x n ht))
    |false =>
      simp only[aaF,if_false]
      refine aas (ab8 ?_)
      refine aau ⟨rfl,done ++ [x],by rw[f];simp,rfl,λi c=>?_⟩
      rcases aaE.mp c with c|c
      . exact j i c
      . simp at c;subst c;exact ht
  . rintro b z ⟨rfl,done,f,rfl,j⟩
    exact aau (none_of (by rw[f];simpa using j))
 have keys:∀v∈(abI es.size (λi=>es[i]?.map (·.hash)) h).filterMap (λi=>es[i]?.map (·.key)),fS s 8 v:=λv hv=>by
  obtain⟨i,_,c⟩:=acw.mp hv
  obtain⟨e,he,rfl⟩:=aaK.mp c
  exact K.qe e (adT he)
 unfold dictFind
 refine aa1 ?_
 refine aas (ac9 ho hd ?_)
 cases key with
 |str x tk =>
  refine aby (λdP=>?_) (λ_=>?_)
  . unfold foundByValue
    have u:∀i e,es[i]? = some e->e.key.isStr x=t i:=λi e he=>K.st x tk rfl i e he (Array.all_eq_true_iff_forall_mem.mp dP e (adT he))
    cases hf:es.findIdx? (·.key.isStr x)with
    |none =>
      refine aau (hn λi c=>?_)
      rw[<- u i _ (aa2 c)]
      simpa using (Array.findIdx?_eq_none_iff.mp hf) es[i] (ahy c)
    |some i =>
      obtain⟨c,l,_⟩:=Array.findIdx?_eq_some_iff_getElem.mp hf
      have k:=aa2 c
      rw[u i _ k]at l
      dsimp only
      rw[k]
      refine aas (aco ho hd (aas (K.eq i _ k (K.hs i _ k l) prog w _ _ (aas (aco ho hd ?_)))))
      refine aby (λz=>by simp at z) (λ_=>?_)
      rw[l]
      exact aas (ab8 (aau (hy i c l)))
  . refine aby (λ_=>plain) (λ_=>?_)
    refine aby (λ_=>aas (aau ?_)) (λ_=>aas (p4 K.qk keys ?_))<;>
      exact aby (λz=>by simp at z) (λ_=>gen false rfl)
 |ref a =>
  refine aby (λz=>by simp[carriedByValue]at z) (λ_=>?_)
  refine aby (λz=>?_) (λ_=>?_)
  . rw[<- Array.any_toList,acQ]at z
    obtain⟨e,he,q⟩:=z
    simp only[aav,beq_iff_eq,bne_iff_ne,ne_eq]at q
    exact absurd (K.rf e (agz.mp he) q.1) q.2
  . refine aby (λ_=>aas (aau ?_)) (λ_=>aas (p4 K.qk keys ?_))<;>
      exact aby (λz=>by simp at z) (λ_=>gen false rfl)
 |_ =>
  refine aby (λ_=>plain) (λ_=>?_)
  refine aby (λ_=>aas (aau ?_)) (λ_=>aas (p4 K.qk keys ?_))<;>
    exact aby (λz=>by simp at z) (λ_=>gen false rfl)
end
section
variable {X:Cx}{pins:List (Addr×Obj)}{σ:L2.St}{H:Hp}{ι:Ix}{prog:aaY}{E:Value->aat->Prop}
mutual
theorem qX:∀(d:D) {n:Nat} {s:aat} {A:aaV} {x:V} {u:Value} {Q:Int->aat->Prop},Inv X pins σ H s->a_ n d=true->Rel X.kw H ι d x->RelV x u->A.units+n<cLine ->
  (∀tk,Q (hD X.w d) { s with toks:=tk })->wpAny (model prog X.w) A (pyHash u) Q E s
 |.ay,n,s,A,x,u,Q,I,k,r,ru,hu,q=>by
  simp only[Rel]at r;subst r;cases ru
  simp only[hD]at q
  exact agW (T:="NoneType") rfl F.slot_NoneType_hash F.entry_NoneType_hash (F.args_NoneType_hash_1 _) (afR _) (.inr (by omega)) (aas (aau (aas (wpAny_mkInt (aau ⟨_,_,rfl,q _⟩)))))
 |.int i,n,s,A,x,u,Q,I,k,r,ru,hu,q=>by
  simp only[Rel]at r;subst r;obtain⟨t,rfl⟩:=ru
  simp only[hD]at q
  exact wpAny_pyHash_int (q _)
 |.str y,n,s,A,x,u,Q,I,k,r,ru,hu,q=>by
  simp only[Rel]at r;subst r;obtain⟨t,rfl⟩:=ru
  simp only[hD]at q
  exact wpAny_pyHash_str (q _)
 |.tup xs,n+1,s,A,x,u,Q,I,k,r,ru,hu,q=>by
  simp only[Rel]at r
  obtain⟨a,v,rfl,e,p⟩:=r
  cases ru
  obtain⟨z,l,⟨o,c,f,m,h⟩,_⟩:=I.tuple e.sq
  simp only[hD]at q
  simp only[a_]at k
  refine agW (T:="tuple") ⟨o,c,f⟩ F.slot_tuple_hash F.entry_tuple_hash (F.args_tuple_hash_1 _) (afR _) (.inr (by omega)) ?_
  show wpAny _ _ (ac6 (.ref a) >>= _) _ _ s
  refine aas (wpAny_tupleItemsOf c h (aas ?_))
  rw[<- ahf]
  refine yW xs (acc:=#[]) I k p l (by rw[in1_units];omega) λtk b j=>?_
  show wpAny _ _ (retInt (afB b.toList)) _ _ _
  rw[j]
  exact aas (wpAny_mkInt (aau ⟨_,_,rfl,q _⟩))
 |.tup xs,0,s,A,x,u,Q,I,k,r,ru,hu,q=>by simp[a_]at k
 |.bl _,n,s,A,x,u,Q,I,k,r,ru,hu,q=>by simp[a_]at k
 |.lst _,n,s,A,x,u,Q,I,k,r,ru,hu,q=>by simp[a_]at k
 |.de,n,s,A,x,u,Q,I,k,r,ru,hu,q=>by simp[a_]at k
 |.ref _,n,s,A,x,u,Q,I,k,r,ru,hu,q=>by simp[a_]at k
 |.aG _,n,s,A,x,u,Q,I,k,r,ru,hu,q=>by simp[a_]at k
 |.fn _,n,s,A,x,u,Q,I,k,r,ru,hu,q=>by simp[a_]at k
theorem yW:∀(ds:List D) {n:Nat} {s:aat} {A:aaV} {vs:List V} {us:List Value} {acc:Array Int} {Q:Array Int->aat->Prop},Inv X pins σ H s->cX n ds=true->ag X.kw H ι ds vs->Vals vs us->A.units+n<cLine ->
  (∀tk b,b.toList=acc.toList++BK X.w ds->Q b { s with toks:=tk }) ->
  wpAny (model prog X.w) A (forIn us acc λx r=>do let h <- pyHash x;pure agA;pure (acF (r.push h))) Q E s
 | [],n,s,A,vs,us,acc,Q,I,k,r,ru,hu,q=>by
  simp only[ag]at r;subst r;cases ru
  exact aau (q s.toks acc (by simp[BK]))
 |d::ds,n,s,A,vs,us,acc,Q,I,k,r,ru,hu,q=>by
  simp only[ag]at r
  obtain⟨v,i,rfl,f,e⟩:=r
  simp only[cX,aav]at k
  cases ru with
  |cons r0 rr =>
   rw[aeS]
   refine aas (aas (qX d I k.1 f r0 hu λtk=>aas (aau (aau ?_))))
   exact yW ds (I.tok tk) k.2 e rr hu λa b c=>q a b (by simp[c,BK])
end
mutual
theorem sF:∀(d:D) {n m:Nat} {s:aat} {x:V} {u:Value},Inv X pins σ H s->a_ n d=true->n<=m->Rel X.kw H ι d x->RelV x u->fS s m u
 |.ay,n,m,s,x,u,I,k,hm,r,ru=>by
  simp only[Rel]at r;subst r;cases ru
  intro prog w A E Q q;unfold af3;exact aau q
 |.int i,n,m,s,x,u,I,k,hm,r,ru=>by
  simp only[Rel]at r;subst r;obtain⟨t,rfl⟩:=ru
  intro prog w A E Q q;unfold af3;exact aau q
 |.str y,n,m,s,x,u,I,k,hm,r,ru=>by
  simp only[Rel]at r;subst r;obtain⟨t,rfl⟩:=ru
  intro prog w A E Q q;unfold af3;exact aau q
 |.tup xs,n+1,m,s,x,u,I,k,hm,r,ru=>by
  simp only[Rel]at r
  obtain⟨a,vs,rfl,l,b⟩:=r
  cases ru
  obtain⟨au,bz,⟨o,f,p,z,h3⟩,_⟩:=I.tuple l.sq
  simp only[a_]at k
  intro prog w A E Q q
  have h:s.TypeIs (.ref a) "tuple":=⟨o,f,p⟩
  obtain⟨m,rfl⟩:∃j,m=j+1:=⟨m-1,by omega⟩
  unfold af3
  refine aas (af0 h F.slot_tuple_eq.lookup ?_)
  show wpAny _ _ (isInstance (.ref a) (.type "tuple") >>= _) _ _ s
  refine aas (aez h isSubtype_tuple_tuple ?_)
  simp only[ad6,aaF,if_false]
  refine aas (ae7 f h3 (aas ?_))
  show wpAny _ _ (forIn au.toArray _ _) _ _ s
  rw[<- ahf]
  have Ng:=wo xs (m:=m) I k (by omega) b bz
  refine ad1 _ (λrest r c=>r.1=none/\c=s /\ ∀v∈rest,fS s m v) _ ?_ ?_ _ _ ⟨rfl,rfl,Ng⟩
  . rintro v rest r c ⟨b,rfl,e⟩
    refine aas (e v aaO prog w _ _ _ ?_)
    simp only[ad6,aaF,if_false]
    exact aau ⟨rfl,rfl,λu Yx=>e u (aaR _ Yx)⟩
  . rintro⟨r1,r2⟩ c ⟨b,rfl,_⟩
    simp only at b
    subst b
    exact aau q
 |.tup xs,0,m,s,x,u,I,k,hm,r,ru=>by simp[a_]at k
 |.bl _,n,m,s,x,u,I,k,hm,r,ru=>by simp[a_]at k
 |.lst _,n,m,s,x,u,I,k,hm,r,ru=>by simp[a_]at k
 |.de,n,m,s,x,u,I,k,hm,r,ru=>by simp[a_]at k
 |.ref _,n,m,s,x,u,I,k,hm,r,ru=>by simp[a_]at k
 |.aG _,n,m,s,x,u,I,k,hm,r,ru=>by simp[a_]at k
 |.fn _,n,m,s,x,u,I,k,hm,r,ru=>by simp[a_]at k
theorem wo:∀(ds:List D) {n m:Nat} {s:aat} {vs:List V} {us:List Value},Inv X pins σ H s->cX n ds=true->n<=m->ag X.kw H ι ds vs->Vals vs us->∀v∈us,fS s m v
 | [],n,m,s,vs,us,I,k,hm,r,ru=>by
  simp only[ag]at r;subst r;cases ru
  intro v a;simp at a
 |d::ds,n,m,s,vs,us,I,k,hm,r,ru=>by
  simp only[ag]at r
  obtain⟨v,e,rfl,a,c⟩:=r
  simp only[cX,aav]at k
  cases ru with
  |cons r0 rr =>
   intro z b
   rcases aaD.mp b with rfl|b
   . exact sF d I k.1 hm a r0
   . exact wo ds I k.2 hm c rr z b
end
end
mutual
theorem jL:∀(d:D) {n:Nat},a_ n d=true->flat d=true/\dep d<=n
 |.ay,n,h=>⟨rfl,abd _⟩
 |.int _,n,h=>⟨rfl,abd _⟩
 |.str _,n,h=>⟨rfl,abd _⟩
 |.tup xs,n+1,h=>by
  simp only[a_]at h
  obtain⟨a,b⟩:=uc xs h
  exact⟨a,by simp only[dep];omega⟩
 |.tup xs,0,h=>by simp[a_]at h
 |.bl _,n,h=>by simp[a_]at h
 |.lst _,n,h=>by simp[a_]at h
 |.de,n,h=>by simp[a_]at h
 |.ref _,n,h=>by simp[a_]at h
 |.aG _,n,h=>by simp[a_]at h
 |.fn _,n,h=>by simp[a_]at h
theorem uc:∀(ds:List D) {n:Nat},cX n ds=true->aP ds=true/\bW ds<=n
 | [],n,h=>⟨rfl,abd _⟩
 |d::ds,n,h=>by
  simp only[cX,aav]at h
  obtain⟨a,b⟩:=jL d h.1
  obtain⟨c,e⟩:=uc ds h.2
  exact⟨by simp[aP,a,c],by simp only[bW];omega⟩
end
mutual
theorem jM:∀(d e:D) {n m:Nat},a_ n d=true->a_ m e=true->(aJ d e=true ↔ d=e)
 |.ay,e,n,m,h,k=>by cases e<;>simp_all[a_,aJ]
 |.int _,e,n,m,h,k=>by cases e<;>simp_all[a_,aJ]
 |.str _,e,n,m,h,k=>by cases e<;>simp_all[a_,aJ]
 |.tup xs,e,n+1,m,h,k=>by
  cases e with
  |tup ys =>
   cases m with
   |zero=>simp[a_]at k
   |succ m =>
    simp only[a_]at h k
    simp only[aJ,D.tup.injEq]
    exact yX xs ys h k
  |_=>simp_all[a_,aJ]
 |.tup xs,e,0,m,h,k=>by simp[a_]at h
 |.bl _,e,n,m,h,k=>by simp[a_]at h
 |.lst _,e,n,m,h,k=>by simp[a_]at h
 |.de,e,n,m,h,k=>by simp[a_]at h
 |.ref _,e,n,m,h,k=>by simp[a_]at h
 |.aG _,e,n,m,h,k=>by simp[a_]at h
 |.fn _,e,n,m,h,k=>by simp[a_]at h
theorem yX:∀(ds es:List D) {n m:Nat},cX n ds=true->cX m es=true->(b6 ds es=true ↔ ds=es)
 | [],es,n,m,h,k=>by cases es<;>simp[b6]
 |d::ds,[],n,m,h,k=>by simp[b6]
 |d::ds,e::es,n,m,h,k=>by
  simp only[cX,aav]at h k
  simp only[b6,aav,aiu,jM d e h.1 k.1,yX ds es h.2 k.2]
end
end DK
namespace L3
noncomputable def aS:List D->D->Option D
 |k::v::r,key=>if aJ k key=true then some v else aS r key
 |_,_=>none
noncomputable def bH:List D->D->D->List D
 |k::v::r,key,val=>if aJ k key=true then k::val::r else k::v::bH r key val
 |_,key,val=>[key,val]
noncomputable def tq:List D->D->Nat->Bool
 |k::_::_,key,0=>aJ k key
 |_::_::r,key,i+1=>tq r key i
 |_,_,_=>false
end L3
namespace DK
open PySem PySem.Spec PyProof.Rows L2 L3 SeqAt
inductive Ent (K:KW)(H:Hp)(ι:Ix):List D->List aa_->Prop
 |nil:Ent K H ι [] []
 |cons {k v:D} {kv vv:V} {r:List D} {e:aa_} {es:List aa_}:a_ 6 k=true->e.hash=hD K.w k->Rel K H ι k kv->RelV kv e.key->Rel K H ι v vv->RelV vv e.val->Ent K H ι r es->Ent K H ι (k::v::r) (e::es)
theorem Ent.of {K H ι}:∀{es:List aa_} {xs:List D} {vs:List V},Vals vs (je es)->jG K.w xs es->ag K H ι xs vs->Ent K H ι xs es
 | [],xs,vs,rv,h,r=>by cases h;exact .nil
 |e::es,xs,vs,rv,h,r=>by
  cases h with
  |cons h1 h2 h3 =>
   simp only[ag]at r
   obtain⟨a,k,rfl,f,b,j,rfl,c,i⟩:=r
   cases rv with
   |cons r1 rv=>cases rv with
    |cons r2 rv=>exact .cons h1 h2 f r1 c r2 (Ent.of rv h3 i)
theorem Ent.out {K H ι}:∀{es:List aa_} {xs:List D},Ent K H ι xs es->jG K.w xs es /\ ∃vs,Vals vs (je es)/\ag K H ι xs vs
 | [],xs,h=>by cases h;exact⟨.nil,[],.nil,by simp[ag]⟩
 |e::es,xs,h=>by
  cases h with
  | @cons k v kv vv r _ _ h1 h2 h3 h4 h5 h6 h7 =>
   obtain⟨a,vs,b,c⟩:=h7.out
   refine⟨.cons h1 h2 a,kv::vv::vs,.cons h4 (.cons h6 b),?_⟩
   simp only[ag]
   exact⟨kv,_,rfl,h3,vv,_,rfl,h5,c⟩
theorem Ent.at {K H ι}:∀{es:List aa_} {xs:List D} {i:Nat} {e:aa_},Ent K H ι xs es->es[i]? = some e->∃k kv,a_ 6 k=true/\(aW xs)[i]? = some k/\e.hash=hD K.w k/\Rel K H ι k kv/\RelV kv e.key /\ ∀key,tq xs key i=aJ k key
 | [],xs,i,e,h,q=>by simp at q
 |e0::es,xs,i,e,h,q=>by
  cases h with
  |cons h1 h2 h3 h4 h5 h6 h7 =>
   cases i with
   |zero=>simp at q;subst q;exact⟨_,_,h1,rfl,h2,h3,h4,λ_=>rfl⟩
   |succ i =>
    obtain⟨k,kv,a,b,c,d,j,f⟩:=h7.at (i:=i) (by simpa using q)
    exact⟨k,kv,a,by simpa[aW]using b,c,d,j,λkey=>f key⟩
theorem Ent.len {K H ι}:∀{es:List aa_} {xs:List D},Ent K H ι xs es->(aW xs).length=es.length
 | [],xs,h=>by cases h;rfl
 |e::es,xs,h=>by
  cases h with
  |cons h1 h2 h3 h4 h5 h6 h7=>simp[aW,h7.len]
theorem Ent.none_ {K H ι}:∀{es:List aa_} {xs:List D} {key:D},Ent K H ι xs es->(∀i,i<es.length->tq xs key i=false)->aS xs key=none /\ ∀v,bH xs key v=xs ++ [key,v]
 | [],xs,key,h,q=>by cases h;exact⟨rfl,λ_=>rfl⟩
 |e::es,xs,key,h,q=>by
  cases h with
  |cons h1 h2 h3 h4 h5 h6 h7 =>
   have c:=q 0 (by simp)
   simp only[tq]at c
   obtain⟨a,b⟩:=h7.none_ (key:=key) λi f=>by have:=q (i+1) (by simpa using f);simpa[tq]using this
   exact⟨by simp[aS,c,a],λv=>by simp[bH,c,b]⟩
theorem Ent.uR {K H ι}{key:D}:∀{es:List aa_} {xs:List D} {i:Nat},Ent K H ι xs es->i<es.length->tq xs key i=true->(∀j,j<es.length->tq xs key j=true->j=i) ->
  ∃e v vv,es[i]? = some e/\aS xs key=some v/\Rel K H ι v vv/\RelV vv e.val/\aW (bH xs key v)=aW xs /\
   ∀(w:D) (wv:V) (u:Value),Rel K H ι w wv->RelV wv u->Ent K H ι (bH xs key w) (es.modify i λe=>{ e with val:=u })/\aW (bH xs key w)=aW xs
 | [],xs,i,h,hi,q,un=>by simp at hi
 |e0::es,xs,i,h,hi,q,un=>by
  cases h with
  | @cons k v kv vv r _ _ h1 h2 h3 h4 h5 h6 h7 =>
   cases i with
   |zero =>
    simp only[tq]at q
    refine⟨e0,v,vv,rfl,by simp[aS,q],h5,h6,by simp[bH,q,aW],λw wv u l n=>⟨?_,by simp[bH,q,aW]⟩⟩
    simp only[bH,q,if_true,List.modify_zero_cons]
    exact .cons h1 h2 h3 h4 l n h7
   |succ i =>
    have o:aJ k key=false:=by
     cases hk:aJ k key with
     |false=>rfl
     |true=>exact absurd (un 0 (by simp) (by simpa[tq]using hk)) (by omega)
    obtain⟨e,s,x,a,b,c,d,f,g⟩:=h7.uR (i:=i) (by simpa using hi) (by simpa[tq]using q) λj p z=>by
     have:=un (j+1) (by simpa using p) (by simpa[tq]using z)
     omega
    refine⟨e,s,x,by simpa using a,by simp[aS,o,b],c,d,by simp[bH,o,aW,f],λw wv u l n=>?_⟩
    obtain⟨g1,g2⟩:=g w wv u l n
    simp only[bH,o,aaF,if_false,List.modify_succ_cons]
    exact⟨.cons h1 h2 h3 h4 h5 h6 g1,by simp[aW,g2]⟩
theorem Ent.push {K H ι}{k v:D}{kv vv:V}{e:aa_}(h1:a_ 6 k=true)(h2:e.hash=hD K.w k)(h3:Rel K H ι k kv)(h4:RelV kv e.key)(h5:Rel K H ι v vv)(h6:RelV vv e.val):
  ∀{es:List aa_} {xs:List D},Ent K H ι xs es->Ent K H ι (xs ++ [k,v]) (es ++ [e])/\aW (xs ++ [k,v])=aW xs ++ [k]
 | [],xs,h=>by cases h;exact⟨.cons h1 h2 h3 h4 h5 h6 .nil,rfl⟩
 |e0::es,xs,h=>by
  cases h with
  |cons a1 a2 a3 a4 a5 a6 a7 =>
   obtain⟨a,b⟩:=Ent.push h1 h2 h3 h4 h5 h6 a7
   exact⟨.cons a1 a2 a3 a4 a5 a6 a,by simp[aW,b]⟩
section
variable {X:Cx}{pins:List (Addr×Obj)}{σ:L2.St}{H:Hp}{ι:Ix}{s:aat}
theorem qY (I:Inv X pins σ H s){A:aaV}{d e:D}{x y:V}{u v:Value}(fd:flat d=true)(fe:flat e=true)(rd:Rel X.kw H ι d x)(re:Rel X.kw H ι e y)(ru:RelV x u)(rv:RelV y v)(hu:A.units+dep d<cLine):EqAt A s u v (aJ d e):=by
 refine qM (vZ I d e (A:=A) fd fe rd re ru rv hu) (λf=>?_) (λb t h=>Rel.yO rd (by rw[h]at ru;exact ru))
 subst f
 have a:=ru.inj rv
 subst a
 have c:=Rel.inj I d e fd fe rd re
 subst c
 exact lH d fd
theorem kQ (I:Inv X pins σ H s){A:aaV}(hu:A.units+8<cLine){xs:List D}{es:List aa_}(en:Ent X.kw H ι xs es)(nd:(aW xs).Nodup){key:D}{x:V}{u:Value}(hk:a_ 6 key=true)(r:Rel X.kw H ι key x)(ru:RelV x u):
  Gu A s u (hD X.w key) es.toArray (tq xs key) where
 eq:=λi e he hh=>by
  obtain⟨k,n,a,b,c,d,f,g⟩:=en.at (i:=i) (by simpa using he)
  rw[g key]
  obtain⟨f1,f2⟩:=jL k a
  exact qY I f1 (jL key hk).1 d r f ru (by omega)
 hs:=λi e he p=>by
  obtain⟨k,n,a,b,c,d,f,g⟩:=en.at (i:=i) (by simpa using he)
  rw[g key]at p
  rw[c,(jM k key a hk).mp p]
 qk:=sF key I hk (by omega) r ru
 qe:=λe he=>by
  obtain⟨i,l⟩:=acz.mp (by simpa using he)
  obtain⟨k,n,a,b,c,d,f,g⟩:=en.at l
  exact sF k I a (by omega) d f
 rf:=λe he ek=>by
  obtain⟨i,l⟩:=acz.mp (by simpa using he)
  obtain⟨k,n,a,b,c,d,f,g⟩:=en.at l
  rw[ek]at f
  have:=f.inj ru
  subst this
  rw[c,Rel.inj I k key (jL k a).1 (jL key hk).1 d r]
 un:=λi j l hj o v=>by
  obtain⟨e,he⟩:∃e,es[i]? = some e:=⟨_,aay (by simpa using l)⟩
  obtain⟨e',Yz⟩:∃e,es[j]? = some e:=⟨_,aay (by simpa using hj)⟩
  obtain⟨k,n,a,b,c,d,f,g⟩:=en.at he
  obtain⟨k',YA,a',b',c',d',f',g'⟩:=en.at Yz
  rw[g key]at o
  rw[g' key]at v
  rw[(jM k key a hk).mp o]at b
  rw[(jM k' key a' hk).mp v]at b'
  exact(ahH (aaB.mp b).1 nd).mp (b.trans b'.symm)
 st:=λy tk e0 i e he h=>by
  subst e0
  obtain⟨k,n,a,b,c,d,f,g⟩:=en.at (i:=i) (by simpa using he)
  rw[g key]
  have kx:key = .str y:=by
   cases key with
   |str z=>simp only[Rel]at r;subst r;obtain⟨t,q⟩:=ru;cases q;rfl
   |ay=>simp only[Rel]at r;subst r;cases ru
   |int z=>simp only[Rel]at r;subst r;obtain⟨t,q⟩:=ru;cases q
   |tup z=>simp only[Rel]at r;obtain⟨_,_,rfl,_⟩:=r;cases ru
   |_=>simp[a_]at hk
  subst kx
  cases k with
  |str z =>
   simp only[Rel]at d;subst d;obtain⟨t,q⟩:=f
   rw[q]
   simp only[Value.isStr,aJ]
  |ay=>simp only[Rel]at d;subst d;rw[f]at h;cases h
  |int z=>simp only[Rel]at d;subst d;obtain⟨t,q⟩:=f;rw[q]at h;cases h
  |tup z=>simp only[Rel]at d;obtain⟨_,_,rfl,_⟩:=d;rw[show e.key=_ from f]at h;cases h
  |_=>simp[a_]at a
end
section
variable {X:Cx}{pins:List (Addr×Obj)}{σ:L2.St}{H:Hp}{ι:Ix}{s:aat}{A:aaV}{E:Value->aat->Prop}{a:Addr}{xs:List D}{es:List aa_}{c:Nat}{key:D}{x:V}{u:Value}
theorem jN (I:Inv X pins σ H s)(hH:H a=some (dO a es c)):s.heap.get? a=some { cls:=.type "dict",data:=.dict es.toArray (es.length-c) }:=
 (show cP X.prog X.w H s.heap a (dO a es c) from I.bB a _ hH).1
theorem uS (I:Inv X pins σ H s)(hH:H a=some (dO a es c)):∃ep,s.heap.get? a=some { cls:=.type "dict",data:=.dict es.toArray ep }:=⟨_,jN I hH⟩
theorem Aq (I:Inv X pins σ H s)(hH:H a=some (dO a es c)):s.TypeIs (.ref a) "dict":=let⟨_,h⟩:=uS I hH;⟨_,h,rfl⟩
theorem ud (I:Inv X pins σ H s)(hu:A.units+8<cLine)(hH:H a=some (dO a es c))(en:Ent X.kw H ι xs es)(nd:(aW xs).Nodup)(hk:a_ 6 key=true)(r:Rel X.kw H ι key x)(ru:RelV x u){Q:Option Value->aat->Prop}
   (hn:aS xs key=none->∀tk,Q none { s with toks:=tk }) (hs:∀v,aS xs key=some v->∀tk vv z,Rel X.kw H ι v vv->RelV vv z->Q (some z) { s with toks:=tk }):wpAny (model X.prog X.w) A (afI a u) Q E s:=by
 obtain⟨q,h⟩:=uS I hH
 unfold afI
 refine aa1 (aas (qX key I hk r ru (by omega) λtk=>aas (sE (s:={ s with toks:=tk }) h rfl (kQ (I.tok tk) hu en nd hk r ru) (λz=>?_) (λi b f=>?_))))
 . exact aau (hn (en.none_ λi b=>z i (by simpa using b)).1 tk)
 . have K:=kQ (I.tok tk) hu en nd hk r ru (A:=A)
   obtain⟨e,v,vv,k,l,n,o,_⟩:=en.uR (key:=key) (by simpa using b) f λj p z=>(K.un i j b (by simpa using p) f z).symm
   refine aas (ac9 (s:={ s with toks:=tk }) h rfl ?_)
   have:es.toArray[i]? = some e:=by simpa using k
   rw[this]
   exact aau (hs v l tk vv _ n o)
theorem Cg (I:Inv X pins σ H s)(hH:H a=some (dO a es c))(en:Ent X.kw H ι xs es)(nd:(aW xs).Nodup)(hk:a_ 6 key=true)(r:Rel X.kw H ι key x)(ru:RelV x u){v:D}(hv:aS xs key=some v):
   ∃vv z,Rel X.kw H ι v vv/\RelV vv z /\ ∀{A:aaV} {E:Value->aat->Prop} {Q:Option Value->aat->Prop},A.units+8<cLine->(∀tk,Q (some z) { s with toks:=tk })->wpAny (model X.prog X.w) A (afI a u) Q E s:=by
 obtain⟨ep,p⟩:=uS I hH
 have hex:∃i,i<es.length/\tq xs key i=true:=by
   refine acC λno=>?_
   have:=(en.none_ (key:=key) λi b=>by
    cases h:tq xs key i with
    |false=>rfl
    |true=>exact absurd ⟨i,b,h⟩ no).1
   rw[hv]at this;cases this
 obtain⟨i,b,f⟩:=hex
 have un:∀j,j<es.length->tq xs key j=true->j=i:=λj l z=>by
   obtain⟨k,kv,a1,y,_,_,_,g⟩:=en.at (aay b)
   obtain⟨k',YA,a2,n,_,_,_,g'⟩:=en.at (aay l)
   rw[g]at f
   rw[g']at z
   rw[(jM k key a1 hk).mp f]at y
   rw[(jM k' key a2 hk).mp z]at n
   exact(ahH (aaB.mp n).1 nd).mp (n.trans y.symm)
 obtain⟨e,v',vv,h1,o,h3,h4,_⟩:=en.uR (key:=key) b f un
 rw[hv]at o;cases o
 refine⟨vv,e.val,h3,h4,fun {A E Q} hu q=>?_⟩
 unfold afI
 refine aa1 (aas (qX key I hk r ru (by omega) λtk=>aas (sE (s:={ s with toks:=tk }) p rfl (kQ (I.tok tk) hu en nd hk r ru) (λz=>?_) (λj l tj=>?_))))
 . have:=z i (by simpa using b);rw[f]at this;cases this
 . have:=un j (by simpa using l) tj
   subst this
   refine aas (ac9 (s:={ s with toks:=tk }) p rfl ?_)
   have:es.toArray[j]? = some e:=by simpa using h1
   rw[this]
   exact aau (q tk)
theorem nE (I:Inv X pins σ H s)(hu:A.units+8<cLine)(hH:H a=some (dO a es c))(cR:c<=es.length)(hz:es.length<=aaP)(en:Ent X.kw H ι xs es)(nd:(aW xs).Nodup)(hk:a_ 6 key=true)(r:Rel X.kw H ι key x)(ru:RelV x u){v:D}{vv:V}{z:Value}(rv:Rel X.kw H ι v vv)(rz:RelV vv z){Q:Unit->aat->Prop}
   (h:∀tk h' b7,Ent X.kw H ι (bH xs key v) b7->(aW (bH xs key v)).Nodup->b7.length<=es.length+1->c<=b7.length->h'.get? a=some { cls:=.type "dict",data:=.dict b7.toArray (b7.length-c) }->acW a s.heap h'->Q () { s with heap:=h',toks:=tk }):
   wpAny (model X.prog X.w) A (dictSet a u z) Q E s:=by
 have f:=jN I hH
 unfold dictSet
 refine aa1 (aas (qX key I hk r ru (by omega) λtk=>?_))
 unfold dictSetHashed
 refine aa1 (aas (sE (s:={ s with toks:=tk }) f rfl (kQ (I.tok tk) hu en nd hk r ru) (λy=>?_) (λi b l=>?_)))
 . obtain⟨_,n⟩:=en.none_ (key:=key) λi b=>y i (by simpa using b)
   obtain⟨e1,e2⟩:=Ent.push (e:=⟨hD X.w key,u,z⟩) hk rfl r ru rv rz en
   refine aas (ab8 (wpAny_updateDictKeys (hz:=by simpa using hz) (s:={ s with toks:=tk }) f rfl ?_))
   refine h tk _ (es ++ [⟨hD X.w key,u,z⟩]) (by rw[n];exact e1) ?_ (by simp) (by simp;omega) ?_ (abn ..)
   . rw[n,e2,ack]
     refine⟨nd,by simp,λk B4 k' p=>?_⟩
     simp at p;subst p
     rintro rfl
     obtain⟨i,b,e⟩:=abG.mp B4
     have j_:i<es.length:=by rw[<- en.len];exact b
     obtain⟨k,kv,a1,o,_,_,_,g⟩:=en.at (aay j_)
     rw[aay b,e]at o
     cases o
     have:=y i (by simpa using j_)
     rw[g,(jM _ _ hk hk).mpr rfl]at this
     cases this
   . have q:=abl (h:=s.heap) (aiv (·.push ⟨hD X.w key,u,z⟩)) f rfl
     rw[q];simp[aiv];omega
 . have K:=kQ (I.tok tk) hu en nd hk r ru (A:=A)
   obtain⟨e,v0,ab,h1,h2,h3,h4,_,h5⟩:=en.uR (key:=key) (by simpa using b) l λj hj y=>(K.un i j b (by simpa using hj) l y).symm
   obtain⟨h6,h7⟩:=h5 v vv z rv rz
   refine aas (ab8 (aas (wpAny_updateDict (s:={ s with toks:=tk }) f rfl ?_)))
   refine wpAny_point ?_
   refine h tk _ (es.modify i λe=>{ e with val:=z }) h6 (by rw[h7];exact nd) (by simp) (by simpa using cR) ?_ (abn ..)
   have q:=abl (h:=s.heap) (Obj.mapDict (·.modify i λe=>{ e with val:=z })) f rfl
   rw[q];simp[Obj.mapDict]
end
end DK
namespace L3
open PySem PySem.Spec PyProof.Rows L2 SeqAt DK
noncomputable def aI (d1 d2:D)(g:G):Option (D×G):=match d1 with
 |.aG n=>(g[n]?).bind λxs=>if a_ 6 d2=true then(aS xs d2).map λd=>(d,g)else none
 |d1=>kN d1 d2 g
section
variable {X:Cx}
theorem JB (hu:X.A.units+64<cLine):mV X (cC X.kw aI):=by
 intro value slice pins s σ H x y v u Q I j h q k
 obtain⟨ι,g,d1,o,d,g',G0,e,f,q,p⟩:=q
 cases d1 with
 |aG n =>
  simp only[aI]at q
  obtain⟨xs,hx,q⟩:=bind_some q
  split at q
  . rename_i hk
    simp only[Rel]at e
    obtain⟨a,rfl,ha⟩:=e
    cases j
    obtain⟨es,vs,c,i,jO,cR,rv,hh,nd,sy,sz,rl⟩:=G0.pB hx ha
    have en:=Ent.of rv hh rl
    cases hv:aS xs o with
    |none=>rw[hv]at q;cases q
    |some dv =>
     rw[hv]at q;cases q
     obtain⟨l,z,h1,r,h3⟩:=Cg I i en nd hk f h hv
     have b:=Aq I i
     refine aet (x:=z) b afx.lookup ?_ k
     unfold ael
     refine aa1 (aas (adK b (by decide) ?_))
     refine aas (abf (name:=aa4 "__getitem__") b afx (aa7 afx b entry_dict_getitem ?_ (args_dict_getitem _ _)))
     show wpAny _ _ (afI a u >>= _) _ _ s
     refine aas (h3 (by rw[in1_units];omega) λtk=>?_)
     exact aau ⟨z,rfl,aau ⟨rfl,l,H,I.tok tk,r,p H ι l Ext.refl G0 h1⟩⟩
  . cases q
 |_=>exact Jn value slice pins s σ H x y v u Q I j h ⟨ι,g,_,o,d,g',G0,e,f,q,p⟩ k
theorem Nh {a b:Expr}{fa fb:FE}{pos:Pos}(hu:X.A.units+64<cLine)(ha:DE X a fa)(hb:DE X b fb)(hs:sd b:=by exact λ_ _=>rfl):DE X (.Subscript a b pos) (aq aI fa fb):=.of (
 PE.imp (Qz (JB hu) ha.un hb.un hs) λσ H Q h=>qB h)
end
noncomputable def wq (d1:D)(xs:List D):Option Bool:=if(flat d1&&aP xs&&decide (bW xs<=50))=true then some (xs.any λy=>aJ y d1)else none
noncomputable def kS (d1 d2:D)(g:G):Option Bool:=match d2 with
 |.aG n=>(g[n]?).bind λxs=>if a_ 6 d1=true then some (aS xs d1).isSome else none
 |d2=>(bD d2 g).bind (wq d1)
noncomputable def eO (d1 d2:D)(g:G):Option (D×G):=(kS d1 d2 g).map λb=>(.bl b,g)
noncomputable def d_ (d1 d2:D)(g:G):Option (D×G):=(kS d1 d2 g).map λb=>(.bl (!b),g)
theorem Ci {d1 d2:D}{g:G}{b:Bool}(h:kS d1 d2 g=some b):(∃n,d2 = .aG n) \/ ∃xs,bD d2 g=some xs/\wq d1 xs=some b:=by
 cases d2 with
 |aG n=>exact .inl ⟨n,rfl⟩
 |_=>simp only[kS]at h;exact .inr (bind_some h)
section
variable {X:Cx}
theorem kg:∀{xs:List D} {i:Nat} {d:D},aP xs=true->xs[i]? = some d->flat d=true/\dep d<=bW xs
 | [],i,d,h,e=>by simp at e
 |x::xs,0,d,h,e=>by
  simp at e;subst e
  simp only[aP,aav]at h
  exact⟨h.1,by simp only[bW];omega⟩
 |x::xs,i+1,d,h,e=>by
  simp only[aP,aav]at h
  obtain⟨a,b⟩:=kg (i:=i) h.2 (by simpa using e)
  exact⟨a,by simp only[bW];omega⟩
theorem wt {pins:List (Addr×Obj)}{σ:L2.St}{H:Hp}{s:aat}{ι:Ix}(I:Inv X pins σ H s){A:aaV}{key:D}{x:V}{u:Value}(fk:flat key=true)(r:Rel X.kw H ι key x)(ru:RelV x u){n:Nat}(hu:A.units+n<cLine):
   ∀{xs:List D} {vs:List V} {us:List Value},aP xs=true->bW xs<=n->ag X.kw H ι xs vs->Vals vs us->∃e:Value->Bool,(∀y,y∈us->EqAt A s y u (e y))/\us.any e=xs.any (λy=>aJ y key):=by
 classical
 intro xs vs us h hn rl l
 refine⟨λy=>decide (∃d v,Rel X.kw H ι d v/\RelV v y/\flat d=true/\aJ d key=true),λy hy=>?_,?_⟩
 . obtain⟨i,p,e⟩:=abG.mp hy
   have YB:i<vs.length:=by rw[l.length];exact p
   have q:i<xs.length:=by rw[rl.length];exact YB
   obtain⟨v,h1,f⟩:=rl.get (aay q)
   obtain⟨z,h3,o⟩:=l.get h1
   rw[aay p,e]at h3
   cases h3
   obtain⟨f1,f2⟩:=kg h (aay q)
   have j:=qY I f1 fk f r o ru (A:=A) (by omega)
   have:decide (∃d v,Rel X.kw H ι d v/\RelV v y/\flat d=true/\aJ d key=true)=aJ xs[i] key:=by
    cases hq:aJ xs[i] key with
    |true=>exact decide_eq_true ⟨_,_,f,o,f1,hq⟩
    |false =>
     refine decide_eq_false ?_
     rintro⟨d,v',a,b,c,k⟩
     have:=b.inj o
     subst this
     rw[Rel.inj I d _ c f1 a f,hq]at k
     cases k
   show EqAt A s y u (decide _);rw[this];exact j
 . induction xs generalizing vs us with
   |nil=>simp only[ag]at rl;subst rl;cases l;rfl
   |cons d ds ih =>
    simp only[ag]at rl
    obtain⟨v,vr,rfl,f,hr⟩:=rl
    cases l with
    |cons r0 rr =>
     simp only[aP,aav]at h
     simp only[bW]at hn
     rw[abM,abM,ih h.2 (by omega) hr rr]
     congr 1
     cases hq:aJ d key with
     |true=>exact decide_eq_true ⟨_,_,f,r0,h.1,hq⟩
     |false =>
      refine decide_eq_false ?_
      rintro⟨d',v',a,b,c,k⟩
      have:=b.inj r0
      subst this
      rw[Rel.inj I d' _ c h.1 a f,hq]at k
      cases k
theorem yY (neg:Bool)(hu:X.A.units+64<cLine):aY X (aa8 (if neg then .NotIn else .In)) (cC X.kw λd1 d2 g=>(kS d1 d2 g).map λb=>(.bl (if neg then !b else b),g)):=by
 intro pins s σ H x y v u Q I rx ry q
 obtain⟨ι,g,d1,d2,d,g',G0,r1,o,q,p⟩:=q
 obtain⟨b,h,q⟩:=aaK.mp q
 cases q
 have fin:∀f,EP X pins σ Q (.bool (if neg then !b else b)) { s with toks:=f }:=λf=>⟨.bl _,H,I.tok f,rfl,p H ι _ Ext.refl G0 (by simp[Rel])⟩
 rcases Ci h with⟨n,rfl⟩|⟨xs,hx,h⟩
 . simp only[kS]at h
   obtain⟨xs,hx,h⟩:=bind_some h
   split at h
   . rename_i hk
     cases h
     simp only[Rel]at o
     obtain⟨a,rfl,ha⟩:=o
     cases ry
     obtain⟨es,vs,c,hH,jO,cR,rv,hh,nd,sy,sz,rl⟩:=G0.pB hx ha
     have en:=Ent.of rv hh rl
     have hT:=Aq I hH
     have core:∀{Q':Bool->aat->Prop},(∀f,Q' (aS xs d1).isSome { s with toks:=f })->wpAny (model X.prog X.w) X.A (contains (.ref a) v) Q' X.xe s:=fun {Q'} fin=>by
       unfold contains
       refine aa1 (aas (af0 hT afl.lookup ?_))
       refine aby (λz=>by rw[afR]at z;cases z) (λ_=>?_)
       refine aas (wpAny_callSpecialUnlessNone?_slot (name:=aa4 "__contains__") hT afl (aa7 afl hT entry_dict_contains ?_ (args_dict_contains _ _)))
       show wpAny _ _ (afI a v >>= _) _ _ s
       refine aas (ud I (by rw[in1_units];omega) hH en nd hk r1 rx (λhn f=>?_) (λw hs f vv z _ _=>?_))
       . rw[hn]at fin
         show wpAny _ _ (Builtin.Dict.pendingKey? a v >>= _) _ _ _
         exact aas (wpAny_pendingKey_other sy (aau ⟨_,rfl,abq (fin f)⟩))
       . rw[hs]at fin
         show wpAny _ _ (ret (.bool true)) _ _ _
         exact aau ⟨_,rfl,abq (fin f)⟩
     cases neg with
     |false=>exact(show wpAny _ _ (do return acS (<- contains (.ref a) v)) _ _ s from aas (core λf=>aau (fin f)))
     |true=>exact(show wpAny _ _ (do return acS (!(<- contains (.ref a) v))) _ _ s from aas (core λf=>aau (fin f)))
   . cases h
 . unfold wq at h
   split at h
   . rename_i z
     simp only[aav,decide_eq_true_eq]at z
     cases h
     obtain⟨a,vs,rfl,j,hr⟩:=gL G0 o hx
     cases ry
     rcases j with j|j
     . obtain⟨au,bz,k,_⟩:=I.list j
       obtain⟨e,l,r⟩:=wt I (A:=X.A.in1) z.1.1 r1 rx (n:=50) (by rw[in1_units];omega) z.1.2 z.2 hr bz
       have fin:=fin s.toks
       rw[<- r]at fin
       cases neg with
       |false=>exact in_listAt e k.isList (λy i=>l y (by simpa using i)) (by simpa using fin)
       |true=>exact notIn_listAt e k.isList (λy i=>l y (by simpa using i)) (by simpa using fin)
     . obtain⟨au,bz,k,_⟩:=I.tuple j
       obtain⟨e,l,r⟩:=wt I (A:=X.A.in1) z.1.1 r1 rx (n:=50) (by rw[in1_units];omega) z.1.2 z.2 hr bz
       have fin:=fin s.toks
       rw[<- r]at fin
       cases neg with
       |false=>exact in_tupleAt e k (λy i=>l y (by simpa using i)) (by simpa using fin)
       |true=>exact notIn_tupleAt e k (λy i=>l y (by simpa using i)) (by simpa using fin)
   . cases h
theorem Ni (hu:X.A.units+64<cLine):aY X (aa8 .In) (cC X.kw eO):=yY false hu
theorem Cj (hu:X.A.units+64<cLine):aY X (aa8 .NotIn) (cC X.kw d_):=yY true hu
end
section
variable {X:Cx}{pins:List (Addr×Obj)}{σ:L2.St}{H:Hp}{ι:Ix}{s:aat}{g:G}{a:Addr}{n:Nat}{xs:List D}{es:List aa_}{c:Nat}
theorem p5 (I:Inv X pins σ H s)(hH:H a=some (dO a es c)){b7:List aa_}{h':Heap}{tk:Nat}(hg:h'.get? a=some { cls:=.type "dict",data:=.dict b7.toArray (b7.length-c) })(sb:acW a s.heap h'):
  Inv X pins σ (upd H a (dO a b7 c)) { s with heap:=h',toks:=tk }:=by
 refine I.write (x:=a) (e:=a) (o:=dO a b7 c) (t':=tk) (by rw[hH];exact adH) (.inl rfl) (λb u f q=>?_) ⟨_,hg⟩ ⟨hg,⟨_,hg⟩,λi h q k=>k _ q⟩
 rw[sb.2 b f];exact q
theorem p6 (G0:ax X.kw H ι g)(ha:dk ι n a true)(jO:ι.kd n=c+1)(hH:H a=some (dO a es c)){Nj:List D}{b7:List aa_}(en:Ent X.kw H ι Nj b7)(nd:(aW Nj).Nodup)(sy:(a == ac_)=false)(cR:c<=b7.length)(sz:b7.length<=aaP):
  ax X.kw (upd H a (dO a b7 c)) ι (g.set n Nj):=by
 obtain⟨b,f,e,h⟩:=en.out
 exact G0.L7 ha hH (by rw[jO];exact .d c b7 f cR e b nd sy sz) h
end
noncomputable def kh (xs:List D):Bool:=az (xs.length / 2+1)
noncomputable def iq (o i v:D)(g:G):Option G:=match o with
 |.aG n=>(g[n]?).bind λxs=>if(a_ 6 i&&kh xs)=true then some (g.set n (bH xs i v))else none
 |o=>putD o i v g
inductive Gv (K:KW)(o i v:V)(H:Hp)(Q:Hp->Prop):Prop
 |mk (ι:Ix) (g:G) (d1 d2 d3:D) (g':G) (h0:ax K H ι g) (h1:Rel K H ι d1 o) (h2:Rel K H ι d2 i) (h3:Rel K H ι d3 v) (h4:iq d1 d2 d3 g=some g') (h5:∀H' ι',Ext H ι H' ι'->ax K H' ι' g'->Q H'):Gv K o i v H Q
theorem sG {K H ι}{xs:List D}{es:List aa_}(en:Ent K H ι xs es):xs.length=2*es.length:=by
 induction en with
 |nil=>rfl
 |cons _ _ _ _ _ _ _ ih=>simp[ih];omega
section
variable {X:Cx}
theorem JC (hu:X.A.units+64<cLine):DL X (Gv X.kw):=by
 intro pins s σ H o i v ov iv u Q I ro ri rv q
 obtain⟨ι,g,d1,d2,d3,g',G0,l,r,r3,q,p⟩:=q
 cases d1 with
 |aG n =>
  simp only[iq]at q
  obtain⟨xs,e,q⟩:=bind_some q
  split at q
  . rename_i x
    simp only[aav]at x
    cases q
    simp only[Rel]at l
    obtain⟨a,rfl,b⟩:=l
    cases ro
    obtain⟨es,vs,c,f,jO,cR,nF,hh,nd,sy,sz,rl⟩:=G0.pB e b
    have en:=Ent.of nF hh rl
    have h:=Aq I f
    have hz:=az.le x.2
    rw[sG en]at hz
    unfold ahp
    refine aa1 (aas (adK h (by decide) ?_))
    refine aas (abf (name:=aa4 "__setitem__") h slot_dict_setitem (aa7 slot_dict_setitem h entry_dict_setitem ?_ (args_dict_setitem _ _ _)))
    show wpAny _ _ (Builtin.Dict.notOrdered "__setitem__" ⟨[.ref a,iv,u],[]⟩ >>= _) _ _ s
    refine aas (aeH h ?_)
    show wpAny _ _ (dictSet a iv u >>= _) _ _ s
    refine aas (nE I (by rw[in1_units];omega) f cR sz en nd x.1 r ri r3 rv λtk h' b7 e1 e2 e3 e0 e4 e5=>aau ⟨.none,rfl,aau ?_⟩)
    exact⟨_,p5 I f e4 e5,p _ ι (Ext.put b f) (p6 G0 b jO f e1 e2 sy e0 (by omega))⟩
  . cases q
 |ref n =>
  refine set_list pins s σ H o i v ov iv u Q I ro ri rv ?_
  simp only[iq,putD]at q
  cases d2 with
  |int k =>
    simp only[Rel]at l r
    obtain⟨a,rfl,b⟩:=l
    subst r
    dsimp only at q
    cases e:g[n]? with
    |none=>rw[e]at q;cases q
    |some xs =>
     rw[e]at q
     dsimp only at q
     cases hj:kG xs.length k with
     |none=>rw[hj]at q;cases q
     |some j =>
      rw[hj]at q
      cases q
      obtain⟨vs,y,z⟩:=G0.at e b
      exact⟨a,vs,k,j,rfl,rfl,y,by rw[<- z.length];exact hj,p _ ι (Ext.put b y) (G0.put b y (ag.set r3 j z))⟩
  |_=>cases q
 |_=>cases q
noncomputable def jP (fo fi:FE):FG:=λv σ g=>(fo σ g).bind λr=>(fi σ r.2).bind λq=>(iq r.1 q.1 v q.2).map λa=>(σ,a)
theorem yZ {o i:Expr}{fo fi:FE}{pos:Pos}(hu:X.A.units+64<cLine)(ho:DE X o fo)(hi:DE X i fi)
  (ha:∀v,ad3 (.Subscript o i pos) X.env v=(do
   let ov <- adh [v] (eval o X.env)
   let iv <- adh [v,ov] (eval i X.env)
   age pos
   adh [v,ov,iv] (ahp ov iv v)
   release [v,ov,iv] []):=by intro _;rfl):DG X (.Subscript o i pos) (jP fo fi):=.of (PG.imp (K3 ho.un hi.un (JC hu) ha) λv σ H Q h=>by
 obtain⟨ι,σd,g,d,b4,g',G0,S0,r,h,p⟩:=h
 obtain⟨⟨d1,g1⟩,q,h⟩:=bind_some h
 obtain⟨⟨d2,g2⟩,j,h⟩:=bind_some h
 refine tD.bind G0 S0 q λH1 ι1 v1 b l x y=>?_
 refine tD.bind l x j λH2 n v2 a k u f=>?_
 obtain⟨g3,z,h⟩:=aaK.mp h
 cases h
 exact⟨n,g2,d1,d2,d,g',k,Rel.ext a _ y,f,Rel.ext (b.trans a) _ r,z,λs ι' c e=>p s ι' σ ((b.trans a).trans c) e (u.ext c)⟩)
end
inductive Sj (K:KW)(ib:D->Bool)(m:D->List D->G->Option (D×G))(x:V)(xs:List V)(H:Hp)(Q:VK):Prop
 |mk (ι:Ix) (g:G) (d:D) (ds:List D) (d':D) (g':G) (h0:ax K H ι g) (h1:Rel K H ι d x) (h2:ag K H ι ds xs) (h3:ib d=true) (h4:m d ds g=some (d',g')) (h5:gG K H ι d' g' Q):Sj K ib m x xs H Q
structure MR (X:Cx)(T:String)(name:Str)(id:String)(ib:D->Bool)(m:D->List D->G->Option (D×G)):Prop where
 pa:PlainAttrs T
 slot:Slot T name id
 ty:typeOf (.builtin id)=pure (.type "method_descriptor")
 is:∀{pins:List (Addr×Obj)} {σ:L2.St} {H:Hp} {s:aat} {ι:Ix} {g:G} {d:D} {x:V} {v:Value},Inv X pins σ H s->ax X.kw H ι g->Rel X.kw H ι d x->RelV x v->ib d=true->s.TypeIs v T /\ ∀a,v = .ref a->∃ob,s.heap.get? a=some ob/\ob.dict=none
 run:RJ X id (Sj X.kw ib m)
noncomputable def dw (ib:D->Bool)(m:D->List D->G->Option (D×G))(fo:FE)(fr:FA):FE:=λσ g=>(fo σ g).bind λr=>if ib r.1=true then(fr σ r.2).bind λq=>m r.1 q.1 q.2 else none
section
variable {X:Cx}{T:String}{name:Str}{id:String}{ib:D->Bool}{m:D->List D->G->Option (D×G)}{o e:Expr}{es:List Expr}{fo:FE}{fr:FA}{apos gF:Pos}
theorem Nk (R:MR X T name id ib m)(ho:DE X o fo)(ha:DA X (e::es) fr)(Ar:afq o name X.env (eval o X.env)=eval o X.env:=by rfl)
   (U1:((adl gF (aaZ (e::es) X.env)).all (λx=>!x.1)&&(backToKw gF (keywordEach [] X.env)).all (λx=>x.1.isSome)
    && decide ((e::es).length+([]:List Keyword).length+(if([]:List Keyword).isEmpty then 0 else 1)<30))=true:=by rfl)
   (As:(apos.endLine == gF.line)=true:=by rfl) (hs:aaZ (e::es) X.env=(false,eval e X.env)::aaZ es X.env:=by rfl) (Nl:(adl gF (aaZ es X.env)).any (·.1)=false:=by rfl):
   DE X (.Call (.Attribute o name apos) (e::es) [] gF) (dw ib m fo fr):=.of (by
 intro pins s σ H Q I h
 obtain⟨ι,σd,g,d,g',G0,S0,h,p⟩:=h
 obtain⟨⟨d1,g1⟩,h1,h⟩:=bind_some h
 dsimp only at h
 split at h
 . rename_i hT
   obtain⟨⟨ds,g2⟩,h2,h⟩:=bind_some h
   refine wpAny_Call_method_late Ar U1 As rfl (aT (ho.un pins s σ H (λx H1=>∃a,Ext H ι H1 a/\ax X.kw H1 a g1/\bN X.kw H1 a σd σ/\Rel X.kw H1 a d1 x) I (tD.bind G0 S0 h1 λH1 a v r j q k=>⟨a,r,j,q,k⟩)) λv s1 ⟨x,H1,z,u,a,r,j,q,k⟩=>?_)
   obtain⟨t1,t2⟩:=R.is z j k u hT
   refine⟨T,id,R.pa,R.slot,R.ty,t1,t2,?_⟩
   have y:=ha.un gF pins s1 σ H1 _ z (i5.bind j q h2 λb c f i n S2 l=>(⟨c,i,n,l⟩:(λ(f:List V) (b:Hp)=>∃c,Ext H1 a b c/\ax X.kw b c g2/\ag X.kw b c ds f) f b))
   rw[hs]at y ⊢
   refine agb (by show(false||(adl gF (aaZ es X.env)).any (·.1))=false;rw[Nl]<;>rfl) (Calls.evalArgs_plain ?_)
   refine aT y λus s2 ⟨f,b,I2,l,c,i,n,rs⟩=>?_
   exact R.run pins s2 σ b x f v us Q I2 u l ⟨c,g2,d1,ds,d,g',n,Rel.ext i _ k,rs,hT,h,p.mono (r.trans i)⟩
 . cases h)
theorem JD (R:MR X T name id ib m)(ho:DE X o fo)(Ar:afq o name X.env (eval o X.env)=eval o X.env:=by rfl)(As:(apos.endLine == gF.line)=true:=by rfl):
   DE X (.Call (.Attribute o name apos) [] [] gF) (dw ib m fo aj):=.of (by
 intro pins s σ H Q I h
 obtain⟨ι,u,g,d,z,G0,y,h,p⟩:=h
 obtain⟨⟨l,g1⟩,r,h⟩:=bind_some h
 dsimp only at h
 split at h
 . rename_i k
   obtain⟨⟨ds,g2⟩,q,h⟩:=bind_some h
   cases q
   refine wpAny_Call_method0_late Ar As (aT (ho.un pins s σ H (λx H1=>∃a,Ext H ι H1 a/\ax X.kw H1 a g1/\bN X.kw H1 a u σ/\Rel X.kw H1 a l x) I (tD.bind G0 y r λH1 a v e b j c=>⟨a,e,b,j,c⟩)) λv s1 ⟨x,H1,i,f,a,e,b,j,c⟩=>?_)
   obtain⟨t1,n⟩:=R.is i b c f k
   refine⟨T,id,R.pa,R.slot,R.ty,t1,n,agb rfl (PySem.evalArgs_none ?_)⟩
   exact R.run pins s1 σ H1 x [] v [] Q i f .nil ⟨a,g1,l,[],d,z,b,c,by simp[ag],k,h,p.mono e⟩
 . cases h)
end
noncomputable def ki:D->Bool
 |.aG _=>true
 |_=>false
theorem wu {X:Cx}{pins:List (Addr×Obj)}{σ:L2.St}{H:Hp}{s:aat}{ι:Ix}{g:G}{d:D}{x:V}{v:Value}(I:Inv X pins σ H s)(G0:ax X.kw H ι g)(r:Rel X.kw H ι d x)(rv:RelV x v)(h:ki d=true):
  s.TypeIs v "dict" /\ ∀a,v = .ref a->∃ob,s.heap.get? a=some ob/\ob.dict=none:=by
 cases d with
 |aG n =>
  simp only[Rel]at r
  obtain⟨a,rfl,i⟩:=r
  cases rv
  have k:n<g.length:=by rw[<- G0.len];exact(aaB.mp i.1).1
  obtain⟨o,l,c,j,_⟩:=G0.pB (aay k) i
  obtain⟨p,f⟩:=uS I j
  refine⟨⟨_,f,rfl⟩,λb e=>?_⟩
  cases e
  exact⟨_,f,rfl⟩
 |_=>cases h
noncomputable def kA (d:D)(ds:List D)(g:G):Option (D×G):=match d,ds with
 |.aG n,[k]=>(g[n]?).bind λxs=>if a_ 6 k=true then some ((aS xs k).getD .ay,g)else none
 |.aG n,[k,x]=>(g[n]?).bind λxs=>if a_ 6 k=true then some ((aS xs k).getD x,g)else none
 |_,_=>none
theorem vals1 {x:V}{us:List Value}(r:Vals [x] us):∃u,us = [u]/\RelV x u:=by
 cases r with
 |cons a b=>cases b;exact⟨_,rfl,a⟩
theorem Nm {X:Cx}(hu:X.A.units+64<cLine):MR X "dict" "get" "dict.get" ki kA where
 pa:=PySem.F.plainAttrs_dict
 slot:=aeI
 ty:=PySem.F.type_dict_get
 is:=wu
 run:=by
  intro pins s σ H x xs v us Q I rx rs q
  obtain⟨ι,g,d,ds,d',g',G0,r1,rl,hT,q,p⟩:=q
  have Sl:=(wu I G0 r1 rx hT).1
  cases d with
  |aG n =>
   simp only[Rel]at r1
   obtain⟨a,rfl,ha⟩:=r1
   cases rx
   have core:∀{k dflt:D} {j:List D} {l dv:V} {o du:Value} {Q':Fin->aat->Prop},g[n]? = some j->a_ 6 k=true->Rel X.kw H ι k l->RelV l o->Rel X.kw H ι dflt dv->RelV dv du->gG X.kw H ι ((aS j k).getD dflt) g Q ->
      (∀v r,EP X pins σ Q v r->Q' (.done (.ret v)) r)->wpAny (model X.prog X.w) X.A.in1 (do
       if let some v <- afI a o then return <- ret v
       match <- Builtin.Dict.missed a o with
       |some v=>ret v
       |none=>ret du) Q' X.xe s:=by
    intro k dflt j l dv o du Q' e i f Nn rd YC p hQ
    obtain⟨es,vs,c,hH,jO,cR,rv,hh,nd,sy,sz,rl⟩:=G0.pB e ha
    have en:=Ent.of rv hh rl
    refine aas (ud I (by rw[in1_units];omega) hH en nd i f Nn (λhn tk=>?_) (λw hs tk vv z b rz=>?_))
    . rw[hn]at p
      exact aas (wpAny_missed_other sy (aau (hQ _ _ ⟨_,H,I.tok tk,YC,p H ι _ Ext.refl G0 rd⟩)))
    . rw[hs]at p
      exact aau (hQ _ _ ⟨_,H,I.tok tk,rz,p H ι _ Ext.refl G0 b⟩)
   match ds,q,rl with
   | [k],q,rl =>
    simp only[kA]at q
    obtain⟨j,e,q⟩:=bind_some q
    split at q
    . rename_i i
      cases q
      simp only[ag]at rl
      obtain⟨l,_,rfl,f,rfl⟩:=rl
      obtain⟨u,rfl,ru⟩:=vals1 rs
      exact aa7 aeI Sl agc (core (dflt:=.ay) (dv:=.ay) (du:=.none) e i f ru (by simp[Rel]) rfl p λv r h=>⟨v,rfl,h⟩) (PySem.F.args_dict_get_2 _ _)
    . cases q
   | [k,y],q,rl =>
    simp only[kA]at q
    obtain⟨j,e,q⟩:=bind_some q
    split at q
    . rename_i i
      cases q
      simp only[ag]at rl
      obtain⟨l,_,rfl,f,yv,_,rfl,ry,rfl⟩:=rl
      obtain⟨u,w',rfl,ru,b⟩:=vals2 rs
      exact aa7 aeI Sl agc (core (dflt:=y) e i f ru ry b p λv r h=>⟨v,rfl,h⟩) (PySem.F.args_dict_get_3 _ _ _)
    . cases q
   | [],q,rl=>cases q
   |_::_::_::_,q,rl=>cases q
  |_=>cases hT
noncomputable def lP:FE:=λ_ g=>some (.aG g.length,g ++ [[]])
section
variable {X:Cx}
theorem JE {pos:Pos}:DE X (.Dict [] [] pos) lP:=.of (by
 intro pins s σ H Q I h
 obtain⟨ι,i,g,d,l,G0,j,h,p⟩:=h
 cases h
 have hf:H s.heap.objs.size=none:=I.bB.fresh (aaC _)
 have a:∀h:Heap,(h.push { cls:=.type "dict",data:=.dict #[] }).get? h.objs.size=some { cls:=.type "dict",data:=.dict #[] }:=λh=>aaG _ rfl
 refine wpAny_Dict_empty ⟨.ref s.heap.objs.size,upd H s.heap.objs.size (dO s.heap.objs.size [] 0),I.laid (t':=s.toks) (λb u e=>aaw _ e) (aaC _) ?_,rfl,p _ _ _ (Ext.gA (b:=1) hf) (G0.gA hf (.d 0 [] [] (abd _) .nil .nil (by simp[aW]) (beq_eq_false_iff_ne.mpr (acg (aaN (big I)))) (abd _)) (by simp[ag])) ?_⟩
 . exact⟨a _,⟨_,a _⟩,λf c q k=>k _ q⟩
 . simp only[Rel]
   exact⟨_,rfl,dk.new G0.len⟩)
end
end L3
namespace L3
open PySem PySem.Spec PyProof.Rows L2
end L3
namespace L3
open PySem PySem.Spec PyProof.Rows L2 SeqAt DK
noncomputable def wx:List (FE×FE)->Sg->G->Option (List (D×D)×G)
 | [],_,g=>some ([],g)
 |p::r,σ,g=>(p.1 σ g).bind λa=>(p.2 σ a.2).bind λb=>(wx r σ b.2).bind λq=>some ((a.1,b.1)::q.1,q.2)
noncomputable def putAll (n:Nat):List (D×D)->G->Option G
 | [],g=>some g
 |p::r,g=>(iq (.aG n) p.1 p.2 g).bind λa=>putAll n r a
noncomputable def nG (ps:List (FE×FE)):FE:=λσ g=>(wx ps σ (g ++ [[]])).bind λq=>(putAll g.length q.1 q.2).map λa=>(.aG g.length,a)
inductive kj (K:KW)(H:Hp)(ι:Ix):List (D×D)->List (Value×Value)->Prop
 |nil:kj K H ι [] []
 |cons {d1 d2:D} {x y:V} {u v:Value} {ds us} (h1:Rel K H ι d1 x) (h2:RelV x u) (h3:Rel K H ι d2 y) (h4:RelV y v) (r:kj K H ι ds us):kj K H ι ((d1,d2)::ds) ((u,v)::us)
theorem kj.ext {K H ι H' ι' ds us}(r:kj K H ι ds us)(e:Ext H ι H' ι'):kj K H' ι' ds us:=by
 induction r with
 |nil=>exact .nil
 |cons h1 h2 h3 h4 _ ih=>exact .cons (Rel.ext e _ h1) h2 (Rel.ext e _ h3) h4 ih
section
variable {X:Cx}
noncomputable def fT (X:Cx):List (Option Expr)->List Expr->List (FE×FE)->Prop
 | [],[],[]=>True
 |some k::ks,v::vs,p::r=>DE X k p.1/\DE X v p.2/\fT X ks vs r
 |_,_,_=>False
theorem wy {pos:Pos}:∀(ps:List (FE×FE)) (keys:List (Option Expr)) (vals:List Expr),fT X keys vals ps->∀{pins:List (Addr×Obj)} {s:aat} {σ:L2.St} {H:Hp} {ι:Ix} {σd:Sg} {g g':G} {ds:List (D×D)},Inv X pins σ H s->ax X.kw H ι g->bN X.kw H ι σd σ->wx ps σd g=some (ds,g') ->
  wpAny (model X.prog X.w) X.A (evalPairs (pairTrees keys vals X.env pos)) (λus s'=>∃H' ι',Inv X pins σ H' s'/\Ext H ι H' ι'/\ax X.kw H' ι' g'/\kj X.kw H' ι' ds us) X.xe s
 | [],keys,vals,hd,pins,s,σ,H,ι,σd,g,g',ds,I,G0,S0,h=>by
  have e:keys = []/\vals = []:=by
    cases keys with
    |nil=>cases vals with|nil=>exact⟨rfl,rfl⟩|cons _ _=>simp[fT]at hd
    |cons k _=>cases k<;>cases vals<;>simp[fT]at hd
  obtain⟨rfl,rfl⟩:=e
  cases h
  exact pairTrees_nil_walk ⟨H,ι,I,Ext.refl,G0,.nil⟩
 |p::ps,keys,vals,hd,pins,s,σ,H,ι,σd,g,g',ds,I,G0,S0,h=>by
  obtain⟨k,f,v,c,rfl,rfl,h1,z,h3⟩:∃k f v c,keys=some k::f/\vals=v::c/\DE X k p.1/\DE X v p.2/\fT X f c ps:=by
    cases keys with
    |nil=>cases vals<;>simp[fT]at hd
    |cons k f =>
     cases k with
     |none=>cases vals<;>simp[fT]at hd
     |some k =>
      cases vals with
      |nil=>simp[fT]at hd
      |cons v c=>simp only[fT]at hd;exact⟨k,f,v,c,rfl,rfl,hd⟩
  . simp only[wx]at h
    obtain⟨⟨u,g1⟩,e1,h⟩:=bind_some h
    obtain⟨⟨q,g2⟩,e2,h⟩:=bind_some h
    obtain⟨⟨dr,g3⟩,e3,h⟩:=bind_some h
    cases h
    refine pairTrees_cons_walk (aT (h1.un pins s σ H (λw H'=>∃a,Ext H ι H' a/\ax X.kw H' a g1/\Rel X.kw H' a u w) I ⟨ι,σd,g,u,g1,G0,S0,e1,λH1 a w e l r=>⟨a,e,l,r⟩⟩) λu1 s1 q1=>?_)
    obtain⟨w1,H1,I1,YD,a,j,l,r1⟩:=q1
    refine aT (z.un pins s1 σ H1 (λw H'=>∃b,Ext H1 a H' b/\ax X.kw H' b g2/\Rel X.kw H' b q w) I1 ⟨a,σd,g1,q,g2,l,S0.ext j,e2,λH2 b w e i r=>⟨b,e,i,r⟩⟩) λu2 s2 q2=>?_
    obtain⟨w2,H2,I2,YE,b,o,i,r2⟩:=q2
    refine aT (wy ps f c h3 I2 i ((S0.ext j).ext o) e3) λus s3 q3=>?_
    obtain⟨x,ι3,I3,n,y,r3⟩:=q3
    exact⟨x,ι3,I3,(j.trans o).trans n,y,.cons (Rel.ext (o.trans n) _ r1) YD (Rel.ext n _ r2) YE r3⟩
theorem wz (hu:X.A.units+64<cLine){a:Addr}{n:Nat}{E:Value->aat->Prop}:∀(ds:List (D×D)) (us:List (Value×Value)) {pins:List (Addr×Obj)} {s:aat} {σ:L2.St} {H:Hp} {ι:Ix} {g g':G} {Q:PUnit->aat->Prop},Inv X pins σ H s->ax X.kw H ι g->dk ι n a true->kj X.kw H ι ds us->putAll n ds g=some g' ->
  (∀s' H',Inv X pins σ H' s'->Ext H ι H' ι->ax X.kw H' ι g'->Q agA s') ->
  wpAny (model X.prog X.w) X.A (forIn us agA λ(x:Value×Value) (_:PUnit)=>(do dictSet a x.1 x.2;pure (acF agA):Sem (ForInStep PUnit))) Q E s
 | [],us,pins,s,σ,H,ι,g,g',Q,I,G0,ha,r,h,p=>by
  cases r
  cases h
  rw[agm]
  exact aau (p s H I Ext.refl G0)
 | (k,v)::ds,us,pins,s,σ,H,ι,g,g',Q,I,G0,ha,r,h,p=>by
  cases r with
  |cons h1 h2 h3 h4 r =>
   simp only[putAll,iq]at h
   obtain⟨g1,e,h⟩:=bind_some h
   obtain⟨xs,q,e⟩:=bind_some e
   split at e
   . rename_i f
     simp only[aav]at f
     cases e
     obtain⟨es,vs,c,b,jO,u,y,hh,nd,sy,sz,rl⟩:=G0.pB q ha
     have en:=Ent.of y hh rl
     have o:=az.le f.2
     rw[sG en]at o
     rw[aeS]
     refine aas (aas (nE I (by omega) b u sz en nd f.1 h1 h2 h3 h4 λtk h' b7 e1 l e3 z e4 e5=>aau ?_))
     refine wz hu ds _ (p5 I b e4 e5) (p6 G0 ha jO b e1 l sy z (by omega)) ha (r.ext (Ext.put ha b)) h λs' H' i x' j=>?_
     exact p s' H' i ((Ext.put ha b).trans x') j
   . cases e
theorem ED (hu:X.A.units+64<cLine){keys:List (Option Expr)}{vals:List Expr}{pos:Pos}{ps:List (FE×FE)}(hd:fT X keys vals ps)(dP:keys.all (·.isSome)=true)(hl:keys.length=vals.length)(h0:keys ≠ [])(YF:keys.length<=15):
  DE X (.Dict keys vals pos) (nG ps):=.of (by
 intro pins s σ H Q I h
 obtain⟨ι,σd,g,d,g',G0,S0,h,p⟩:=h
 obtain⟨⟨ds,g1⟩,l,h⟩:=bind_some h
 obtain⟨g2,i,h⟩:=aaK.mp h
 cases h
 have a:=pairTrees_length keys vals X.env pos dP hl
 have x:pairTrees keys vals X.env pos ≠ []:=λhe=>by
  rw[he]at a
  exact h0 (aep.mp a.symm)
 rw[arm_eval_Dict,zip_pairTrees keys vals X.env pos dP hl,dictDisplay_pairs _ x (by rw[a];omega)]
 have hf:H s.heap.objs.size=none:=I.bB.fresh (aaC _)
 have f:∀h:Heap,(h.push { cls:=.type "dict",data:=.dict #[] }).get? h.objs.size=some { cls:=.type "dict",data:=.dict #[] }:=λh=>aaG _ rfl
 have I1:Inv X pins σ (upd H s.heap.objs.size (dO s.heap.objs.size [] 0)) { s with heap:=s.heap.push { cls:=.type "dict",data:=.dict #[] } }:=I.laid (t':=s.toks) (λb u e=>aaw _ e) (aaC _) ⟨f _,⟨_,f _⟩,λl i q k=>k _ q⟩
 have j:Ext H ι (upd H s.heap.objs.size (dO s.heap.objs.size [] 0)) (ι.more s.heap.objs.size 1):=Ext.gA (b:=1) hf
 have z:ax X.kw (upd H s.heap.objs.size (dO s.heap.objs.size [] 0)) (ι.more s.heap.objs.size 1) (g ++ [[]]):=G0.gA hf (.d 0 [] [] (abd _) .nil .nil (by simp[aW]) (beq_eq_false_iff_ne.mpr (acg (aaN (big I)))) (abd _)) (by simp[ag])
 have kT:dk (ι.more s.heap.objs.size 1) g.length s.heap.objs.size true:=dk.new G0.len
 refine aas (aey (aas ?_))
 unfold subDict
 refine aas (af9 ?_)
 refine aas (aa1 ?_)
 rw[if_pos (by rw[a];exact YF)]
 refine aas (aT (wy ps keys vals hd I1 z (S0.ext j) l) λus s1 q=>?_)
 obtain⟨H1,ι1,I2,c,v,y⟩:=q
 refine aa1 (aas (wz hu ds us I2 v (c.at kT) y i λs' n o x' r=>aau (aau (aau ?_))))
 refine⟨.ref s.heap.objs.size,n,o,rfl,p n ι1 _ ((j.trans c).trans x') r ?_⟩
 simp only[Rel]
 exact⟨_,rfl,c.at kT⟩)
end
end L3
namespace DK
open PySem PySem.Spec PyProof.Rows L2 L3
section
variable {prog:aaY}{w:World}{A:aaV}{E:Value->aat->Prop}{s:aat}{it d:Addr}{i n ep:Nat}{es:Array aa_}{Q:Option Value->aat->Prop}
theorem next_end (hh:A.handled=none)(hit:s.heap.IsKeyIter it d i n ep)(ho:s.heap.get? d=some { cls:=.type "dict",data:=.dict es ep })(hn:es.size=n)(he:es.size<=i)
  (hQ:∀h',af8 it s.heap h'->Q none { s with heap:=h' }):wpAny (model prog w) A (adQ (.ref it)) Q E s:=by
 subst hn
 obtain⟨o,c,h,a⟩:=id hit
 have T:=hit.typeIs
 have own:ae9 "dict_keyiterator" = false:=by decide
 have e:A.in1.handled=none:=hh
 have ge:es[i]? = none:=aeu he
 unfold adQ
 refine aas (afo (abf (name:=aa4 "__next__") T F.slot_dict_keyiterator_next (aa7 F.slot_dict_keyiterator_next T F.entry_dict_keyiterator_next ?_ (F.args_dict_keyiterator_next_1 _))))
 unfold ab1.«dict_keyiterator.__next__»
 wp_walk using (acN T),(ae3 c a),(ac9 ho rfl),(aco ho rfl)
 have f:¬((i:Int)<0):=by omega
 simp only[f,if_false,abK,ge]
 wp_walk using (acN T),(adi c a (by simp[own]))
 unfold raiseNew
 refine aas (agI ?_)
 rw[e]
 refine aas (aau (ahQ (aas (aez (T:="StopIteration") (b:=true) (v:=.ref _) (by exact⟨_,aaG _ rfl,rfl⟩) isSubtype_stop ?_))))
 exact aau (hQ _ (((abn ..).extBut.push _).push _))
theorem next_item {e:aa_}(hit:s.heap.IsKeyIter it d i n ep)(ho:s.heap.get? d=some { cls:=.type "dict",data:=.dict es ep })(hn:es.size=n)(he:es[i]? = some e)
  (hQ:∀h',h'.IsKeyIter it d (i+1) n ep->acW it s.heap h'->Q (some e.key) { s with heap:=h' }):wpAny (model prog w) A (adQ (.ref it)) Q E s:=by
 subst hn
 obtain⟨o,b,f,a⟩:=id hit
 have T:=hit.typeIs
 have j:¬((i:Int)<0):=by omega
 have c:(s.heap.update it (afp (·.setIfInBounds 1 (acX ((i:Int)+1))))).IsKeyIter it d (i+1) es.size ep :=
  ⟨_,abl _ b (ago (aei a _)),(ahE ..).trans f,by rw[aei a];simp[acX]⟩
 unfold adQ
 refine aas (afo (abf (name:=aa4 "__next__") T F.slot_dict_keyiterator_next (aa7 F.slot_dict_keyiterator_next T F.entry_dict_keyiterator_next ?_ (F.args_dict_keyiterator_next_1 _))))
 unfold ab1.«dict_keyiterator.__next__»
 wp_walk using (acN T),(ae3 b a),(ac9 ho rfl),(aco ho rfl)
 simp only[j,if_false,abK,he]
 have own:ae9 "dict_keyiterator" = false:=by decide
 refine aas (aas (acN T (aau (aas (agp T ?_)))))
 rw[own]
 refine aas (adi b a (by simp) ?_)
 have h:agM { s with heap:=s.heap.update it (afp (·.setIfInBounds 1 (acX ((i:Int)+1)))) } (.ref it) "dict_keyiterator":=c.typeIs
 refine aas (aa1 (aas (agp h (aau (aau ⟨_,rfl,aau (hQ _ c (abn ..))⟩)))))
theorem EE {Q:Value->aat->Prop}(hd:(d == ac_)=false)(ho:s.heap.get? d=some { cls:=.type "dict",data:=.dict es ep })
  (hQ:Q (.ref s.heap.objs.size) { s with heap:=s.heap.push { cls:=.type "dict_keyiterator",data:=.fields #[.ref d,.int 0 0,.int es.size 0,.int ep 0] } }):wpAny (model prog w) A (agf (.ref d)) Q E s:=by
 have T:s.TypeIs (.ref d) "dict":=⟨_,ho,rfl⟩
 refine afv T F.slot_dict_iter (aa7 F.slot_dict_iter T F.entry_dict_iter ?_ (F.args_dict_iter_1 _))
 unfold ab1.«dict.__iter__» Builtin.Dict.dictSlotNone Builtin.Dict.showsAll
 wp_walk using (aeH T),(ac9 ho rfl),(aco ho rfl)
 exact⟨_,rfl,"dict_keyiterator",_,⟨_,aaG _ rfl,rfl⟩,F.slot_dict_keyiterator_next.lookup,by simpa[acX]using hQ⟩
end
end DK
namespace L3
open PySem PySem.Spec PyProof.Rows L2 SeqAt DK
theorem nH:∀{es:List aa_} {i:Nat} {e:aa_},es[i]? = some e->(je es)[2*i]? = some e.key
 | [],i,e,h=>by simp at h
 |x::es,0,e,h=>by simp at h;subst h;rfl
 |x::es,i+1,e,h=>by
  rw[show 2*(i+1)=2*i+1+1 by omega]
  simpa[je]using nH (by simpa using h)
noncomputable def Np (a:Addr)(n c:Nat):It :=
 ⟨λi H=>∃es vs,H a=some (dO a es c)/\Vals vs (je es)/\es.length=n/\i<n,λi H x b=>b=H /\ ∀es vs,H a=some (dO a es c)->Vals vs (je es)->vs[2*i]? = some x,λi H=>∃es,H a=some (dO a es c)/\es.length=n/\n<=i⟩
theorem Ck {P:aaY}{w:World}{K:aaI}{tg:Expr}(a it:Addr)(n c:Nat):Turn P w K tg (Np a n c) [it] it (λi h=>h.IsKeyIter it a i n (n-c)) where
 mem:=by simp
 obj:=λi h st b f=>by
  have e:b=it:=by simpa using f
  subst e
  obtain⟨o,e,c,d⟩:=st
  exact⟨o,e,λv z=>by rw[d]at z;cases z⟩
 keep:=λi h y st k=>by
  obtain⟨o,e,c,d⟩:=st
  exact⟨o,k it (by simp) o e,c,d⟩
 item:=by
  intro X hP hw hK hc i pins s σ H E I hf st hg
  subst hP hw hK
  obtain⟨p,vs,r,hv,l,hi⟩:=hg
  have j:=jN I r
  rw[l]at j
  have j_:i<p.length:=by omega
  obtain⟨x,hx⟩:∃x,vs[2*i]? = some x:=by
   have h1:=nH (aay j_)
   have h2:=(aaB.mp h1).1
   exact⟨_,aay (by rw[hv.length];exact h2)⟩
  obtain⟨u,hu,ru⟩:=hv.get hx
  have hk:=nH (aay j_)
  rw[hk]at hu
  cases hu
  obtain⟨f0,f1,f2,f3,f4,f5⟩:=hf it (by simp)
  refine next_item (e:=p[i]) st j (by simpa using l) (by simp[j_]) λy dh sb=>?_
  have I1:Inv X pins σ H { s with heap:=y }:=I.turned (t':=s.toks) (λb o f e=>(sb.2 b f).trans e) f0 f1 f3 f4 f5
  obtain⟨o,e,c,d⟩:=id dh
  refine⟨_,rfl,uH (s:={ s with heap:=y }) e c d (by decide) ⟨x,H,I1,ru,⟨rfl,λb7 RW h1 h2=>?_⟩,dh,λb f=>(hf b f).1⟩⟩
  have hZ:=jN I h1
  have gj:=jN I r
  rw[gj]at hZ
  have:p=b7:=by
   injection hZ with q
   injection q with _ _ q _
   injection q with q _
   simpa using congrArg ag3 q
  subst this
  rw[Vals.inj h2 hv]
  exact hx
 done:=by
  intro X hP hw hK hc i pins s σ H E I hf st hg
  subst hP hw hK
  obtain⟨p,r,l,hi⟩:=hg
  have j:=jN I r
  rw[l]at j
  obtain⟨f0,f1,f2,f3,f4,f5⟩:=hf it (by simp)
  exact next_end (I.ok.hd hc) st j (by simpa using l) (by simp;omega) λy eb=>⟨rfl,I.turned (t':=s.toks) (λb o f e=>eb b o f e) f0 f1 f3 f4 f5⟩
 self:=λ_ _ _ _ _ st h=>wpAny_pyIter_keyiter st h
section
variable {X:Cx}{tg:Expr}
noncomputable def Nq (tl:TE):TI:=λσ H R=>tl σ H λx H1=>∃a n c,x = .ref a/\(∃es,H1 a=some (dO a es c)/\es.length=n)/\(a == ac_)=false/\R (Np a n c) H1
theorem JF {l:Expr}{tl:TE}(hl:PE X l tl):PI X tg l (Nq tl):=by
 intro pins s σ H R I h
 refine aT (hl pins s σ H _ I h) λv s1 ⟨x,H1,f,y,k⟩=>?_
 obtain⟨a,n,c,e,⟨z,i,p⟩,r,q⟩:=k
 subst e
 cases y
 have j:=jN f i
 refine EE r j ?_
 refine⟨s1.heap.objs.size,[s1.heap.objs.size],_,_,H1,rfl,f.kept (t':=s1.toks) λb o e=>aaw _ e,Ck a _ n c,⟨_,aaG _ rfl,rfl,by simp[p]⟩,λb u=>?_,q⟩
 have e:b=s1.heap.objs.size:=by simpa using u
 subst e
 exact f.mO (aaC _) (f.bB.fresh (aaC _))
end
end L3
namespace L3
open PySem PySem.Spec PyProof.Rows L2
noncomputable def Au (K:KW)(J:It)(H:Hp)(ι:Ix)(nn L:Nat):Prop :=
 ∀(i:Nat) H1 ι1 g1,i7 H ι H1 ι1->ax K H1 ι1 g1->∀xs,(g1[nn]?).map aW=some xs->xs.length=L->(L<=i->J.stop i H1) /\ ∀d,xs[i]? = some d->J.go i H1 /\ ∀x H2,J.yg i H1 x H2->Ext H1 ι1 H2 ι1/\ax K H2 ι1 g1/\Rel K H2 ι1 d x
inductive Nr (K:KW)(f:ia)(σ:L2.St)(H:Hp)(R:(It->Hp->Prop)):Prop
 |mk (ι:Ix) (σd:Sg) (g:G) (nn:Nat) (L:Nat) (g':G) (h0:ax K H ι g) (h1:bN K H ι σd σ) (h2:f σd g=some (nn,L,g')) (h3:∀H' ι' J,Ext H ι H' ι'->ax K H' ι' g'->Au K J H' ι' nn L->R J H'):Nr K f σ H R
structure Nt (X:Cx)(tg iter:Expr)(f:ia):Prop where of ::
 un:PI X tg iter (Nr X.kw f)
noncomputable def sH (f:FE):ia:=λσ g=>(f σ g).bind λr=>match r.1 with|.aG n=>(r.2[n]?).bind λxs=>some (n,(aW xs).length,r.2)|_=>none
theorem wA {K H ι}{xs:List D}{es:List aa_}(en:DK.Ent K H ι xs es):(aW xs).length=es.length:=by
 induction en with
 |nil=>rfl
 |cons _ _ _ _ _ _ _ ih=>simp[aW,ih]
theorem JG {xs:List D}:∀{i:Nat} {d:D},(aW xs)[i]? = some d->xs[2*i]? = some d:=by
 have:∀(n:Nat) (xs:List D),xs.length<=n->∀{i:Nat} {d:D},(aW xs)[i]? = some d->xs[2*i]? = some d:=λn=>by
  induction n with
  |zero=>intro xs h i d e;have:xs = []:=aep.mp (by omega);subst this;simp[aW]at e
  |succ n ih =>
   intro xs h i d e
   match xs,h,e with
   | [],_,e=>simp[aW]at e
   | [x],_,e=>simp[aW]at e
   |k::v::r,h,e =>
    cases i with
    |zero=>simpa[aW]using e
    |succ i =>
     rw[show 2*(i+1)=2*i+1+1 by omega]
     simpa using ih r (by simp at h;omega) (by simpa[aW]using e)
 exact fun {i d} h=>this xs.length xs (aaC _) h
theorem Au.aG {K H ι a n L c}(h:dk ι n a true)(hk:ι.kd n=c+1):Au K (Np a L c) H ι n L:=λi H1 ι1 g1 l j xs q hl=>by
 obtain⟨s,p,rfl⟩:=aaK.mp q
 obtain⟨b,o,c1,e,k,cR,f,z,nd,sy,sz,rl⟩:=j.pB p (l.at h)
 rw[l.mC n (aaB.mp h.1).1,hk]at k
 cases k
 have en:=DK.Ent.of f z rl
 have hlen:=wA en
 refine⟨λh=>⟨b,e,by omega,h⟩,λd hd=>?_⟩
 have hi:i<(aW s).length:=(aaB.mp hd).1
 refine⟨⟨b,o,e,f,by omega,by omega⟩,λx H2 y=>?_⟩
 obtain⟨rfl,y⟩:=y
 have:=y b o e f
 obtain⟨v,u,r⟩:=rl.get (JG hd)
 rw[u]at this
 cases this
 exact⟨Ext.refl,j,r⟩
theorem JH {X:Cx}{tg l:Expr}{fe:FE}(hl:DE X l fe):Nt X tg l (sH fe):=.of (PI.imp (JF hl.un) λσ H Q h=>by
 obtain⟨ι,σd,g,nn,L,g',G0,y,h,p⟩:=h
 obtain⟨⟨d1,g1⟩,r,h⟩:=bind_some h
 cases d1 with
 |aG n =>
  obtain⟨xs,j,h⟩:=bind_some h
  cases h
  refine tD.bind G0 y r λH1 x v u e S1 f=>?_
  simp only[Rel]at f
  obtain⟨a,rfl,b⟩:=f
  obtain⟨i,vs,c,k,q,cR,o,z,nd,s,sz,rl⟩:=e.pB j b
  have en:=DK.Ent.of o z rl
  exact⟨a,_,c,rfl,⟨i,k,(wA en).symm⟩,s,p H1 x _ u e (.aG b q)⟩
 |_=>cases h)
noncomputable def Nu (fi:ia):pF:=λσ g=>(fi σ g).map λr=>(λg=>(g[r.1]?).map aW,r.2.1,r.2.2)
theorem JI {X:Cx}{tg iter:Expr}{fi:ia}(h:Nt X tg iter fi):vU X tg iter (Nu fi):=.of (PI.imp h.un λσ H Q q=>by
 obtain⟨ι,j,g,s,L,r,G0,l,a,p⟩:=q
 obtain⟨⟨nn,o,g1⟩,f,e⟩:=aaK.mp a
 cases e
 exact⟨ι,j,g,nn,o,g1,G0,l,f,λi n J k c b=>p i n J k c b⟩)
section
variable {σ:Sg}{g:G}{fa:FE}
@[simp] theorem Xq:sH fa σ g=(fa σ g).bind λr=>match r.1 with|.aG n=>(r.2[n]?).bind λxs=>some (n,(aW xs).length,r.2)|_=>none:=rfl
end
noncomputable def g0 (nn L:Nat)(t:FG)(b:FS):Nat->FS
 | 0,σ,g=>((g[nn]?).map aW).bind λxs=>if xs.length=L then some (.nx,σ,g)else none
 |r+1,σ,g=>((g[nn]?).map aW).bind λxs=>if xs.length=L then(xs[L-(r+1)]?).bind λd=>(t d σ g).bind λq=>(b q.1 q.2).bind λa=>match a.1 with
   |.nx=>g0 nn L t b r a.2.1 a.2.2
   |.ct=>g0 nn L t b r a.2.1 a.2.2
   |.bk=>some (.nx,a.2.1,a.2.2)
   |.rt d=>some (.rt d,a.2.1,a.2.2)
  else none
noncomputable def lQ (fi:ia)(t:FG)(b:FS):FS:=λσ g=>(fi σ g).bind λr=>g0 r.1 r.2.1 t b r.2.1 σ r.2.2
theorem y0 {nn L:Nat}{t:FG}{b:FS}:∀(k:Nat) (σ:Sg) (g:G),g0 nn L t b k σ g=gB (λg=>(g[nn]?).map aW) L t b k σ g
 | 0,σ,g=>by simp only[g0,gB]
 |k+1,σ,g=>by simp only[g0,gB,y0 k]<;>rfl
theorem JJ {fi:ia}{t:FG}{b:FS}:lQ fi t b=qK (Nu fi) t b:=by
 funext σ g
 unfold lQ qK Nu
 cases fi σ g with
 |none=>rfl
 |some r=>simp only[aax,abo,y0]
theorem JK {X:Cx}{tg:Expr}{pos:Pos}{iter:Expr}{body:List Stmt}{fi:ia}{t:FG}{b:FS}(hp:aeF (model X.prog X.w) X.A X.env X.xe)(hc:X.calm=true)(hi:Nt X tg iter fi)(hg:DG X tg t)(hb:j8 X body b)
  (hs:∀x,abD iter X.env x=pure x:=by intro _;rfl):DS X (.For tg iter body [] pos) (lQ fi t b):=by
 rw[JJ];exact yL hp hc (JI hi) hg hb hs
theorem EF {fi:ia}{t:FG}{b:FS}{σ:Sg}{g:G}:lQ fi t b σ g=(fi σ g).bind λr=>g0 r.1 r.2.1 t b r.2.1 σ r.2.2:=rfl
end L3
namespace RI
open PySem PySem.Spec PyProof.Rows L2 L3
structure G0 where
 T:Nat->Fn
 k:Nat
 fns:List (Str×Nat×Nat)
 i9:List Str
 wB:List (Str×D)
 y_:List (Str×List (Str×D))
structure Cs where
 N:List Str
 sc:Scope
 all:Bool
 mt:List Str
 own:List Str
inductive Cm (m:G0)(X:Cx)(x:Str)(i n:Nat):Prop
 |mk (f:Addr) (fd:abR) (ps:List Str) (ok:dE X.prog X.w X.K X.mg X.base i4 m.k f fd ps (m9 X.kw n (m.T i))) (hm:X.mg x=some (.ref f)) (kp:acx X.K (.ref f)=true) (b:Binds X.K fd ps []) (ln:∀ds g r,m.T i ds g=some r->ds.length=n):Cm m X x i n
structure Gd (m:G0)(c:Cs)(X:Cx):Prop where
 hN:X.N=c.N
 hs:X.env.scope=c.sc
 nd:c.N.Nodup
 xe:X.xe=λ_ _=>False
 cm:X.calm=true
 rm:aC m.k X.A
 al:c.all=true->∀x,X.fn x=true
 ow:∀x∈c.own,X.fn x=true
 fn:∀x i n,(x,i,n)∈m.fns->Cm m X x i n
 bl:∀x∈m.i9,X.mg x=none
 cn:∀x d,(x,d)∈m.wB->∃v u,X.mg x=some u/\RelV v u /\ ∀K H ι,Rel K H ι d v
 dc:∀x t,(x,t)∈m.y_->∃a,X.mg x=some (.ref a)/\uQ X.w X.kw a t
noncomputable def nI:FT:=λ_ _=>none
noncomputable def qZ:FA:=λ_ _=>none
noncomputable def dJ:FS:=λ_ _=>none
noncomputable def q_:FI:=λ_ _=>none
noncomputable def rg:FG:=λ_ _ _=>none
section
variable {X:Cx}
theorem sI {e:Expr}:DT X e nI:=.of (λpins s σ H Q I h=>by obtain⟨_,_,_,_,_,_,_,h,_⟩:=h;cases h)
theorem sJ {es:List Expr}:DA X es qZ:=.of (λ_ pins s σ H Q I h=>by obtain⟨_,_,_,_,_,_,_,h,_⟩:=h;cases h)
theorem dg {e:Stmt}:DS X e dJ:=.of (λpins s σ H Q I h=>by obtain⟨_,_,_,_,_,_,_,_,h,_⟩:=h;cases h)
theorem sL {tg e:Expr}:DI X tg e q_:=.of (λpins s σ H Q I h=>by obtain⟨_,_,_,_,_,_,_,h,_⟩:=h;cases h)
theorem iu {e:Expr}:DG X e rg:=.of (λpins s σ H v u Q I r h=>by obtain⟨_,_,_,_,_,_,_,_,_,h,_⟩:=h;cases h)
end
noncomputable def isStar:Expr->Bool
 |.Starred ..=>true
 |_=>false
noncomputable def isSet:Expr->Bool
 |.Set ..=>true
 |_=>false
noncomputable def Av:Expr->Bool
 |.Slice ..=>true
 |_=>false
noncomputable def rh:Expr->Bool
 |.ListComp ..=>true
 |.SetComp ..=>true
 |.DictComp ..=>true
 |_=>false
noncomputable def Q5:Expr->Bool
 |.List ..=>true
 |_=>false
noncomputable def rq:Expr->Bool
 |.Tuple ..=>true
 |_=>false
noncomputable def za:Expr->Bool
 |.Call (.Name _ _) [] [] _=>true
 |_=>false
noncomputable def wC:Expr->Bool
 |.UnaryOp .Not _ _=>false
 |.BoolOp ..=>false
 |.IfExp ..=>false
 |.Compare ..=>false
 |_=>true
noncomputable def Q6:Expr->Bool
 |.Name ..=>true
 |.Subscript ..=>true
 |.Constant ..=>true
 |_=>false
theorem b5 {e:Expr}{es:List Expr}{env:Env}(h:isStar e=false):aaZ (e::es) env=(false,eval e env)::aaZ es env:=by
 cases e<;>first|rfl|cases h
theorem marks {op:CmpOp}{e:Expr}(h:isSet e=false):adA op e=false:=by
 cases e<;>first|rfl|cases h
theorem plainT {e:Expr}{env:Env}(h:wC e=true):∀whole,isTrue e env whole=(do let v <- whole;age e.pos;adh [v] (truthy v)):=by
 intro whole
 cases e with
 |UnaryOp op a p=>cases op<;>first|rfl|cases h
 |_=>first|rfl|cases h
theorem JL {e:Expr}(h:Av e=false):sd e:=by
 intro o i
 cases e<;>first|rfl|cases h
theorem baseOk {e:Expr}{x:Str}{env:Env}(h:za e=false):afq e x env (eval e env)=eval e env:=by
 unfold afq
 split
 . cases h
 . rfl
theorem wD {e:Expr}{t:Option Expr}{l:Nat}{env:Env}(h:rh e=false):adW e t l env=pure false:=by
 cases e<;>first|rfl|cases h
theorem oE {e:Expr}{env:Env}(h:isSet e=false):∀x,abD e env x=pure x:=by
 intro x
 cases e<;>first|rfl|cases h
theorem oF {es:List Expr}{env:Env}{pos:Pos}(h:es.any isStar=false):(adl pos (aaZ es env)).any (·.1)=false:=by
 induction es with
 |nil=>rfl
 |cons e es ih =>
  rw[abM,abQ]at h
  rw[b5 h.1]
  show(false||(adl pos (aaZ es env)).any (·.1))=false
  rw[ih h.2];rfl
theorem EG {es:List Expr}{env:Env}{pos:Pos}(h:es.any isStar=false):(adl pos (aaZ es env)).all (λx=>!x.1)=true:=by
 induction es with
 |nil=>rfl
 |cons e es ih =>
  rw[abM,abQ]at h
  rw[b5 h.1]
  show(true&&(adl pos (aaZ es env)).all (λx=>!x.1))=true
  rw[ih h.2];rfl
noncomputable def lR:List Str->Str->Option Nat
 | [],_=>none
 |y::N,x=>if y == x then some 0 else(lR N x).map (· + 1)
theorem iw:∀{N:List Str} {x:Str} {i:Nat},lR N x=some i->N[i]? = some x
 | [],_,_,h=>by cases h
 |y::N,x,i,h=>by
  unfold lR at h
  split at h
  . rename_i e
    cases h
    simp[eq_of_beq e]
  . obtain⟨j,a,rfl⟩:=aaK.mp h
    simpa using iw a
theorem lookup_mem {α:Type}:∀{l:List (Str×α)} {x:Str} {a:α},l.lookup x=some a->(x,a)∈l
 | [],_,_,h=>by cases h
 | (y,b)::l,x,a,h=>by
  rw[abj]at h
  split at h
  . rename_i e
    cases h
    rw[eq_of_beq e];exact aaO
  . exact aaR _ (lookup_mem h)
noncomputable def oG (x:Str):Bool:=x == ("__debug__":Str)||x == ("__classdict__":Str)||x == ("__name__":Str)
theorem Cn {x:Str}(h:oG x=false):(x == ("__debug__":Str))=false/\(x == ("__classdict__":Str))=false/\x ≠ "__name__":=by
 simp only[oG,abQ]at h
 exact⟨h.1.1,h.1.2,λe=>by have:=h.2;rw[e]at this;simp at this⟩
structure fA where
 nm:Str
 fn:Fn
 ok:∀{X:Cx} {k:Nat},aC k X.A->X.calm=true->(∃id,cu X (.builtin id) (gX X.kw fn)/\acq nm=some (.builtin id))\/(∃T,cu X (.type T) (gX X.kw fn)/\acq nm=some (.type T))
structure oH where
 nm:Str
 ib:D->Bool
 m:D->List D->G->Option (D×G)
 ok:∀{X:Cx} {k:Nat},aC k X.A->∃T id,MR X T nm id ib m
noncomputable def aE (E:Expr->FE):List Expr->FA
 | []=>aj
 |e::es=>if isStar e then qZ else aa (E e) (aE E es)
structure Aw where
 nm:Str
 tup:Bool
 f:(Expr->FE)->List Expr->FI
 ok:∀{X:Cx} {k:Nat} {E:Expr->FE} {tg:Expr} {as:List Expr} {p pos:Pos},aC k X.A->X.calm=true->X.mg nm=none->Gl X nm->(∀e,DE X e (E e))->as.any isStar=false->(tup=true->rq tg=true)->DI X tg (.Call (.Name nm p) as [] pos) (f E as)
structure rA where
 e:G0->Cs->(Expr->FE)->Bool->Expr->Option FE
 Co:∀{m:G0} {c:Cs} {X:Cx} {E:Expr->FE},Gd m c X->(∀e,DE X e (E e))->∀{rf x f},e m c E rf x=some f->DE X x f
 t:G0->Cs->(Expr->FE)->Expr->Option FT
 tok:∀{m:G0} {c:Cs} {X:Cx} {E:Expr->FE},Gd m c X->(∀e,DE X e (E e))->∀{x f},t m c E x=some f->DT X x f
structure Pk where
 bl:List fA
 br:List fA
 mt:List oH
 it:List Aw
 xr:List rA
noncomputable def Cp:Const->FE
 |.int i=>fC (.int i)
 |.str x=>fC (.str x)
 |.bool b=>fC (.bl b)
 |.none=>fC .ay
 |_=>cj
noncomputable def Gw:Option acO->Bool
 |some .local=>true
 |some .cell=>true
 |some .free=>true
 |_=>false
noncomputable def eName (m:G0)(c:Cs)(x:Str):FE :=
 if oG x then cj else
 match Gw (c.sc.names.lookup x),lR c.N x with
 |true,some i=>af i
 |true,none=>cj
 |false,_=>if c.sc.names.lookup x=some .globalImplicit then(match m.wB.lookup x with|some d=>fC d|none=>match m.fns.lookup x with|some _=>fC (.fn x)|none=>cj)else cj
noncomputable def Nv (op:Operator)(rf ls:Bool)(fa fb:FE):FE:=match op with
 |.Add=>aq aQ fa fb
 |.Sub=>aq (bK cf (· - ·)) fa fb
 |.Mult=>aq cL fa fb
 |.FloorDiv=>aq (bK iB (· / ·)) fa fb
 |.Mod=>aq (bK eH (· % ·)) fa fb
 |.Pow=>aq (bK dX (λi j=>i ^ j.toNat)) fa fb
 |.LShift=>aq (bK dX (λi j=>i*2 ^ j.toNat)) fa fb
 |.BitAnd=>aq (bK cf ach) fa fb
 |.BitOr=>aq (bK cf ad5) fa fb
 |_=>cj
noncomputable def Sm (op:UnaryOp)(fa:FE):FE:=match op with
 |.USub=>vK lG fa
 |.Not=>om fa
 |_=>cj
noncomputable def bE (E:Expr->FE)(g:Bool)(op:BoolOp):List Expr->FE
 | []=>cj
 | [a]=>E a
 |a::b::r=>match op with
  |.And=>eG (E a) (bE E g .And (b::r))
  |.Or=>se (E a) (bE E g .Or (b::r))
noncomputable def Gx:CmpOp->D->D->G->Option (D×G)
 |.Lt=>oLt
 |.LtE=>oLe
 |.Gt=>M0
 |.GtE=>Gp
 |.Eq=>oEq
 |.NotEq=>sC
 |.Is=>Gq
 |.IsNot=>dI
 |.In=>eO
 |.NotIn=>d_
noncomputable def sM (E:Expr->FE)(l:Expr):List CmpOp->List Expr->FE
 | [op],[b]=>if isSet b then cj else aq (Gx op) (E l) (E b)
 | [op,b8],[b,d]=>if isSet d then cj else gY (Gx op) (Gx b8) (E l) (E b) (E d)
 |_,_=>cj
noncomputable def pE (E:Expr->FE):Option Expr->FO
 |none=>fg
 |some e=>dA (E e)
noncomputable def EH (E:Expr->FE)(v:Expr):Expr->FE
 |.Slice lo hi none _=>fZ (E v) (pE E lo) (pE E hi)
 |.Slice lo hi (some st) _=>Al (E v) (pE E lo) (pE E hi) (dA (E st))
 |s=>aq aI (E v) (E s)
noncomputable def Ax (m:G0)(P:Pk)(c:Cs)(rf:Bool)(E:Expr->FE)(f:Expr)(as:List Expr)(pos:Pos):FE:=match f with
 |.Name x _=>if oG x||as.any isStar then cj else if c.sc.names.lookup x=some .globalImplicit then
   (match m.fns.lookup x with
   |some (i,_)=>av (m.T i) (aE E as)
   |none=>if as.isEmpty || !(m.i9.elem x)then cj else match(if rf then P.br else P.bl).find? (λr=>r.nm == x)with
    |some r=>av r.fn (aE E as)
    |none=>cj)
  else cj
 |.Attribute o x ap=>if za o||as.any isStar || !(ap.endLine == pos.line) || !(decide (as.length<29))then cj else match P.mt.find? (λr=>r.nm == x)with
  |some r=>dw r.ib r.m (E o) (aE E as)
  |none=>cj
 |_=>cj
section
variable {m:G0}{c:Cs}{X:Cx}{E:Expr->FE}
theorem Gd.hu (g:Gd m c X):X.A.units+64<cLine:=g.rm.units
theorem Gd.gl (g:Gd m c X){x:Str}(h:c.sc.names.lookup x=some .globalImplicit):Gl X x:=by
 show X.env.scope.names.lookup x=_
 rw[g.hs];exact h
theorem g_ (hE:∀e,DE X e (E e)):∀es:List Expr,DA X es (aE E es)
 | []=>BP
 |e::es=>by
  unfold aE
  split
  . exact sJ
  . rename_i h
    exact sf (hE e) (g_ hE es) (b5 (by simpa using h))
theorem Cq {v:Const}{j:Nat}{p:Pos}:DE X (.Constant v j p) (Cp v):=by
 cases v with
 |int i=>exact L8
 |str x=>exact L9
 |bool b=>exact QE
 |none=>exact L_
 |_=>exact bY
theorem EI (g:Gd m c X){x:Str}{p:Pos}:DE X (.Name x p) (eName m c x):=by
 unfold eName
 split
 . exact bY
 rename_i r
 obtain⟨a,k,_⟩:=Cn (by simpa using r)
 split
 . rename_i i b q
   refine Ma i (by rw[g.hN];exact iw q) ?_ a k
   rw[g.hs]
   unfold Gw at b
   split at b
   . rename_i e;exact .inl e
   . rename_i e;exact .inr (.inl e)
   . rename_i e;exact .inr (.inr e)
   . cases b
 . exact bY
 . split
   . rename_i j
     split
     . rename_i d hd
       obtain⟨v,u,s,l,z⟩:=g.cn x d (lookup_mem hd)
       exact IY (g.gl j) s l z a
     . split
       . rename_i y o
         obtain⟨i,n⟩:=y
         obtain⟨f,fd,ps,_,hm,_⟩:=g.fn x i n (lookup_mem o)
         exact .of (PE.imp (yd (v:=.ref f) (g.gl j) hm rfl a) λσ H Q h=>by
          obtain⟨ι,σd,g1,d,g',G0,S0,h,p⟩:=h
          cases h
          exact p H ι _ Ext.refl G0 (by simp only[Rel];exact⟨f,rfl,hm⟩))
       . exact bY
   . exact bY
theorem JM {op:Operator}{rf ls:Bool}{a b:Expr}{p:Pos}{fa fb:FE}(ha:DE X a fa)(hb:DE X b fb):DE X (.BinOp a op b p) (Nv op rf ls fa fb):=by
 cases op<;>first|exact bY|skip
 . exact jf MX ha hb
 . exact jf MC ha hb
 . exact jf MV ha hb
 . exact jf MD ha hb
 . exact jf ME ha hb
 . exact jf Nb ha hb
 . exact jf Q4 ha hb
 . exact jf Nc ha hb
 . exact jf Jk ha hb
theorem Nw {op:UnaryOp}{a:Expr}{p:Pos}{fa:FE}(ha:DE X a fa):DE X (.UnaryOp op a p) (Sm op fa):=by
 cases op with
 |USub=>exact QF MF ha
 |Not=>exact Mi ha
 |_=>exact bY
theorem Gy (hE:∀e,DE X e (E e)){gf:Bool}{op:BoolOp}{p:Pos}:∀es:List Expr,DE X (.BoolOp op es p) (bE E gf op es)
 | []=>bY
 | [a]=>Mh (hE a)
 |a::b::r=>by
  have ih:=Gy hE (gf:=gf) (op:=op) (p:=p) (b::r)
  cases op<;>cases gf
  . exact BO (hE a) ih
  . exact BO (hE a) ih
  . exact F8 (hE a) ih
  . exact F8 (hE a) ih
theorem kU (hu:X.A.units+64<cLine):∀op:CmpOp,aY X (aa8 op) (cC X.kw (Gx op))
 |.Lt=>QM
 |.LtE=>QN
 |.Gt=>QO
 |.GtE=>QP
 |.Eq=>QQ hu
 |.NotEq=>M9 hu
 |.Is=>QU
 |.IsNot=>Jv
 |.In=>Ni hu
 |.NotIn=>Cj hu
theorem JN (hu:X.A.units+64<cLine)(hE:∀e,DE X e (E e)){l:Expr}{ops:List CmpOp}{rs:List Expr}{p:Pos}:DE X (.Compare l ops rs p) (sM E l ops rs):=by
 unfold sM
 split
 . split
   . exact bY
   . rename_i h
     exact BM (kU hu _) (hE _) (hE _) (marks (by simpa using h))
 . split
   . exact bY
   . rename_i h
     exact Eb (kU hu _) (kU hu _) (hE _) (hE _) (hE _) (by show adA _ _=false;exact marks (by simpa using h))
 . exact bY
theorem JO (hu:X.A.units+64<cLine)(hE:∀e,DE X e (E e)){l:Expr}{ops:List CmpOp}{rs:List Expr}{p:Pos}:DT X (.Compare l ops rs p) (aN (sM E l ops rs)):=by
 have none_:DT X (.Compare l ops rs p) (aN cj):=.of (λpins s σ H Q I h=>by obtain⟨_,_,_,_,_,_,_,h,_⟩:=h;cases h)
 unfold sM
 split
 . split
   . exact none_
   . rename_i h
     exact BN (kU hu _) (hE _) (hE _) (marks (by simpa using h))
 . split
   . exact none_
   . rename_i h
     exact Ec (kU hu _) (kU hu _) (hE _) (hE _) (hE _) (by show adA _ _=false;exact marks (by simpa using h))
 . exact none_
theorem uT (hE:∀e,DE X e (E e)):∀o:Option Expr,DO X o (pE E o)
 |none=>Jr
 |some e=>yQ (hE e)
theorem JP (hu:X.A.units+64<cLine)(hE:∀e,DE X e (E e)){v s:Expr}{p:Pos}:DE X (.Subscript v s p) (EH E v s):=by
 unfold EH
 split
 . exact Ce (hE _) (uT hE _) (uT hE _)
 . exact Cb (hE _) (uT hE _) (uT hE _) (yQ (hE _))
 . rename_i a b
   refine Nh hu (hE _) (hE _) (JL ?_)
   cases s with
   |Slice lo hi st q =>
    cases st with
    |none=>exact absurd rfl (a _ _ _)
    |some e=>exact absurd rfl (b _ _ _ _)
   |_=>rfl
theorem EJ (P:Pk){rf:Bool}(g:Gd m c X)(hE:∀e,DE X e (E e)){f:Expr}{as:List Expr}{pos:Pos}:DE X (.Call f as [] pos) (Ax m P c rf E f as pos):=by
 unfold Ax
 split
 . rename_i x p
   split
   . exact bY
   rename_i h
   simp only[abx,not_or,ad2]at h
   obtain⟨q,o2,y⟩:=Cn h.1
   have j:=h.2
   split
   . rename_i l
     split
     . rename_i i n hf
       obtain⟨fa,fd,ps,ok,hm,kp,b,ln⟩:=g.fn x i n (lookup_mem hf)
       cases as with
       |nil=>exact Ek ok g.rm hm kp b ln (g.gl l) q
       |cons e es =>
         rw[abM,abQ]at j
         exact Jg ok g.rm hm kp b ln (g_ hE _) (g.gl l) q (b5 j.1) (oF j.2)
     . split
       . exact bY
       rename_i v
       simp only[abx,not_or,ad2,ahg,abc]at v
       split
       . rename_i r u
         have s:r.nm=x:=by have:=aea u;exact eq_of_beq this
         have z:x∈m.i9:=ac7.mp (by simpa using v.2)
         cases as with
         |nil=>simp at v
         |cons e es =>
          rw[abM,abQ]at j
          rcases r.ok g.rm g.cm with⟨id,k,a⟩|⟨T,k,a⟩
          . rw[s]at a
            exact El k (g.bl x z) a (g_ hE _) (g.gl l) y q (b5 j.1) (oF j.2)
          . rw[s]at a
            exact BW k (g.bl x z) a (g_ hE _) (g.gl l) y q (b5 j.1) (oF j.2)
       . exact bY
   . exact bY
 . rename_i o x ap
   split
   . exact bY
   rename_i h
   simp only[abx,not_or,ad2,abc,ahg,decide_eq_false_iff_not,Classical.not_not]at h
   obtain⟨⟨⟨k,a⟩,h3⟩,h4⟩:=h
   split
   . rename_i r u
     have s:r.nm=x:=by have:=aea u;exact eq_of_beq this
     obtain⟨T,id,R⟩:=r.ok g.rm
     rw[s]at R
     cases as with
     |nil=>exact JD R (hE o) (baseOk k) (by simpa using h3)
     |cons e es =>
       rw[abM,abQ]at a
       refine Nk R (hE o) (g_ hE _) (baseOk k) ?_ (by simpa using h3) (b5 a.1) (oF a.2)
       rw[EG (by rw[abM,a.1,a.2];rfl)]
       have h5:decide ((e::es).length+([]:List Keyword).length+(if([]:List Keyword).isEmpty then 0 else 1)<30)=true:=by simp at h4 ⊢;omega
       rw[h5];rfl
   . exact bY
 . exact bY
end
noncomputable def wF (c:Cs)(x:Str):Option Nat:=match c.sc.names.lookup x with
 |some .local=>lR c.N x
 |some .cell=>if c.all||c.own.elem x then lR c.N x else none
 |_=>none
noncomputable def EK (f:Expr->FG):List Expr->pD
 | []=>aV
 |e::es=>aw (f e) (EK f es)
noncomputable def jQ (c:Cs)(E:Expr->FE):Nat->Expr->FG
 |_,.Name x _=>match wF c x with|some i=>gN i|none=>rg
 |_,.Subscript o i _=>if Av i then rg else jP (E o) (E i)
 |n+1,.Tuple es _ _=>if es.any isStar then rg else gT es.length (EK (jQ c E n) es)
 |_,_=>rg
section
variable {m:G0}{c:Cs}{X:Cx}{E:Expr->FE}
theorem oI (g:Gd m c X){x:Str}{i:Nat}(h:wF c x=some i):X.N[i]? = some x/\Loc X.env.scope x/\(X.fn x=true\/X.env.scope.names.lookup x=some .local):=by
 unfold wF at h
 rw[g.hN,g.hs]
 split at h
 . rename_i e;exact⟨iw h,.inl e,.inr e⟩
 . rename_i e
   split at h
   . rename_i a
     rw[abx]at a
     exact⟨iw h,.inr e,.inl (a.elim (λa=>g.al a x) λa=>g.ow x (ac7.mp a))⟩
   . cases h
 . cases h
theorem Gd.wG (g:Gd m c X):X.N.Nodup:=by rw[g.hN];exact g.nd
theorem p7 {e:Expr}{es:List Expr}{env:Env}(h:isStar e=false):ab2 (e::es) env=(false,ad3 e env)::ab2 es env:=by
 cases e<;>first|rfl|cases h
theorem zb {es:List Expr}{env:Env}(h:es.any isStar=false):(ab2 es env).length=es.length/\(ab2 es env).findIdx? (·.1)=none:=by
 induction es with
 |nil=>exact⟨rfl,rfl⟩
 |cons e es ih =>
  rw[abM,abQ]at h
  obtain⟨a,b⟩:=ih h.2
  rw[p7 h.1]
  exact⟨by simp[a],by rw[List.findIdx?_cons,b];rfl⟩
theorem zc {o i:Expr}{pos:Pos}{env:Env}(h:Av i=false):∀v,ad3 (.Subscript o i pos) env v=(do
  let ov <- adh [v] (eval o env)
  let iv <- adh [v,ov] (eval i env)
  age pos
  adh [v,ov,iv] (ahp ov iv v)
  release [v,ov,iv] []):=by
 intro v
 cases i<;>first|rfl|cases h
theorem kW (g:Gd m c X)(hE:∀e,DE X e (E e)):∀(n:Nat) (e:Expr),DG X e (jQ c E n e):=by
 intro n
 induction n with
 |zero =>
  intro e
  unfold jQ
  split
  . split
    . rename_i i h;obtain⟨a,b,d⟩:=oI g h;exact yH g.wG a b d
    . exact iu
  . split
    . exact iu
    . rename_i h;exact yZ g.hu (hE _) (hE _) (zc (by simpa using h))
  . rename_i h;cases h
  . exact iu
 |succ n ih =>
  intro e
  unfold jQ
  split
  . split
    . rename_i i h;obtain⟨a,b,d⟩:=oI g h;exact yH g.wG a b d
    . exact iu
  . split
    . exact iu
    . rename_i h;exact yZ g.hu (hE _) (hE _) (zc (by simpa using h))
  . rename_i p f kt o l
    cases l
    split
    . exact iu
    . rename_i j
      have j:f.any isStar=false:=by simpa using j
      have k:∀f:List Expr,f.any isStar=false->BS X f (EK (jQ c E n) f):=λf=>by
       induction f with
       |nil=>exact λ_=>Jd
       |cons e f L6 =>
        intro h
        rw[abM,abQ]at h
        exact Ei (ih e) (L6 h.2) (by rw[p7 h.1];rfl)
      have k:=k f j
      exact Ms g.cm k (zb j).1 (zb j).2
  . exact iu
end
noncomputable def nJ (m:G0)(P:Pk)(c:Cs)(E:Expr->FE)(tg:Expr)(it:Expr):FI:=match it with
 |.Call (.Name x _) as [] _=>if c.sc.names.lookup x=some .globalImplicit then(match P.it.find? (λr=>r.nm == x)with
  |some r=>if m.i9.elem x && !(as.any isStar)&&(!r.tup||rq tg)then r.f E as else q_
  |none=>cv (E it))else cv (E it)
 |it=>cv (E it)
theorem wH {m:G0}{c:Cs}{X:Cx}{E:Expr->FE}(P:Pk)(g:Gd m c X)(hE:∀e,DE X e (E e)){tg it:Expr}:DI X tg it (nJ m P c E tg it):=by
 unfold nJ
 split
 . rename_i x p as pos
   split
   . rename_i b
     split
     . rename_i r l
       have j:r.nm=x:=by have:=aea l;exact eq_of_beq this
       split
       . rename_i h
         simp only[aav,abx,abc,beq_iff_eq]at h
         obtain⟨⟨k,f⟩,a⟩:=h
         have i:x∈m.i9:=ac7.mp k
         subst j
         exact r.ok g.rm g.cm (g.bl _ i) (g.gl b) hE f (λz=>by rcases a with a|a;(rw[z]at a;cases a);exact a)
       . exact sL
     . exact wa (hE _)
   . exact wa (hE _)
 . exact wa (hE _)
noncomputable def Nx (sc:Scope)(S:Scope):Scope:={ sc with names:=sc.names.map λ(n,k)=>if(k == .free&&S.kind == .function&&S.names.lookup n == some .cell)then(n,.cell)else(n,k) }
noncomputable def zd:List Str->Bool
 | []=>true
 |x::r=>!(r.elem x)&&zd r
theorem wI:∀{l:List Str},zd l=true->l.Nodup
 | [],_=>ae6
 |x::r,h=>by
  simp only[zd,aav,abc]at h
  exact ab_.mpr (And.intro (λz=>(by rw[ac7.mpr z]at h;exact absurd h.1 (by simp))) (wI h.2))
noncomputable def kB (sc:Scope):List Str:=(sc.names.filter λy=>y.2 == .local||y.2 == .cell).map (·.1)
noncomputable def Q7 (sc:Scope):List Str:=(sc.names.filter λy=>y.2 == .cell).map (·.1)
noncomputable def iD (sc:Scope):List Str:=(sc.names.filter λy=>y.2 == .free).map (·.1)
noncomputable def dQ (c:Cs)(sc:Scope):Cs:=⟨kB sc++iD sc,Nx sc c.sc,false,c.mt,Q7 sc⟩
noncomputable def sN (c:Cs)(sc:Scope):List (Option Nat):=(kB sc).map (λ_=>none)++(iD sc).map (λx=>lR c.N x)
noncomputable def Ay (c:Cs)(sc:Scope):Bool:=sk c.sc c.N (kB sc++iD sc) (sN c sc) sc&&zd (kB sc++iD sc)
noncomputable def ze (T:Expr->FT):List Expr->FT
 | []=>aO
 | [t]=>T t
 |_=>nI
noncomputable def wJ (c:Cs):Expr->Bool
 |.Name x _=>c.mt.elem x
 |_=>false
noncomputable def Ny (c:Cs):Expr->Bool
 |.Name x _=>c.mt.elem (aa4 "*" ++ x)
 |_=>false
noncomputable def uU (m:G0)(P:Pk)(c:Cs)(rf:Bool)(E:Cs->Expr->FE)(T:Cs->Expr->FT)(elt:Expr)(gs:List afr)(sc:Scope):FE:=match gs with
 | [⟨tg,it,ifs,0⟩]=>if Ay c sc && !(isSet it)then
  (if wJ c it then fN bU (nB (E c it)) (sN c sc) (jQ (dQ c sc) (E (dQ c sc)) 3 tg) (ze (T (dQ c sc)) ifs) (E (dQ c sc) elt)
  else bQ bU (nJ m P c (E c) tg it) (sN c sc) (jQ (dQ c sc) (E (dQ c sc)) 3 tg) (ze (T (dQ c sc)) ifs) (E (dQ c sc) elt))else cj
 |_=>cj
section
variable {m:G0}{c:Cs}{X:Cx}
theorem Gd.comp (g:Gd m c X){sc:Scope}(h:zd (kB sc++iD sc)=true){C:Addr}{s3:aat}{H:Hp}{fp:List Addr}{pins:List (Addr×Obj)}:Gd m (dQ c sc) (bS X (kB sc++iD sc) sc C s3 H fp pins) where
 hN:=rfl
 hs:=by
  show afH sc X.env=Nx sc c.sc
  rw[<- g.hs];rfl
 nd:=wI h
 xe:=rfl
 cm:=g.cm
 rm:=g.rm
 al:=λz=>by cases z
 ow:=λx o=>by
  show(sc.names.any λy=>y.1 == x&&y.2 == .cell)=true
  obtain⟨y,j,e⟩:=aaJ.mp (show x∈(sc.names.filter λy=>y.2 == .cell).map (·.1) from o)
  rw[aa3]at j
  rw[acQ]
  exact⟨y,j.1,by rw[e,j.2];simp⟩
 fn:=λx i n hm=>by
  obtain⟨f,fd,k,a,b,d,e,l⟩:=g.fn x i n hm
  exact⟨f,fd,k,a,b,d,e,l⟩
 bl:=g.bl
 cn:=g.cn
 dc:=g.dc
theorem Nz {T:Expr->FT}(hT:∀e,DT X e (T e)):∀ifs:List Expr,iU X ifs (ze T ifs)
 | []=>En
 | [t]=>Eo (hT t)
 |_::_::_=>.of (λpins s σ H Q I h=>by obtain⟨_,_,_,_,_,_,_,h,_⟩:=h;cases h)
theorem zf (g:Gd m c X){E:Cs->Expr->FE}{T:Cs->Expr->FT}(hE:∀c X,Gd m c X->∀e,DE X e (E c e))(hT:∀c X,Gd m c X->∀e,DT X e (T c e)){sc:Scope}(h:Ay c sc=true){tg elt:Expr}{ifs:List Expr}:
  gn X (kB sc++iD sc) (sN c sc) sc /\ ∀C s3 H fp pins,DG (bS X (kB sc++iD sc) sc C s3 H fp pins) tg (jQ (dQ c sc) (E (dQ c sc)) 3 tg) /\
   iU (bS X (kB sc++iD sc) sc C s3 H fp pins) ifs (ze (T (dQ c sc)) ifs)/\DE (bS X (kB sc++iD sc) sc C s3 H fp pins) elt (E (dQ c sc) elt):=by
 simp only[Ay,aav]at h
 refine⟨B5 g.hs g.hN h.1,λC s3 H fp pins=>?_⟩
 have a:=g.comp h.2 (C:=C) (s3:=s3) (H:=H) (fp:=fp) (pins:=pins)
 exact⟨kW a (hE _ _ a) 3 tg,Nz (hT _ _ a) ifs,hE _ _ a elt⟩
theorem wK (P:Pk)(g:Gd m c X){rf:Bool}{E:Cs->Expr->FE}{T:Cs->Expr->FT}(hE:∀c X,Gd m c X->∀e,DE X e (E c e))(hT:∀c X,Gd m c X->∀e,DT X e (T c e)){elt:Expr}{gs:List afr}{sc:Scope}{p:Pos}:
   DE X (.ListComp elt gs sc p) (uU m P c rf E T elt gs sc):=by
 unfold uU
 split
 . rename_i tg it ifs
   split
   . rename_i h
     simp only[aav,abc]at h
     obtain⟨ok,a⟩:=zf g hE hT h.1 (tg:=tg) (elt:=elt) (ifs:=ifs)
     split
     . exact EC g.xe g.cm ok (yT (hE c X g it)) a (oE h.2)
     . exact Jh g.xe g.cm ok (wH P g (hE c X g)) a (oE h.2)
   . exact bY
 . exact bY
end
noncomputable def tB (T:Expr->FT)(op:BoolOp):List Expr->FT
 | []=>nI
 | [a]=>T a
 |a::b::r=>match op with
  |.And=>jI (T a) (tB T .And (b::r))
  |.Or=>kI (T a) (tB T .Or (b::r))
noncomputable def xE (P:Pk)(m:G0)(c:Cs)(E:Expr->FE)(rf:Bool)(e:Expr):Option FE:=P.xr.findSome? λr=>r.e m c E rf e
noncomputable def xT (P:Pk)(m:G0)(c:Cs)(E:Expr->FE)(e:Expr):Option FT:=P.xr.findSome? λr=>r.t m c E e
noncomputable def Gz (m:G0)(P:Pk)(E:Cs->Bool->Expr->FE)(T:Cs->Expr->FT)(c:Cs)(rf:Bool):Expr->FE
 |.Constant v _ _=>Cp v
 |.Name x _=>eName m c x
 |.BinOp a op b _=>Nv op rf (Q5 a) (E c false a) (E c false b)
 |.UnaryOp op a _=>Sm op (E c false a)
 |.BoolOp op vs _=>bE (E c false) (vs.dropLast.any Q6) op vs
 |.IfExp t a b _=>z6 (T c t) (E c rf a) (E c rf b)
 |.Compare l ops rs _=>sM (E c false) l ops rs
 |.Tuple es _ _=>aL aH (aE (E c false) es)
 |.List es _=>aL (if rf then mkRef else cS) (aE (E c false) es)
 |.Dict [] [] _=>if rf then lP else fC .de
 |.Subscript v s _=>EH (E c false) v s
 |.Call f as [] pos=>Ax m P c rf (E c false) f as pos
 |.ListComp elt gs sc _=>uU m P c rf (λc e=>E c false e) T elt gs sc
 |_=>cj
noncomputable def GA (m:G0)(P:Pk)(E:Cs->Bool->Expr->FE)(T:Cs->Expr->FT)(c:Cs):Expr->FT
 |.Compare l ops rs _=>aN (sM (E c false) l ops rs)
 |.UnaryOp .Not a _=>dq (T c a)
 |.BoolOp op vs _=>tB (T c) op vs
 |e=>if wC e then cK (E c false e)else nI
noncomputable def Az (m:G0)(P:Pk)(E:Cs->Bool->Expr->FE)(T:Cs->Expr->FT)(c:Cs)(rf:Bool)(e:Expr):FE:=match xE P m c (E c false) rf e with
 |some f=>f
 |none=>Gz m P E T c rf e
noncomputable def stepT (m:G0)(P:Pk)(E:Cs->Bool->Expr->FE)(T:Cs->Expr->FT)(c:Cs)(e:Expr):FT:=match xT P m c (E c false) e with
 |some f=>f
 |none=>GA m P E T c e
noncomputable def iv (m:G0)(P:Pk):Nat->(Cs->Bool->Expr->FE)×(Cs->Expr->FT)
 | 0=>(λ_ _ _=>cj,λ_ _=>nI)
 |n+1=>(Az m P (iv m P n).1 (iv m P n).2,stepT m P (iv m P n).1 (iv m P n).2)
section
variable {m:G0}{X:Cx}
theorem jR {α β:Type}{f:α->Option β}:∀{l:List α} {b:β},l.findSome? f=some b->∃a∈l,f a=some b
 | [],_,h=>by cases h
 |a::l,b,h=>by
  rw[List.findSome?_cons]at h
  cases ha:f a with
  |none=>rw[ha]at h;obtain⟨x,i,e⟩:=jR h;exact⟨x,aaR _ i,e⟩
  |some c=>rw[ha]at h;cases h;exact⟨a,aaO,ha⟩
theorem Q8 {T:Expr->FT}(hT:∀e,DT X e (T e)){op:BoolOp}{p:Pos}:∀es:List Expr,DT X (.BoolOp op es p) (tB T op es):=by
 have w:∀es:List Expr,es ≠ []->DW X (.BoolOp op es p) (tB T op es):=λes=>by
  induction es with
  |nil=>intro h;exact absurd rfl h
  |cons a r ih =>
   intro _
   cases r with
   |nil=>cases op;exact I0 (hT a);exact Me (hT a)
   |cons b r =>
    have:=ih (by simp)
    cases op
    . exact Mf (hT a) this
    . exact QG (hT a) this
 intro es
 cases es with
 |nil=>exact sI
 |cons a r=>exact(w (a::r) (by simp)).dt
theorem GB (m:G0)(P:Pk):∀n:Nat,(∀c X,Gd m c X->∀rf e,DE X e ((iv m P n).1 c rf e))/\(∀c X,Gd m c X->∀e,DT X e ((iv m P n).2 c e))
 | 0=>⟨λ_ _ _ _ _=>bY,λ_ _ _ _=>sI⟩
 |n+1=>by
  obtain⟨b,i⟩:=GB m P n
  refine⟨λc X g rf e=>?_,λc X g e=>?_⟩
  . show DE X e (Az m P (iv m P n).1 (iv m P n).2 c rf e)
    unfold Az
    split
    . rename_i f hf
      obtain⟨r,_,h⟩:=jR hf
      exact r.Co g (b c X g false) h
    have a:=b c X g false
    unfold Gz
    split
    . exact Cq
    . exact EI g
    . exact JM (a _) (a _)
    . exact Nw (a _)
    . exact Gy a _
    . exact Mj (i c X g _) (b c X g rf _) (b c X g rf _)
    . exact JN g.hu a
    . exact BQ (g_ a _)
    . cases rf
      . exact Ml (g_ a _)
      . exact BR (g_ a _)
    . cases rf
      . exact Et
      . exact JE
    . exact JP g.hu a
    . exact EJ P g a
    . exact wK P g (λc X g e=>b c X g false e) i
    . exact bY
  . show DT X e (stepT m P (iv m P n).1 (iv m P n).2 c e)
    unfold stepT
    split
    . rename_i f hf
      obtain⟨r,_,h⟩:=jR hf
      exact r.tok g (b c X g false) h
    unfold GA
    split
    . exact JO g.hu (b c X g false)
    . exact Mg (i c X g _)
    . exact Q8 (i c X g) _
    . split
      . rename_i h;exact Md (b c X g false _) (plainT h)
      . exact sI
end
noncomputable def GC (f:Stmt->FS):List Stmt->FS
 | []=>bp
 | [s]=>f s
 |s::t::r=>aD (f s) (GC f (t::r))
noncomputable def AA (S:Scope):Bool:=(if S.kind.isAnnotationScope then afm else S.kind)== .function
noncomputable def AB (S:Scope)(x:Str)(px p:Pos)(sc:Scope):Bool:=AA S&&S.names.lookup x == some .local&&px.line == p.line && !(sc.names.any λ(n,k)=>n == x&&(k == .local||k == .cell))
noncomputable def NA (mt:List Str):Expr->Bool
 |.Name x _=>mt.elem x
 |_=>false
noncomputable def aZ (E:Bool->Expr->FE)(mt:List Str):List Expr->List Expr->FA
 |_,[]=>aj
 | [],v::vs=>if isStar v then qZ else aa (E false v) (aZ E mt [] vs)
 |t::ts,v::vs=>if isStar v then qZ else aa (E (NA mt t) v) (aZ E mt ts vs)
noncomputable def GD (m:G0)(P:Pk)(c:Cs)(rf:Bool)(E:Cs->Expr->FE)(T:Cs->Expr->FT)(elt:Expr)(gs:List afr)(sc:Scope):FE:=match gs with
 | [⟨tg,it,ifs,0⟩]=>if Ay c sc && !(isSet it)then
  (if wJ c it then fN bU (nB (E c it)) (sN c sc) (jQ (dQ c sc) (E (dQ c sc)) 3 tg) (ze (T (dQ c sc)) ifs) (E (dQ c sc) elt)
  else bQ bU (nJ m P c (E c) tg it) (sN c sc) (jQ (dQ c sc) (E (dQ c sc)) 3 tg) (ze (T (dQ c sc)) ifs) (E (dQ c sc) elt))else cj
 |_=>cj
noncomputable def rB (S:Scope)(ts:List Expr):List Str:=ts.filterMap fun
 |.Name id pos=>if S.names.lookup id == some .local&&pos.line == (ts.head?.map (·.pos.line)).getD 0 then some id else none
 |_=>none
noncomputable def NB (S:Scope)(ts vs:List Expr):Option Bool :=
 if !(ts.length == 2||ts.length == 3)||vs.length != ts.length || !(AA S)then some false
 else if(rB S ts).length != ts.length||(rB S ts).eraseDups.length != (rB S ts).length then some false
 else if vs.all (foldedForSure 8)then some false
 else if vs.all (constantsAlone 8)then none
 else some true
noncomputable def wL (c:Cs)(x:Str):Bool:=c.sc.names.lookup x == some .local
noncomputable def EL (m:G0)(P:Pk)(E:Cs->Bool->Expr->FE)(T:Cs->Expr->FT)(c:Cs)(tg v:Expr):FS:=match tg,v with
 |.Name x px,.ListComp elt gs sc p=>(match wF c x with
  |some i=>aM (if AB c.sc x px p sc then GD m P c (c.mt.elem x) (λc e=>E c false e) T elt gs sc else uU m P c (c.mt.elem x) (λc e=>E c false e) T elt gs sc) (gN i)
  |none=>dJ)
 |.Name x px,v=>(match wF c x with
  |some i=>if rh v then dJ else aM (E c (c.mt.elem x) v) (gN i)
  |none=>dJ)
 |.Tuple ts kt pt,.Tuple vs _ _=>if vs.any isStar then dJ else(match NB c.sc ts vs with
  |some false=>aM (aL aH (aZ (E c) c.mt ts vs)) (jQ c (E c false) 3 (.Tuple ts kt pt))
  |some true=>(match ts,vs with
   | [.Name x _,.Name y _],[a,b]=>(match lR c.N x,lR c.N y with|some i,some j=>if rB c.sc ts == [x,y]&&wL c x&&wL c y && !(i == j)then sr i j (aZ (E c) c.mt ts [a,b])else dJ|_,_=>dJ)
   |_,_=>dJ)
  |none=>dJ)
 |.Subscript o i q,v=>aM (E c false v) (jQ c (E c false) 3 (.Subscript o i q))
 |tg,v=>if rh v||rq v||isStar tg then dJ else aM (E c false v) (jQ c (E c false) 3 tg)
noncomputable def EM (m:G0)(P:Pk)(W:Nat)(kp:Bool)(E:Cs->Bool->Expr->FE)(T:Cs->Expr->FT)(B:List Stmt->FS)(c:Cs):Stmt->FS
 |.Return (some e) _=>aU (E c kp e)
 |.If t a b _=>cA (T c t) (B a) (B b)
 |.Assign [tg] v _=>EL m P E T c tg v
 |.For tg it body [] _=>if isSet it then dJ else if Ny c it then lQ (sH (E c false it)) (jQ c (E c false) 3 tg) (B body)else e_ (nJ m P c (E c false) tg it) (jQ c (E c false) 3 tg) (B body)
 |.While t body [] _=>F_ W (T c t) (B body)
 |.Pass _=>bp
 |.Continue _=>Eg
 |.Expr (.Constant (.str _) _ _) _=>bp
 |.Expr e _=>if rh e then dJ else fu (E c false e)
 |_=>dJ
noncomputable def sS (m:G0)(P:Pk)(W:Nat)(kp:Bool)(E:Cs->Bool->Expr->FE)(T:Cs->Expr->FT)(c:Cs):Nat->Stmt->FS
 | 0,_=>dJ
 |n+1,s=>EM m P W kp E T (GC (sS m P W kp E T c n)) c s
noncomputable def body (m:G0)(P:Pk)(W:Nat)(kp:Bool)(c:Cs)(pC:List Stmt):FS:=GC (sS m P W kp (iv m P 30).1 (iv m P 30).2 c 12) pC
section
variable {m:G0}{c:Cs}{X:Cx}
theorem wM {f:Stmt->FS}(h:∀s,DS X s (f s)):∀pC:List Stmt,j8 X pC (GC f pC)
 | []=>I_
 | [s]=>Ja (h s)
 |s::t::r=>Eh (h s) (wM h (t::r))
theorem uV {E:Bool->Expr->FE}{mt:List Str}(hE:∀rf e,DE X e (E rf e)):∀(ts vs:List Expr),DA X vs (aZ E mt ts vs)
 |_,[]=>by cases ‹List Expr›<;>exact BP
 | [],v::vs=>by
  unfold aZ
  split
  . exact sJ
  . rename_i h;exact sf (hE _ v) (uV hE [] vs) (b5 (by simpa using h))
 |t::ts,v::vs=>by
  unfold aZ
  split
  . exact sJ
  . rename_i h;exact sf (hE _ v) (uV hE ts vs) (b5 (by simpa using h))
theorem zg (g:Gd m c X){elt:Expr}{gs:List afr}{sc:Scope}{p px:Pos}{x:Str}{l:Nat}:adW (.ListComp elt gs sc p) (some (.Name x px)) l X.env=pure (AB c.sc x px p sc):=by
 rw[<- g.hs];rfl
theorem Sn {ts vs:List Expr}{kt k2:Nat}{pt mv:Pos}{r:Bool}(g:Gd m c X)(hv:vs.any isStar=false)(h:NB c.sc ts vs=some r):adz [.Tuple ts kt pt] (.Tuple vs k2 mv) X.env=pure (if r then some (rB c.sc ts)else none):=by
 have k:(vs.any fun|.Starred ..=>true|_=>false)=false:=by
   have:(λ(e:Expr)=>match e with|.Starred ..=>true|_=>false)=isStar:=by funext e;cases e<;>rfl
   rw[this];exact hv
 have i:(X.env.blockKind != afm)= !(AA c.sc):=by rw[<- g.hs];rfl
 unfold NB at h
 show(if(!(ts.length == 2||ts.length == 3)||vs.length != ts.length||X.env.blockKind != afm)=true then pure none else if(vs.any fun|.Starred ..=>true|_=>false)=true then pure none else
   if((rB X.env.scope ts).length != ts.length||(rB X.env.scope ts).eraseDups.length != (rB X.env.scope ts).length)=true then pure none else if vs.all (foldedForSure 8)=true then pure none else if vs.all (constantsAlone 8)=true then _ else pure (some (rB X.env.scope ts)))=_
 rw[i,k,g.hs]
 split at h
 . rename_i f;cases h;rw[if_pos f];rfl
 rename_i f
 rw[if_neg f,if_neg (by simp)]
 split at h
 . rename_i b;cases h;rw[if_pos b];rfl
 rename_i b
 rw[if_neg b]
 split at h
 . rename_i a;cases h;rw[if_pos a];rfl
 rename_i a
 rw[if_neg a]
 split at h
 . cases h
 rename_i j
 cases h
 rw[if_neg j];rfl
theorem U2 {tg v:Expr}{env:Env}(h:rq v=false):adz [tg] v env=pure none:=by
 cases tg with
 |Tuple es kt p=>cases v<;>first|rfl|cases h
 |List es p=>cases v<;>first|rfl|cases h
 |_=>rfl
theorem zh {tg:Expr}{env:Env}(h:isStar tg=false):(ab2 [tg] env).map (·.2)= [ad3 tg env]:=by
 rw[p7 h];rfl
theorem EN {o i v:Expr}{q:Pos}{l:Nat}{env:Env}:ad4 [.Subscript o i q] v l env=pure false:=by cases v<;>rfl
theorem NC {o i v:Expr}{q:Pos}{env:Env}:adz [.Subscript o i q] v env=pure none:=by cases v<;>rfl
theorem JQ (P:Pk)(g:Gd m c X){E:Cs->Bool->Expr->FE}{T:Cs->Expr->FT}(hE:∀c X,Gd m c X->∀rf e,DE X e (E c rf e))(hT:∀c X,Gd m c X->∀e,DT X e (T c e)){tg v:Expr}{p:Pos}:DS X (.Assign [tg] v p) (EL m P E T c tg v):=by
 have So:∀{x:Str},wL c x=true->X.env.scope.names.lookup x=some .local:=fun {x} h=>by
   rw[g.hs];exact eq_of_beq h
 unfold EL
 split
 . rename_i x px elt gs sc q
   split
   . rename_i i f
     obtain⟨a,b,d⟩:=oI g f
     split
     . rename_i o
       unfold GD
       split
       . rename_i tg it ifs
         split
         . rename_i h
           simp only[aav,abc]at h
           obtain⟨ok,z⟩:=zf g (λc X g e=>hE c X g false e) hT h.1 (tg:=tg) (elt:=elt) (ifs:=ifs)
           have hs:=(zg g (elt:=elt) (gs:=[⟨tg,it,ifs,0⟩]) (sc:=sc) (p:=q) (px:=px) (x:=x) (l:=p.line)).trans (by rw[o])
           split
           . exact wk g.xe g.cm ok (yT (hE c X g false it)) z g.wG a b hs (oE h.2) d
           . exact Ab g.xe g.cm ok (wH P g (hE c X g false)) z g.wG a b hs (oE h.2) d
         . exact .of (λpins s σ H Q I h=>by obtain⟨_,_,_,_,_,_,_,_,h,_⟩:=h;cases h)
       . exact .of (λpins s σ H Q I h=>by obtain⟨_,_,_,_,_,_,_,_,h,_⟩:=h;cases h)
     . rename_i o
       exact BU g.wG a b (wK P g (λc X g e=>hE c X g false e) hT) ((zg g).trans (by rw[show AB c.sc x px q sc=false by simpa using o])) d
   . exact dg
 . rename_i x px _
   split
   . rename_i i f
     obtain⟨a,b,d⟩:=oI g f
     split
     . exact dg
     . rename_i h
       exact BU g.wG a b (hE c X g _ _) (wD (by simpa using h)) d
   . exact dg
 . rename_i u kt pt r k2 mv
   split
   . exact dg
   rename_i k
   have k:r.any isStar=false:=by simpa using k
   have ND:∀l,ad4 [.Tuple u kt pt] (.Tuple r k2 mv) l X.env=pure false:=λ_=>rfl
   split
   . rename_i n
     exact vM (BQ (uV (hE c X g) u r)) (kW g (hE c X g false) 3 _) (ND _) (Sn g k n) rfl
   . rename_i n
     split
     . rename_i x px y py a b
       split
       . rename_i i j f hj
         split
         . rename_i h
           simp only[aav,abc,beq_iff_eq]at h
           obtain⟨⟨⟨h1,h2⟩,h3⟩,h4⟩:=h
           exact M3 g.cm g.wG (by rw[g.hN];exact iw f) (by rw[g.hN];exact iw hj) (by simpa using h4) (So h2) (So h3) (uV (hE c X g) _ _) ((Sn g k n).trans (by rw[if_pos rfl,h1])) (ND _)
         . exact dg
       . exact dg
     . exact dg
   . exact dg
 . exact vM (hE c X g false _) (kW g (hE c X g false) 3 _) EN NC (zh rfl)
 . split
   . exact dg
   rename_i h
   simp only[abx,not_or,ad2]at h
   exact vM (hE c X g false _) (kW g (hE c X g false) 3 _) (wD h.1.1) (U2 h.1.2) (zh h.2)
theorem JR (P:Pk){W:Nat}{kp:Bool}(g:Gd m c X){E:Cs->Bool->Expr->FE}{T:Cs->Expr->FT}(hE:∀c X,Gd m c X->∀rf e,DE X e (E c rf e))(hT:∀c X,Gd m c X->∀e,DT X e (T c e)){B:List Stmt->FS}(hB:∀b,j8 X b (B b))(s:Stmt):
   DS X s (EM m P W kp E T B c s):=by
 have a:aeF (model X.prog X.w) X.A X.env X.xe:=by rw[g.xe];exact PassesOwn.never
 unfold EM
 split
 . exact Mn (hE c X g _ _)
 . exact QH (hT c X g _) (hB _) (hB _)
 . exact JQ P g hE hT
 . split
   . exact dg
   . rename_i h
     split
     . exact JK a g.cm (JH (hE c X g false _)) (kW g (hE c X g false) 3 _) (hB _) (oE (by simpa using h))
     exact MB a g.cm (wH P g (hE c X g false)) (kW g (hE c X g false) 3 _) (hB _) (oE (by simpa using h))
 . exact Ej W a (hT c X g _) (hB _)
 . exact Jb
 . exact Mm
 . exact Mp
 . split
   . exact dg
   . rename_i h;exact Jc (hE c X g false _) (wD (by simpa using h))
 . exact dg
theorem JS (P:Pk){W:Nat}{kp:Bool}(g:Gd m c X)(pC:List Stmt):j8 X pC (body m P W kp c pC):=by
 obtain⟨b,a⟩:=GB m P 30
 have:∀n s,DS X s (sS m P W kp (iv m P 30).1 (iv m P 30).2 c n s):=λn=>by
  induction n with
  |zero=>exact λ_=>dg
  |succ n ih=>exact λs=>JR P g b a (wM ih) s
 exact wM (this 12) pC
end
structure bf where
 nm:Str
 ps:List Str
 N:List Str
 st:Stmt
 kp:Bool
 mt:List Str
 pu:Bool
structure Mo where
 ds:List bf
 i9:List Str
 wB:List (Str×D)
 y_:List (Str×List (Str×D))
 P:Pk
 W:Nat
noncomputable def uW:Nat->List bf->List (Str×Nat×Nat)
 |_,[]=>[]
 |j,d::ds=>(d.nm,j,d.ps.length)::uW (j+1) ds
noncomputable def Mo.g (M:Mo)(T:Nat->Fn)(k:Nat):G0:=⟨T,k,uW 0 M.ds,M.i9,M.wB,M.y_⟩
noncomputable def AD (pu:Bool)(f:Fn):Fn:=if pu then nu f else f
noncomputable def bf.run (M:Mo)(d:bf)(T:Nat->Fn)(k:Nat):Fn:=AD d.pu (aA d.kp d.N.length d.ps.length (body (M.g T k) M.P M.W d.kp ⟨d.N,bC d.st,true,d.mt,[]⟩ (eV d.st)))
theorem ue:∀{ds:List bf} {j:Nat} {x:Str} {i n:Nat},(x,i,n)∈uW j ds->∃d q,i=j+q/\ds[q]? = some d/\d.nm=x/\d.ps.length=n
 | [],_,_,_,_,h=>by simp[uW]at h
 |d::ds,j,x,i,n,h=>by
  rcases aaD.mp h with h|h
  . cases h;exact⟨d,0,rfl,rfl,rfl,rfl⟩
  . obtain⟨e,q,f,c,a,b⟩:=ue h
    exact⟨e,q+1,by omega,by simpa using c,a,b⟩
structure Good (M:Mo)(T:Nat->Nat->Fn):Prop where
 z:∀j ds g,T 0 j ds g=none
 s:∀k j d,M.ds[j]? = some d->T (k+1) j=d.run M (T k) k
 sc:∀d∈M.ds,js d.N d.ps (bC d.st)
structure Bx (M:Mo)(K:KW)(f:Nat->Addr)(fd:Nat->abR):Prop where
 fn:∀j d,M.ds[j]? = some d->yn K.fr d.nm d.nm d.st (f j) (fd j)/\K.mg d.nm=some (.ref (f j))/\Binds K.fr (fd j) d.ps []
 bl:∀x∈M.i9,K.mg x=none
 cn:∀x d,(x,d)∈M.wB->∃v u,K.mg x=some u/\RelV v u /\ ∀K H ι,Rel K H ι d v
 dc:∀x t,(x,t)∈M.y_->∃a,K.mg x=some (.ref a)/\uQ K.w K a t
section
variable {M:Mo}{T:Nat->Nat->Fn}{K:KW}{f:Nat->Addr}{fd:Nat->abR}{P:aaY}{base:Heap}
theorem Good.len (G:Good M T){k j:Nat}{d:bf}(h:M.ds[j]? = some d):∀ds g r,T k j ds g=some r->ds.length=d.ps.length:=λds g r q=>by
 cases k with
 |zero=>rw[G.z]at q;cases q
 |succ k =>
  rw[G.s k j d h]at q
  unfold bf.run AD at q
  split at q
  . exact Ah (λ_ _ _=>t8 _ _ _) ds g r q
  . exact t8 ds g r q
theorem Cr (G:Good M T)(A:Bx M K f fd):∀k j d,M.ds[j]? = some d->dE P K.w K.fr K.mg base i4 k (f j) (fd j) d.ps (m9 K d.ps.length (T k j))
 | 0,j,d,h=>Jf λds g=>G.z j ds g
 |k+1,j,d,h=>by
  have ih:=Cr G A k
  obtain⟨F,hm,hb⟩:=A.fn j d h
  have S:=G.sc d (aa6 h)
  have r:d.ps.length<=d.N.length:=by have:=congrArg afc S.pre;rw[ab3]at this;omega
  have main:dE P K.w K.fr K.mg base i4 (k+1) (f j) (fd j) d.ps (m9 K d.ps.length (aA d.kp d.N.length d.ps.length (body (M.g (T k) k) M.P M.W d.kp ⟨d.N,bC d.st,true,d.mt,[]⟩ (eV d.st)))):=by
    refine QK F S r λc y outer s H E p=>?_
    have l:Gd (M.g (T k) k) ⟨d.N,bC d.st,true,d.mt,[]⟩ (mS i4 P K.w K.fr K.mg base d.N d.nm (bC d.st) (f j) c y outer s H E).ye:=⟨rfl,rfl,S.nd,rfl,rfl,p,λ_ _=>rfl,(λ_ h=>nomatch h),λx i n u=>?_,A.bl,A.cn,A.dc⟩
    . exact JS M.P l _
    obtain⟨e,q,b,a,h3,v⟩:=ue u
    have b:i=q:=by omega
    subst b h3 v
    obtain⟨F',o,eQ⟩:=A.fn i e a
    exact⟨f i,fd i,e.ps,ih i e a,o,F'.kp,eQ,G.len a⟩
  rw[G.s k j d h]
  unfold bf.run AD
  split
  . exact Jw main
  . exact main
end
noncomputable def AE (K:aaI):Sp:=λb H Q _=>∃(a:Addr) (ns:List Int),b = [.ref a]/\da K H a (ns.map V.int)/\ns.length<=63 /\ ∀H',Q (.bl true) H'
theorem uf {K:KW}{H:Hp}{ι:Ix}:∀ns:List Int,ag K H ι (ns.map D.int) (ns.map V.int)
 | []=>by simp[ag]
 |n::ns=>by
  simp only[aaX,ag]
  exact⟨_,_,rfl,by simp[Rel],uf ns⟩
theorem NF {K:KW}{fn:Fn}(h:∀ns:List Int,ns.length<=63->∃g',fn [.lst (ns.map .int)] []=some (.bl true,g'))(vs:List V)(H:Hp)(Q:VK)(E:XK)(q:AE K.fr vs H Q E):m9 K 1 fn vs H Q E:=by
 obtain⟨a,ns,rfl,c,n,j⟩:=q
 obtain⟨g',f⟩:=h ns n
 refine⟨rfl,⟨[],[],λ_=>0⟩,[],[.lst (ns.map .int)],.bl true,g',⟨ae6,rfl,(λb l=>by cases l),(λi xs z=>by simp at z)⟩,?_,f,λk o v e G r=>?_⟩
 . simp only[ag]
   refine⟨_,_,rfl,?_,rfl⟩
   simp only[Rel]
   refine⟨a,_,rfl,?_,uf ns⟩
   rcases c with c|c
   . exact .inl ⟨c,by simp,by simp⟩
   . exact .inr c
 . simp only[Rel]at r
   rw[r]
   exact j k
inductive bJ (K:aaI):List bf->List Addr->List abR->Prop
 |nil:bJ K [] [] []
 |cons {nm:Str} {ps N:List Str} {st:Stmt} {kp pu:Bool} {mt:List Str} {ds:List bf} {fs:List Addr} {hG:List abR} {f:Addr} {oc:Value} {od an:Option Addr} {sl:Array (Option Value)} {kV dc pm cd ct:Value}
  (a:ac2 K abr nm=some (some (.ref f)))
  (l:K.lookup f=some ⟨oc,od,.func (adn nm nm (jt st) (eV st) (bC st) .none kV dc pm an cd ct),sl⟩)
  (e:ae0 K cd nm=true) (k:acx K (.ref f)=true)
  (b:∀us:List Value,us.length=ps.length->bindArgs (adn nm nm (jt st) (eV st) (bC st) .none kV dc pm an cd ct) ⟨us,[]⟩=pure (ps.zip us))
  (r:bJ K ds fs hG):bJ K (⟨nm,ps,N,st,kp,mt,pu⟩::ds) (f::fs) (adn nm nm (jt st) (eV st) (bC st) .none kV dc pm an cd ct::hG)
theorem bJ.get {K:aaI}{h:Heap}{mg:Str->Option Value}(X:K.In h)(G:h.Ns abr mg){f0:Addr}{d0:abR}:∀{ds:List bf} {fs:List Addr} {hG:List abR},bJ K ds fs hG ->
  ∀j d,ds[j]? = some d->yn K d.nm d.nm d.st (fs.getD j f0) (hG.getD j d0)/\mg d.nm=some (.ref (fs.getD j f0))/\Binds K (hG.getD j d0) d.ps []
 |_,_,_,.nil,j,d,h=>by simp at h
 |_,_,_,.cons a l e k b r,0,d,h=>by
  simp at h;subst h
  exact⟨LO l e k,agN X G a,.all b⟩
 |_,_,_,.cons a l e k b r,j+1,d,h=>by
  simpa using r.get X G j d (by simpa using h)
theorem bJ.Sq {K:aaI}{d0:abR}:∀{ds:List bf} {fs:List Addr} {hG:List abR},bJ K ds fs hG->∀j d,ds[j]? = some d->∀us:List Value,us.length=d.ps.length->bindArgs (hG.getD j d0) ⟨us,[]⟩=pure (d.ps.zip us)
 |_,_,_,.nil,j,d,h=>by simp at h
 |_,_,_,.cons a l e k b r,0,d,h=>by
  simp at h;subst h
  exact b
 |_,_,_,.cons a l e k b r,j+1,d,h=>by
  simpa using r.Sq j d (by simpa using h)
theorem rC {p:List Value->Prop}(h:∀a,p [a]):∀us:List Value,us.length=1->p us
 | [a],_=>h a
theorem iN {p:List Value->Prop}(h:∀a b,p [a,b]):∀us:List Value,us.length=2->p us
 | [a,b],_=>h a b
theorem nK {p:List Value->Prop}(h:∀a b c,p [a,b,c]):∀us:List Value,us.length=3->p us
 | [a,b,c],_=>h a b c
theorem YI {p:List Value->Prop}(h:∀a b c d,p [a,b,c,d]):∀us:List Value,us.length=4->p us
 | [a,b,c,d],_=>h a b c d
theorem whole {l:adX}{w:World}{K:aaI}{h:Heap}{mg:Str->Option Value}{fa:Addr}{M:Mo}{T:Nat->Nat->Fn}{i R:Nat}{d:bf}{x:Str}{fs:List Addr}{hG:List abR}(X:K.In h)(G:h.Ns abr mg)(hd:M.ds[i]? = some d)(hx:d.ps = [x])(NG:d.nm = "law")(GF:mg "law" = some (.ref fa))
   (gd:Good M T) (L:bJ K M.ds fs hG) (bl:∀y∈M.i9,ac2 K abr y=some none)
   (cn:∀y e,(y,e)∈M.wB->∃v u,ac2 K abr y=some (some u)/\RelV v u /\ ∀K H ι,Rel K H ι e v)
   (dc:∀y t,(y,t)∈M.y_->∃a,ac2 K abr y=some (some (.ref a))/\uQ w ⟨K,w,mg⟩ a t)
   (spec:∀ns:List Int,ns.length<=63->∃g',T R i [.lst (ns.map .int)] []=some (.bl true,g')):
   ∃fd:abR,(∀(s:aat) (v:Value),ahq s fd ⟨[v],[]⟩ [(x,v)]) /\ ∀base:Heap,K.In base->base.Ns abr mg->dE l.prog w K mg base i4 R fa fd [x] (AE K):=by
 have A:Bx M ⟨K,w,mg⟩ (λj=>fs.getD j fa) (λj=>hG.getD j (hG.getD 0 default)):=⟨λj d h=>L.get X G j d h,λy f=>PySem.W.mg_none_of X G (bl y f),λy e hm=>by
   obtain⟨v,u,c,b,k⟩:=cn y e hm
   exact⟨v,u,agN X G c,b,k⟩,λy t hm=>by
   obtain⟨a,c,b⟩:=dc y t hm
   exact⟨a,agN X G c,b⟩⟩
 obtain⟨F,hm,n⟩:=A.fn i d hd
 rw[NG]at hm
 have e:fs.getD i fa=fa:=by
   have:=hm.symm.trans GF;injection this with this;injection this
 refine⟨hG.getD i (hG.getD 0 default),λs v=>.of_eq ?_,λbase _ _=>?_⟩
 . have:=L.Sq (d0:=hG.getD 0 default) i d hd [v] (by rw[hx];rfl)
   rw[this,hx];rfl
 have ok:=Cr (P:=l.prog) (base:=base) gd A R i d hd
 dsimp only at ok
 rw[e,hx]at ok
 exact dE.imp ok (NF (K:=⟨K,w,mg⟩) spec)
end RI
namespace TL
open PySem PySem.Spec PySem.SeqAt PyProof.Rows PySem.W
section
variable {prog:aaY}{w:World}{A:aaV}{E:Value->aat->Prop}{s:aat}
theorem wN {a:Addr}{p0:Array Nat}{vs out:List Value}{n:Nat}{κ:SortKind}{P:PySem.Fin->aat->Prop}(ho:s.heap.get? a=some (ab0 "list" vs.toArray n))(wO:vs.length<64)
   (hk:2<=vs.length->∀Q:SortKind->aat->Prop,Q κ { s with heap:=df s.heap a vs }->wpAny (model prog w) A (keyKind' vs.toArray) Q E { s with heap:=df s.heap a vs })
   (Ct:vs.length<2->out=vs) (gj:2<=vs.length->out=p0.toList.map λi=>vs.getD i .none) (hz:out.length<64)
   (hw:2<=vs.length->(ae_ vs.length).kasWp (agd prog w A κ vs) (λp s'=>s'={ s with heap:=df s.heap a vs }/\p=p0) { s with heap:=df s.heap a vs })
   (h:P (.done (.ret .none)) { s with heap:=afC s.heap a vs out.toArray }):
   wpAny (model prog w) A (ab1.«list.sort» ⟨[.ref a],[]⟩) P E s:=by
 rw[list_sort_plain]
 have o:a<s.heap.objs.size:=aaH ho
 refine aas (listItems_at ho rfl ?_)
 refine aas (listUpdate_at ho rfl ?_ (by rw[aaA,acr];omega) (abd _))
 obtain⟨k,l⟩:∃k,(s.heap.update a (ab4 λ_=>(#[]:Array Value))).get? a=some (ab0 "list" #[] k):=⟨_,aeU ho (λ_=>#[])⟩
 refine aas (seqEpoch_at l rfl ?_)
 refine aas (wpAny_newTuple ?_ (by show vs.length<=_;rw[acr];omega))
 refine aas (agO ?_ (abd _))
 refine aa1 ?_
 have q:(df s.heap a vs).get? a=some (ab0 "list" #[] k):=by
   unfold df
   rw[acL _ _ _ (by rw[size_push',adv];exact aaN (abe o)),acL _ _ _ (by rw[adv];exact aaN o)]
   exact l
 show wpAny (model prog w) A _ P E { s with heap:=df s.heap a vs }
 dsimp only
 have c:vs.toArray.size=vs.length:=by simp
 have y:(vs.toArray.zip vs.toArray).map (·.2)=vs.toArray:=by
   apply aid.mp
   simp[List.map_snd_zip]
 have fin:∀b:SortSt,(arrOf b).map (·.2)=out.toArray->failedOf b=none->wpAny (model prog w) A (do
     let touched:=(<- seqEpoch a) != k
     Builtin.List.listUpdate (.ref a) λ_=>(arrOf b).map (·.2)
     if let some e:=failedOf b then rule "list.sort.comparison-raised";throw e
     if touched then rule "list.sort.modified";raiseError "ValueError" "list modified during sort"
     ret .none) P E { s with heap:=df s.heap a vs }:=by
   intro b e f
   refine aas (seqEpoch_at q rfl ?_)
   rw[e,f]
   refine aas (listUpdate_at q rfl ?_ (abd _) (by rw[aaA,acr];omega))
   simp only[bne_self_eq_false,aaF,if_false]
   exact aau h
 by_cases h2:vs.toArray.size<2
 . rw[if_pos h2,if_pos h2]
   refine aas (aau ?_)
   rw[StateT.run_pure]
   refine aas (aau ?_)
   exact fin (SortSt.mk' general' (vs.toArray.zip vs.toArray) #[] 7 none) (by rw[Ct (by rw[c]at h2;exact h2)];exact y) rfl
 . rw[if_neg h2,if_neg h2]
   have j:2<=vs.length:=by rw[c]at h2;omega
   refine aas (hk j _ ?_)
   refine aas (aeK (kat_run (Q:=λb s'=>s'={ s with heap:=df s.heap a vs }/\(arrOf b).map (·.2)=out.toArray/\failedOf b=none)
     (G:=λp s'=>s'={ s with heap:=df s.heap a vs }/\p=p0)
     rfl j wO (λp b s' a1 a2 u r=>⟨r.1,?_,u⟩) (hw j)) ?_ λ_ _ x=>x)
   . rw[kat_snds rfl a2,r.2,gj j]
   . rintro⟨⟨⟩,b⟩ s' ⟨rfl,v,hf⟩
     exact fin b v hf
theorem km {l:Addr}{p0:Array Nat}{vs out:List Value}{κ:SortKind}{Q:Value->aat->Prop}(hl:s.heap.IsList l vs.toArray)(wO:vs.length<64)
  (hk:2<=vs.length->∀(h':Heap),(∀b o,s.heap.get? b=some o->h'.get? b=some o)->∀(E:Value->aat->Prop) (R:SortKind->aat->Prop),R κ { s with heap:=h' }->wpAny (model prog w) A.in1.in1 (keyKind' vs.toArray) R E { s with heap:=h' })
  (Ct:vs.length<2->out=vs) (gj:2<=vs.length->out=p0.toList.map λi=>vs.getD i .none) (hz:out.length<64)
  (hw:∀(h':Heap),(∀b o,s.heap.get? b=some o->h'.get? b=some o)->2<=vs.length->(ae_ vs.length).kasWp (agd prog w A.in1.in1 κ vs) (λp s'=>s'={ s with heap:=h' }/\p=p0) { s with heap:=h' })
  (h:Q (.ref (s.heap.objs.size+1)) { s with heap:=sortedAll s.heap vs out.toArray }):
  wpAny (model prog w) A (call (.builtin "sorted") [.ref l]) Q E s:=by
 refine afD kind_sorted plain_sorted entry_sorted (args_sorted1 _) ?_
 unfold ab1.«sorted»
 refine aas (m:=checkCount "sorted" 1 1 _) (aau ?_)
 refine aas (collect_list hl ?_ (by rw[acr];omega))
 refine aas (agO ?_ (by rw[acr];omega))
 have a:((s.heap.push (ab0 "list" #[] 0)).update s.heap.objs.size (ab4 (· ++ vs.toArray))).objs.size=s.heap.objs.size+1:=by
  rw[adv,size_push']
 have f:(((s.heap.push (ab0 "list" #[] 0)).update s.heap.objs.size (ab4 (· ++ vs.toArray))).push (ab0 "list" vs.toArray 0)).get? (s.heap.objs.size+1)=some (ab0 "list" vs.toArray 0):=by
  rw[<- a];exact aaG _ rfl
 have keep:∀b o,s.heap.get? b=some o->(((s.heap.push (ab0 "list" #[] 0)).update s.heap.objs.size (ab4 (· ++ vs.toArray))).push (ab0 "list" vs.toArray 0)).get? b=some o:=λb o q=>by
  have c:b<s.heap.objs.size:=aaH q
  rw[acL _ _ _ (by rw[a];exact aaN (abe c)),agV _ _ _ _ (aaN c),acL _ _ _ (aaN c)]
  exact q
 have e:∀b o,s.heap.get? b=some o->(df (((s.heap.push (ab0 "list" #[] 0)).update s.heap.objs.size (ab4 (· ++ vs.toArray))).push (ab0 "list" vs.toArray 0)) (s.heap.objs.size+1) vs).get? b=some o:=λb o q =>
  x6 (aaN (abe (aaH q))) (keep b o q)
 show wpAny _ _ _ _ _ { s with heap:=((s.heap.push (ab0 "list" #[] 0)).update s.heap.objs.size (ab4 (· ++ vs.toArray))).push (ab0 "list" vs.toArray 0) }
 rw[a]
 refine aas (aa1 (aa7 slot_list_sort ⟨_,f,rfl⟩ entry_list_sort (wN f wO (λz R r=>hk z _ e _ R r) Ct gj hz (λz=>hw _ e z) ⟨_,rfl,?_⟩) (args_list_sort _)))
 exact aau ⟨_,rfl,h⟩
end
noncomputable def AF {α:Type}(lt:Nat->Nat->Bool):KasT α->α
 |.ret a=>a
 |.ask i j k=>AF lt (k (lt i j))
noncomputable def gr {α:Type}(N:Nat)(p:α->Prop):KasT α->Prop
 |.ret a=>p a
 |.ask i j k=>i<N/\j<N /\ ∀b,gr N p (k b)
theorem Cu {α:Type}{lt:Nat->Nat->Bool}{N:Nat}{p:α->Prop}{cmp:Nat->Nat->(Bool->aat->Prop)->aat->Prop}{s:aat}(h:∀i j,i<N->j<N->∀C:Bool->aat->Prop,C (lt i j) s->cmp i j C s){G:α->aat->Prop}:
  ∀t:KasT α,gr N p t->G (AF lt t) s->t.kasWp cmp G s
 |.ret a,_,g=>g
 |.ask i j k,a,g=>h i j a.1 a.2.1 _ (Cu h (k (lt i j)) (a.2.2 _) g)
theorem gr.run {α:Type}{N:Nat}{p:α->Prop}{lt:Nat->Nat->Bool}:∀{t:KasT α},gr N p t->p (AF lt t)
 |.ret _,h=>h
 |.ask i j k,h=>(h.2.2 (lt i j)).run
theorem gr.bind {α β:Type}{N:Nat}{f:α->KasT β}{p:α->Prop}{q:β->Prop}:∀{t:KasT α},gr N p t->(∀a,p a->gr N q (f a))->gr N q (t.bind f)
 |.ret a,h,k=>k a h
 |.ask i j t,a,k=>⟨a.1,a.2.1,λb=>(a.2.2 b).bind k⟩
def fV (N:Nat)(p:Array Nat):Prop:=p.toList.Perm (aaz N)
theorem fV.lt {N:Nat}{p:Array Nat}(h:fV N p)(hN:0<N)(i:Nat):p.getD i 0<N:=by
 rw[Array.getD_eq_getD_getElem?]
 cases e:p[i]? with
 |none=>exact hN
 |some x =>
  have:x∈p.toList:=agz.mpr (adT e)
  exact aaL.mp (h.mem_iff.mp this)
theorem fV.rev {N:Nat}{p:Array Nat}(h:fV N p)(i j:Nat):fV N (kas_rev p i j):=((mirror_perm p i j _).toList).trans h
theorem fV.YJ {N:Nat}{p:Array Nat}(h:fV N p)(i j:Nat):fV N (bubble p i j):=((bubble_perm p i j).toList).trans h
section
variable {N:Nat}(hN:0<N)
include hN
theorem wQ {p:Array Nat}(hp:fV N p):∀f n,gr N (λ_=>True) (kas_asc p f n)
 | 0,_=>adH
 |f+1,n=>⟨hp.lt hN _,hp.lt hN _,λb=>by
  cases b
  . exact wQ hp f (n+1)
  . exact adH⟩
theorem oJ:∀f {p:Array Nat} n q,fV N p->gr N (λr=>fV N r.1) (kas_desc f p n q)
 | 0,p,n,q,hp=>hp
 |f+1,p,n,q,hp=>by
  refine⟨hp.lt hN _,hp.lt hN _,λb=>?_⟩
  cases b
  . refine⟨hp.lt hN _,hp.lt hN _,λb=>?_⟩
    cases b
    . exact oJ f _ _ hp
    . exact hp
  . simp only[if_true]
    split
    . exact oJ f _ _ (hp.rev _ _)
    . exact oJ f _ _ hp
theorem wR {p:Array Nat}{n m:Nat}(hp:fV N p):gr N (λr=>fV N r.2) (kas_tail3 n m p):=gr.bind (wQ hN (hp.rev _ _) _ _) λ_ _=>hp.rev _ _
theorem pI {p:Array Nat}{n m:Nat}(hp:fV N p):gr N (λr=>fV N r.2) (kas_descPart n m p):=gr.bind (oJ hN _ _ _ hp) λr a=>by
 split
 . exact wR hN (fV.rev a _ _)
 . exact wR hN a
theorem EO {p:Array Nat}{n:Nat}(hp:fV N p):gr N (λr=>fV N r.2) (kas_count n p):=gr.bind (wQ hN hp _ _) λm _=>by
 split
 . exact hp
 split
 . refine⟨hp.lt hN _,hp.lt hN _,λb=>?_⟩
   cases b
   . exact pI hN (hp.rev _ _)
   . exact hp
 . exact pI hN hp
theorem p8 {p:Array Nat}{k:Nat}(hp:fV N p):∀f l r,gr N (λ_=>True) (kas_place p k f l r)
 | 0,_,_=>adH
 |f+1,l,r=>by
  unfold kas_place
  split
  . exact adH
  . refine⟨hp.lt hN _,hp.lt hN _,λb=>?_⟩
    cases b
    . exact p8 hp f _ _
    . exact p8 hp f _ _
theorem Cv:∀f {p:Array Nat} k,fV N p->gr N (fV N) (kas_bin f p k)
 | 0,p,_,hp=>hp
 |f+1,p,k,hp=>gr.bind (p8 hN hp _ _ _) λl _=>Cv f _ (hp.YJ _ _)
theorem zi:gr N (fV N) (ae_ N):=gr.bind (EO hN (show(List.toArray (aaz N)).toList.Perm _ by simp)) λr a=>by
 split
 . exact Cv hN _ _ a
 . exact a
end
end TL
namespace L3
open PySem PySem.Spec PyProof.Rows L2 SeqAt
mutual
noncomputable def ltN:D->D->Option Bool
 |.int a,.int b=>some (decide (a<b))
 |.str a,.str b=>some (decide (a.cps.toList<b.cps.toList))
 |.tup xs,.tup ys=>iy (decide (xs.length<ys.length)) xs ys
 |_,_=>none
noncomputable def iy (fin:Bool):List D->List D->Option Bool
 |x::xs,y::ys=>if aJ x y=true then iy fin xs ys else ltN x y
 |_,_=>some fin
end
section
variable {X:Cx}{pins:List (Addr×Obj)}{σ:L2.St}{H:Hp}{s:aat}{ι:Ix}
mutual
theorem GI (I:Inv X pins σ H s):∀(d e:D) {A:aaV} {v w:V} {u z:Value} {k:Bool},flat d=true->flat e=true->Rel X.kw H ι d v->Rel X.kw H ι e w->RelV v u->RelV w z->A.units+dep d<cLine->ltN d e=some k->TL.lN A s u z k
 |.int a,e,A,v,w,u,z,k,_,_,r1,r2,ru,rz,_,h=>by
  cases e with
  |int b =>
   simp only[ltN,abW]at h;subst h
   simp only[Rel]at r1 r2;subst r1 r2
   obtain⟨t,rfl⟩:=ru;obtain⟨c,rfl⟩:=rz
   exact .ints a b t c
  |_=>simp[ltN]at h
 |.str a,e,A,v,w,u,z,k,_,_,r1,r2,ru,rz,_,h=>by
  cases e with
  |str b =>
   simp only[ltN,abW]at h;subst h
   simp only[Rel]at r1 r2;subst r1 r2
   obtain⟨t,rfl⟩:=ru;obtain⟨c,rfl⟩:=rz
   exact .strs a b t c
  |_=>simp[ltN]at h
 |.tup xs,e,A,v,w,u,z,k,f1,f2,r1,r2,ru,rz,hu,h=>by
  cases e with
  |tup ys =>
   simp only[ltN]at h
   simp only[Rel]at r1 r2
   obtain⟨p,vs,rfl,o,f⟩:=r1
   obtain⟨p',ws,rfl,b9,j⟩:=r2
   cases ru;cases rz
   obtain⟨x,i,r,_⟩:=I.tuple o.sq
   obtain⟨n,l,y,_⟩:=I.tuple b9.sq
   simp only[dep]at hu
   have l1:x.toArray.size=xs.length:=by rw[aaA,<- i.length,f.length]
   have q:n.toArray.size=ys.length:=by rw[aaA,<- l.length,j.length]
   refine TL.lN.tuples r y (by omega) ?_
   rw[l1,q]
   exact Cw I xs ys f1 f2 f j i l (by rw[in1_units];omega) h
  |_=>simp[ltN]at h
 |.ay,e,A,v,w,u,z,k,_,_,_,_,_,_,_,h=>by simp[ltN]at h
 |.bl _,e,A,v,w,u,z,k,_,_,_,_,_,_,_,h=>by simp[ltN]at h
 |.lst _,e,A,v,w,u,z,k,_,_,_,_,_,_,_,h=>by simp[ltN]at h
 |.de,e,A,v,w,u,z,k,_,_,_,_,_,_,_,h=>by simp[ltN]at h
 |.ref _,e,A,v,w,u,z,k,_,_,_,_,_,_,_,h=>by simp[ltN]at h
 |.aG _,e,A,v,w,u,z,k,_,_,_,_,_,_,_,h=>by simp[ltN]at h
 |.fn _,e,A,v,w,u,z,k,_,_,_,_,_,_,_,h=>by simp[ltN]at h
theorem Cw (I:Inv X pins σ H s):∀(xs ys:List D) {A:aaV} {fin k:Bool} {vs ws:List V} {us zs:List Value},aP xs=true->aP ys=true->ag X.kw H ι xs vs->ag X.kw H ι ys ws->Vals vs us->Vals ws zs->A.units+bW xs<cLine ->
  iy fin xs ys=some k->TL.Lex A s fin (us.zip zs) k
 | [],ys,A,fin,k,vs,ws,us,zs,_,_,r1,_,ru,_,_,h=>by
  simp only[ag]at r1;subst r1;cases ru
  simp only[iy,abW]at h;subst h
  simp only[ahJ];exact .nil
 |d::ds,[],A,fin,k,vs,ws,us,zs,_,_,_,r2,_,rz,_,h=>by
  simp only[ag]at r2;subst r2;cases rz
  simp only[iy,abW]at h;subst h
  simp only[ahh];exact .nil
 |d::ds,e::es,A,fin,k,vs,ws,us,zs,f1,f2,r1,r2,ru,rz,hu,h=>by
  simp only[ag]at r1 r2
  obtain⟨v,f,rfl,a,c⟩:=r1
  obtain⟨w,wr,rfl,hw,b⟩:=r2
  simp only[aP,aav]at f1 f2
  simp only[bW]at hu
  cases ru with
  |cons i8 v5 =>
   cases rz with
   |cons qO B3 =>
    have heq:=DK.qY I (A:=A) f1.1 f2.1 a hw i8 qO (by omega)
    simp only[iy]at h
    simp only[ahi]
    split at h
    . rename_i z
      rw[z]at heq
      exact .eq heq (Cw I ds es f1.2 f2.2 c b v5 B3 (by omega) h)
    . rename_i z
      rw[ahK.mpr z]at heq
      exact .ne heq (GI I d e f1.1 f2.1 a hw i8 qO (by omega) h)
end
noncomputable def wU:D->Bool
 |.int _=>true
 |_=>false
theorem wV (I:Inv X pins σ H s){prog:aaY}{w:World}{b fin:Bool}{Q:Bool->aat->Prop}:∀(xs ys:List D) {A:aaV} {k:Bool} {i:Nat} {vs ws:List V} {us zs:List Value},aP xs=true->aP ys=true->ag X.kw H ι xs vs->ag X.kw H ι ys ws->Vals vs us->Vals ws zs->A.units+bW xs<cLine ->
  (b=true->i=0->(xs.head?.all wU&&ys.head?.all wU)=true)->iy fin xs ys=some k->Q k s->PySem.W.KatLex prog w A b fin Q (us.zip zs) i s
 | [],ys,A,k,i,vs,ws,us,zs,_,_,r1,_,ru,_,_,_,h,q=>by
  simp only[ag]at r1;subst r1;cases ru
  simp only[iy,abW]at h;subst h
  simp only[ahJ];exact aix q
 |d::ds,[],A,k,i,vs,ws,us,zs,_,_,_,r2,_,rz,_,_,h,q=>by
  simp only[ag]at r2;subst r2;cases rz
  simp only[iy,abW]at h;subst h
  simp only[ahh];exact aix q
 |d::ds,e::es,A,k,i,vs,ws,us,zs,f1,f2,r1,r2,ru,rz,hu,hb,h,q=>by
  simp only[ag]at r1 r2
  obtain⟨v,p,rfl,f,l⟩:=r1
  obtain⟨n,wr,rfl,hw,j⟩:=r2
  simp only[aP,aav]at f1 f2
  simp only[bW]at hu
  cases ru with
  |cons i8 v5 =>
   cases rz with
   |cons qO B3 =>
    have heq:=DK.qY I (A:=A) f1.1 f2.1 f hw i8 qO (by omega)
    simp only[iy]at h
    simp only[ahi]
    split at h
    . rename_i z
      rw[z]at heq
      exact aie (heq _ _ _ _ (PySem.W.kat_yes (wV I ds es f1.2 f2.2 l j v5 B3 (by omega) (λ_ z=>by omega) h q)))
    . rename_i z
      rw[ahK.mpr z]at heq
      refine aie (heq _ _ _ _ (PySem.W.kat_no ?_))
      have lt:=GI I d e (A:=A) f1.1 f2.1 f hw i8 qO (by omega) h
      cases GJ:(b&&i == 0)with
      |false =>
       refine PySem.W.kat_one _ _ ?_
       refine lt _ _ _ _ ?_
       exact q
      |true =>
       simp only[aav,beq_iff_eq]at GJ
       have:=hb GJ.1 GJ.2
       simp only[List.head?_cons,Option.all_some,aav]at this
       cases d with
       |int a=>cases e with
        |int c =>
         simp only[Rel]at f hw;subst f hw
         obtain⟨t,rfl⟩:=i8;obtain⟨o,rfl⟩:=qO
         simp only[ltN,abW]at h;subst h
         exact PySem.W.kat_lt_int q
        |_=>cases this.2
       |_=>cases this.1
end
noncomputable def p9:D->Option Bool
 |.tup (.int _::_)=>some true
 |.tup (.tup _::_)=>some false
 |_=>none
noncomputable def ltB (x y:D):Bool:=(ltN x y).getD false
noncomputable def GK (xs:List D):Bool:=decide (xs.length<64)&&aP xs&&decide (bW xs<=50)&&(decide (xs.length<2)||((xs.all λx=>p9 x == some true)||xs.all λx=>p9 x == some false))&&xs.all λx=>xs.all λy=>(ltN x y).isSome
noncomputable def lS (xs:List D):List Nat:=(TL.AF (λi j=>ltB (xs.getD i .ay) (xs.getD j .ay)) (ae_ xs.length)).toList
noncomputable def lT (xs:List D):List D:=if xs.length<2 then xs else(lS xs).map λi=>xs.getD i .ay
noncomputable def nL (ds:List D)(g:G):Option (D×G):=match ds with| [d]=>(fw d g).bind λxs=>if GK xs=true then some (.lst (lT xs),g)else none|_=>none
theorem jk {xs:List D}(h:2<=xs.length):(lS xs).Perm (aaz xs.length):=(TL.zi (N:=xs.length) (by omega)).run
theorem AG {α:Type}(xs:List α)(d:α):(aaz xs.length).map (λi=>xs.getD i d)=xs:=by
 apply acR
 . simp
 . intro i b a
   simp[a]
theorem AH (xs:List D):(lT xs).Perm xs:=by
 unfold lT
 split
 . exact .refl _
 . rename_i h
   have:=(jk (xs:=xs) (by omega)).map λi=>xs.getD i .ay
   rw[AG]at this
   exact this
theorem ag.GL {K H ι}{xs:List D}{vs:List V}(r:ag K H ι xs vs):∀{is:List Nat},(∀i∈is,i<xs.length)->ag K H ι (is.map λi=>xs.getD i .ay) (is.map λi=>vs.getD i .ay)
 | [],_=>by simp[ag]
 |i::is,h=>by
  simp only[aaX,ag]
  obtain⟨v,c,a⟩:=r.get (aay (h i aaO))
  refine⟨_,_,rfl,?_,ag.GL r λj e=>h j (aaR _ e)⟩
  have f:xs.getD i .ay=xs[i]'(h i aaO):=by simp[h i aaO]
  have b:vs.getD i .ay=v:=by simp[c]
  rw[f,b];exact a
theorem Vals.pick {vs:List V}{us:List Value}(r:Vals vs us):∀{is:List Nat},(∀i∈is,i<vs.length)->Vals (is.map λi=>vs.getD i .ay) (is.map λi=>us.getD i .none)
 | [],_=>.nil
 |i::is,h=>by
  obtain⟨u,c,a⟩:=r.get (aay (h i aaO))
  refine .cons ?_ (Vals.pick r λj e=>h j (aaR _ e))
  have f:vs.getD i .ay=vs[i]'(h i aaO):=by simp[h i aaO]
  have b:us.getD i .none=u:=by simp[c]
  show RelV (vs.getD i .ay) (us.getD i .none)
  rw[f,b];exact a
section
variable {X:Cx}
theorem wW {pins:List (Addr×Obj)}{σ:L2.St}{H:Hp}{s:aat}{ι:Ix}(I:Inv X pins σ H s){b:Bool}:∀(xs:List D) {vs:List V} {us:List Value},ag X.kw H ι xs vs->Vals vs us->(∀d∈xs,p9 d=some b) ->
  ∃fs,PySem.W.KatTups s.heap us fs/\fs.length=us.length /\ ∀f∈fs,ajl (model X.prog X.w) s.heap (typeOf f) (.type (if b then "int" else "tuple"))
 | [],vs,us,r,ru,_=>by
  simp only[ag]at r;subst r;cases ru
  exact⟨[],amt,rfl,λ_ h=>by simp at h⟩
 |d::ds,vs,us,r,ru,ht=>by
  simp only[ag]at r
  obtain⟨v,vr,rfl,c,hr⟩:=r
  cases ru with
  |cons i8 v5 =>
   obtain⟨fs,y,x,z⟩:=wW I ds hr v5 λe he=>ht e (aaR _ he)
   have hd:=ht d (aaO ..)
   unfold p9 at hd
   split at hd
   . rename_i n r'
     cases hd
     simp only[Rel]at c
     obtain⟨p,vs,rfl,i,a⟩:=c
     cases i8
     obtain⟨au,k,⟨o,l,j,m,u⟩,_⟩:=I.tuple i.sq
     simp only[ag,Rel]at a
     obtain⟨v1,RV,rfl,rfl,_⟩:=a
     cases k with
     |cons ri rr =>
      obtain⟨t,rfl⟩:=ri
      refine⟨.int n t::fs,agB l j u rfl y,by simp[x],λf hf=>?_⟩
      rcases aaD.mp hf with rfl|hf
      . exact PySem.W.Looks.of_pure rfl
      . exact z f hf
   . rename_i ys r'
     cases hd
     simp only[Rel]at c
     obtain⟨p,vs,rfl,i,a⟩:=c
     cases i8
     obtain⟨au,k,⟨o,l,j,m,u⟩,_⟩:=I.tuple i.sq
     simp only[ag,Rel]at a
     obtain⟨v1,RV,rfl,⟨q,ws,rfl,qR,_⟩,_⟩:=a
     obtain⟨_,_,⟨o2,gj,gV,_⟩,_⟩:=I.tuple qR.sq
     cases k with
     |cons ri rr =>
      cases ri
      refine⟨.ref q::fs,agB l j u rfl y,by simp[x],λf hf=>?_⟩
      rcases aaD.mp hf with rfl|hf
      . show ajl _ _ (typeOf (.ref q)) (abm "tuple")
        rw[<- gV]
        exact(PySem.W.Looks.ld gj).andThen .now
      . exact z f hf
   . cases hd
theorem ER (hu:X.A.units+64<cLine):cu X (.builtin "sorted") (gX X.kw nL):=by
 intro pins s σ H xs us Q I r q
 obtain⟨ι,g,ds,d,g',G0,r1,q,p⟩:=q
 cases ds with
 |nil=>cases q
 |cons e kO =>
 cases kO with
 |cons _ _=>cases q
 |nil =>
  simp only[nL]at q
  obtain⟨f,hx,q⟩:=bind_some q
  split at q
  . rename_i z
    simp only[GK,aav,abx,decide_eq_true_eq]at z
    obtain⟨⟨⟨⟨z1,z2⟩,z3⟩,x⟩,z5⟩:=z
    cases q
    simp only[ag]at r1
    obtain⟨v,_,rfl,rv,rfl⟩:=r1
    obtain⟨a,vs,rfl,hq,n⟩:=jJ G0 rv hx
    cases r with
    |cons ru rr =>
     cases rr
     cases ru
     obtain⟨l,y,ht,ae⟩:=I.list hq
     have hlen:l.length=f.length:=by rw[<- y.length,n.length]
     have YL:vs.length=f.length:=n.length.symm
     obtain⟨b,hb⟩:∃b:Bool,2<=f.length->∀d∈f,p9 d=some b:=by
       rcases x with x|x|x
       . exact⟨true,λh=>by omega⟩
       . exact⟨true,λ_ d hd=>eq_of_beq (aaQ.mp x d hd)⟩
       . exact⟨false,λ_ d hd=>eq_of_beq (aaQ.mp x d hd)⟩
     have pm:2<=f.length->∀i∈lS f,i<f.length:=λh i hi=>aaL.mp ((jk h).mem_iff.mp hi)
     have fin:∀(out:List Value) (ov:List V),Vals ov out->ag X.kw H ι (lT f) ov->out.length<64->EP X pins σ Q (.ref (s.heap.objs.size+1)) { s with heap:=sortedAll s.heap l out.toArray }:=λout ov h1 h2 hz=>by
       obtain⟨c,hc⟩:=sortedAll_at s.heap l out.toArray
       have fv:=I.bB.fresh (adI s.heap.objs.size)
       refine⟨.ref (s.heap.objs.size+1),_,I.laid (t':=s.toks) (λb o e=>sortedAll_old e) (adI _) (show cP X.prog X.w _ _ _ (.lst ov) from⟨by rw[h1.length,acr];omega,out,c,h1,by simpa[ab0]using hc⟩),rfl,?_⟩
       refine p _ _ _ (Ext.lay fv) (G0.lay fv) ?_
       simp only[Rel]
       exact⟨_,_,rfl,.inl ⟨.inl bw,G0.fresh fv,G0.iJ fv⟩,ag.ext (Ext.lay fv) _ h2⟩
     have run:∀(u:Heap),(∀b o,s.heap.get? b=some o->u.get? b=some o)->2<=l.length->(ae_ l.length).kasWp (agd X.prog X.w X.A.in1.in1 (tuples' b) l) (λp s'=>s'={ s with heap:=u }/\p=(lS f).toArray) { s with heap:=u }:=λu hk h2=>by
       have I':Inv X pins σ H { s with heap:=u }:=I.kept (t':=s.toks) hk
       refine TL.Cu (lt:=λi j=>ltB (f.getD i .ay) (f.getD j .ay)) (N:=l.length) (λi j hi hj C hC=>?_) _ (TL.zi (by omega)) ⟨rfl,?_⟩
       . have GN:i<f.length:=by omega
         have GO:j<f.length:=by omega
         obtain⟨vi,YM,ri⟩:=n.get (aay GN)
         obtain⟨vj,YN,rj⟩:=n.get (aay GO)
         obtain⟨ui,YO,YQ⟩:=y.get YM
         obtain⟨uj,YR,YS⟩:=y.get YN
         unfold agd
         have e1:l.getD i .none=ui:=by simp[YO]
         have e2:l.getD j .none=uj:=by simp[YR]
         have e3:f.getD i .ay=f[i]:=by simp[GN]
         have e4:f.getD j .ay=f[j]:=by simp[GO]
         rw[e1,e2]
         rw[e3,e4]at hC
         have mi:=ace GN
         have mj:=ace GO
         have ti:=hb (by omega) _ mi
         have tj:=hb (by omega) _ mj
         obtain⟨fi,di⟩:=kg z2 (aay GN)
         obtain⟨fj,dj⟩:=kg z2 (aay GO)
         obtain⟨k,NJ⟩:=adm.mp (aaQ.mp (aaQ.mp z5 _ mi) _ mj)
         unfold ltB at hC
         rw[NJ]at hC
         generalize f[i]=ak at *
         generalize f[j]=ab at *
         have tup:∀{d:D},p9 d=some b->∃zs,d = .tup zs/\(b=true->zs.head?.all wU=true):=fun {d} h=>by
          unfold p9 at h
          split at h
          . exact⟨_,rfl,λ_=>rfl⟩
          . cases h;exact⟨_,rfl,λz=>by cases z⟩
          . cases h
         obtain⟨xi,rfl,bi⟩:=tup ti
         obtain⟨xj,rfl,bj⟩:=tup tj
         simp only[Rel]at ri rj
         obtain⟨pi,wi,rfl,qi,Ss⟩:=ri
         obtain⟨pj,wj,rfl,qj,Su⟩:=rj
         cases YQ;cases YS
         obtain⟨ji,Sv,⟨oi,YT,_,ai,wX⟩,_⟩:=I'.tuple qi.sq
         obtain⟨jj,Sw,⟨oj,YU,_,ah,ug⟩,_⟩:=I'.tuple qj.sq
         refine PySem.W.kat_lt YT wX YU ug ?_
         have l1:ji.toArray.size=xi.length:=by rw[aaA,<- Sv.length,Ss.length]
         have l2:jj.toArray.size=xj.length:=by rw[aaA,<- Sw.length,Su.length]
         simp only[ltN]at NJ
         rw[l1,l2]
         simp only[dep]at di
         exact wV I' xi xj fi fj Ss Su Sv Sw (by rw[in1_units,in1_units];omega) (λeQ _=>by rw[bi eQ,bj eQ];rfl) NJ hC
       . unfold lS
         rw[hlen]
     refine TL.km (κ:=tuples' b) (p0:=(lS f).toArray) (out:=if l.length<2 then l else(lS f).map λi=>l.getD i .none) ht.isList (by omega) (λh2 u hk E R hR=>?_) (λh=>if_pos h) (λh=>by rw[if_neg (by omega)]) ?_ run ?_
     . have I':Inv X pins σ H { s with heap:=u }:=I.kept (t':=s.toks) hk
       obtain⟨fs,k1,k2,k3⟩:=wW I' f n y (hb (by omega))
       refine PySem.W.kat_kind (T:=.type (if b then "int" else "tuple")) k1 (by omega) k3 (by cases b<;>rfl) ?_
       have:((abm (if b then "int" else "tuple")) != abm "tuple")=b:=by cases b<;>rfl
       rw[this];exact hR
     . split
       . omega
       . rw[aaM,(jk (xs:=f) (by omega)).length_eq,ahL];omega
     . by_cases h2:l.length<2
       . rw[if_pos h2]
         exact fin l vs y (by unfold lT;rw[if_pos (by omega)];exact n) (by omega)
       . rw[if_neg h2]
         refine fin _ _ (Vals.pick y λi hi=>by rw[YL];exact pm (by omega) i hi) ?_ (by rw[aaM,(jk (xs:=f) (by omega)).length_eq,ahL];omega)
         unfold lT
         rw[if_neg (by omega)]
         exact ag.GL n (pm (by omega))
  . cases q
end
end L3
namespace RI
open PySem PySem.Spec PyProof.Rows L2 L3
noncomputable def U3:fA:=⟨"len",cZ,λ_ _=>.inl ⟨_,MK,PySem.boot_len⟩⟩
noncomputable def U4:fA:=⟨"int",nh,λ_ _=>.inr ⟨_,MN,aiz⟩⟩
noncomputable def U5:fA:=⟨"tuple",fJ,λ_ _=>.inr ⟨_,MO,ahR⟩⟩
noncomputable def U6:fA:=⟨"list",iV,λ_ _=>.inr ⟨_,MP,agx⟩⟩
noncomputable def Q9:fA:=⟨"list",qP,λ_ _=>.inr ⟨_,Jo,agx⟩⟩
noncomputable def U7:fA:=⟨"all",fL,λ_ a=>.inl ⟨_,MS a,boot_all⟩⟩
noncomputable def U8:fA:=⟨"any",kf,λ_ a=>.inl ⟨_,JA a,boot_any⟩⟩
noncomputable def U9:fA:=⟨"sum",oC,λa _=>.inl ⟨_,Jz a.hd,boot_sum⟩⟩
noncomputable def U_:fA:=⟨"max",v7,λ_ a=>.inl ⟨_,ML a,boot_max⟩⟩
noncomputable def Va:fA:=⟨"min",v9,λ_ a=>.inl ⟨_,MM a,boot_min⟩⟩
noncomputable def Q_:oH:=⟨"get",ki,kA,λa=>⟨_,_,Nm a.units⟩⟩
noncomputable def isRef:D->Bool
 |.ref _=>true
 |_=>false
theorem p_ {X:Cx}{pins:List (Addr×Obj)}{σ:L2.St}{H:Hp}{s:aat}{ι:Ix}{g:G}{d:D}{x:V}{v:Value}(I:Inv X pins σ H s)(G0:ax X.kw H ι g)(r:Rel X.kw H ι d x)(rv:RelV x v)(h:isRef d=true):
  s.TypeIs v "list" /\ ∀a,v = .ref a->∃ob,s.heap.get? a=some ob/\ob.dict=none:=by
 cases d with
 |ref n =>
  simp only[Rel]at r
  obtain⟨a,rfl,b⟩:=r
  have e:n<g.length:=by rw[<- G0.len];exact(aaB.mp b.1).1
  obtain⟨f,c,_⟩:=G0.at (aay e) b
  exact Bw I rv (.inl ⟨rfl,f,.of c⟩)
 |_=>cases h
noncomputable def cV (d:D)(ds:List D)(g:G):Option (D×G):=match d,ds with
 |.ref n,[x]=>(g[n]?).bind λxs=>if az (xs.length+1)=true then some (.ay,g.set n (xs ++ [x]))else none
 |_,_=>none
theorem Cy {X:Cx}:MR X "list" "append" "list.append" isRef cV where
 pa:=ady
 slot:=PySem.F.slot_list_append
 ty:=PySem.F.type_list_append
 is:=p_
 run:=by
  intro pins s σ H x xs v us Q I j rs q
  obtain⟨ι,g,d,ds,l,r,G0,f,rl,k,q,p⟩:=q
  cases d with
  |ref n =>
   match ds,q,rl with
   | [y],q,rl =>
    simp only[cV]at q
    obtain⟨o,i,q⟩:=bind_some q
    split at q
    . rename_i h
      cases q
      simp only[Rel]at f
      obtain⟨a,rfl,b⟩:=f
      simp only[ag]at rl
      obtain⟨w,_,rfl,c,rfl⟩:=rl
      obtain⟨ws,hw,e⟩:=G0.at i b
      refine tT pins s σ H _ _ v us Q I j rs ⟨a,ws,w,rfl,rfl,hw,?_,?_⟩
      . have:=az.le h;rw[<- e.length];omega
      . exact p _ ι _ (Ext.put b hw) (G0.put b hw (ag.append e (by simp only[ag];exact⟨_,_,rfl,c,rfl⟩))) (by simp[Rel])
    . cases q
   | [],q,_=>cases q
   |_::_::_,q,_=>cases q
  |_=>cases k
noncomputable def ES:oH:=⟨"append",isRef,cV,λ_=>⟨_,_,Cy⟩⟩
noncomputable def jS:D->Bool
 |.lst _=>true
 |_=>false
noncomputable def iO (d:D)(ds:List D)(g:G):Option (D×G):=match d,ds with
 |.lst xs,[x]=>if(gi x&&xs.all gi)=true then(pZ xs x).map λ(j:Nat)=>(.int (j:Int),g)else none
 |_,_=>none
noncomputable def Cz (E:Expr->FE)(as:List Expr):FI:=match as with
 | [a]=>m8 (aE E [a])
 | [a,b]=>vN (aE E [a,b])
 |_=>q_
noncomputable def JT:Aw where
 nm:="range"
 tup:=false
 f:=Cz
 ok:=λl j hm e h c _=>by
  rename_i X k E i as p pos
  unfold Cz
  split
  . rename_i a
    simp only[abM,ahj,adB]at c
    exact QI e hm (g_ h _) (b5 c)
  . rename_i a b
    simp only[abM,ahj,adB,abQ]at c
    exact QJ e hm (g_ h _) (by rw[b5 c.1,b5 c.2];rfl) (b5 c.2)
  . exact sL
noncomputable def CA (E:Expr->FE)(as:List Expr):FI:=match as with
 | [a]=>jg (E a)
 |_=>q_
noncomputable def NK:Aw where
 nm:="enumerate"
 tup:=true
 f:=CA
 ok:=λl j hm c i b e=>by
  rename_i X k E h as p pos
  unfold CA
  split
  . rename_i a
    simp only[abM,ahj,adB]at b
    have:=e rfl
    cases h with
    |Tuple elts kt tp=>exact Jy c hm (i a) (b5 b)
    |_=>cases this
  . exact sL
noncomputable def ET (x:Str):Option Ty:=if x == "int" then some .int else if x == "bool" then some .bool else if x == "str" then some .str else if x == "tuple" then some .tuple else if x == "list" then some .list else if x == "dict" then some .dict else none
theorem JU {x:Str}{T:Ty}(h:ET x=some T):x=aa4 T.name:=by
 unfold ET at h
 split at h;· rename_i e;cases h;exact eq_of_beq e
 split at h;· rename_i e;cases h;exact eq_of_beq e
 split at h;· rename_i e;cases h;exact eq_of_beq e
 split at h;· rename_i e;cases h;exact eq_of_beq e
 split at h;· rename_i e;cases h;exact eq_of_beq e
 split at h;· rename_i e;cases h;exact eq_of_beq e
 cases h
noncomputable def NL:G0->Cs->(Expr->FE)->Expr->Option FT:=λ_ _ _ _=>none
noncomputable def Vb:rA where
 e:=λm c E _ x=>match x with
  |.Call (.Name f _) [a,.Name t _] [] _=>if f == "isinstance" && c.sc.names.lookup f == some .globalImplicit&&c.sc.names.lookup t == some .globalImplicit&&m.i9.elem f&&m.i9.elem t && !(isStar a)then(ET t).map λT=>fK T (E a)else none
  |_=>none
 Co:=by
  intro m c X E g b v x f h
  split at h
  . rename_i u p a t s pos
    split at h
    . rename_i i
      simp only[aav,beq_iff_eq,abc]at i
      obtain⟨⟨⟨⟨⟨l,j⟩,r⟩,k⟩,o⟩,n⟩:=i
      obtain⟨T,q,h⟩:=aaK.mp h
      subst h
      have e:=JU q
      subst l
      subst e
      exact MQ T (g.bl _ (ac7.mp k)) (g.bl _ (ac7.mp o)) (b a) (g.gl j) (g.gl r) (b5 n)
    . cases h
  . cases h
 t:=NL
 tok:=by intro m c X E g b x f h;cases h
theorem EU {X:Cx}{pins:List (Addr×Obj)}{σ:L2.St}{H:Hp}{s:aat}{ι:Ix}{g:G}{d:D}{x:V}{v:Value}(I:Inv X pins σ H s)(G0:ax X.kw H ι g)(r:Rel X.kw H ι d x)(rv:RelV x v)(h:jS d=true):
  s.TypeIs v "list" /\ ∀a,v = .ref a->∃ob,s.heap.get? a=some ob/\ob.dict=none:=by
 cases d with
 |lst xs =>
  simp only[Rel]at r
  obtain⟨a,b,rfl,c,e⟩:=r
  exact Bw I rv (.inl ⟨rfl,b,c.sq⟩)
 |_=>cases h
theorem EV {X:Cx}:MR X "list" "index" "list.index" jS iO where
 pa:=ady
 slot:=PySem.F.slot_list_index
 ty:=PySem.F.type_list_index
 is:=EU
 run:=by
  intro pins s σ H x xs v us Q I k rs q
  obtain⟨ι,g,d,ds,r,z,G0,e,rl,n,q,p⟩:=q
  cases d with
  |lst ys =>
   match ds,q,rl with
   | [y],q,rl =>
    simp only[iO]at q
    split at q
    . rename_i b
      simp only[aav]at b
      obtain⟨j,l,q⟩:=aaK.mp q
      cases q
      simp only[Rel]at e
      obtain⟨a,u,rfl,f,i⟩:=e
      simp only[ag]at rl
      obtain⟨w,_,rfl,c,rfl⟩:=rl
      obtain⟨o,_⟩:=oB b.1 c
      obtain⟨h,_⟩:=pY b.2 i
      subst o h
      exact Cf pins s σ H _ _ v us Q I k rs ⟨a,ys,y,j,rfl,f.sq,rfl,b.1,b.2,l,p H ι _ Ext.refl G0 (by simp[Rel])⟩
    . cases q
   | [],q,_=>cases q
   |_::_::_,q,_=>cases q
  |_=>cases n
noncomputable def JV:oH:=⟨"index",jS,iO,λ_=>⟨_,_,EV⟩⟩
noncomputable def CB (d:bf):Bool :=
 decide ((bC d.st).kind = .function) && !(bC d.st).isCoroutine && !(bC d.st).isGenerator&&zd d.N&&decide (d.N.take d.ps.length=d.ps) &&
 d.ps.all (λx=>(bC d.st).names.lookup x == some .local||(bC d.st).names.lookup x == some .cell)&&(bC d.st).names.all (λy=>!(y.2 == .free))
noncomputable def zj (ds:List bf):Bool:=ds.all CB
theorem CD {ds:List bf}(h:zj ds=true):∀d∈ds,js d.N d.ps (bC d.st):=λd hd=>by
 have:=aaQ.mp h d hd
 simp only[CB,aav,decide_eq_true_eq,abc,aaQ,abx,beq_iff_eq]at this
 obtain⟨⟨⟨⟨⟨⟨l,f⟩,b⟩,c⟩,j⟩,a⟩,i⟩:=this
 exact⟨l,f,b,wI c,j,a,λy k e=>by have:=i y k;rw[e]at this;simp at this⟩
def At (K:aaI)(w:World)(mg:Str->Option Value)(M:Mo):Prop:=∃fs hG,bJ K M.ds fs hG/\(∀y∈M.i9,ac2 K abr y=some none) /\
 (∀y e,(y,e)∈M.wB->∃v u,ac2 K abr y=some (some u)/\RelV v u /\ ∀K H ι,Rel K H ι e v) /\
 (∀y t,(y,t)∈M.y_->∃a,ac2 K abr y=some (some (.ref a))/\uQ w ⟨K,w,mg⟩ a t)
theorem JW {l:adX}{q:aaY}{loose:List Str}{XP:(Str->Option Value)->Heap->Prop}{YP:World->Heap->Prop}{d:DefRec}{K:Params->aaI}{M:Mo}{T:Nat->Nat->Fn}{i R:Nat}{dt:bf}{x:Str}(hn:l.most=some 63)(hr:aC R ae1)(vC:d.params.defaults = [])(fW:d.name = "law")
  (hY:∀(w:World) (h:Heap),YP w h->(K w.params).In h)
  (F:∀(w:World) (mg:Str->Option Value) (h:Heap),(K w.params).In h->h.Ns abr mg->At (K w.params) w mg M)
  (hd:M.ds[i]? = some dt) (hx:dt.ps = [x]) (NG:dt.nm = "law") (gd:Good M T)
  (spec:∀ns:List Int,ns.length<=63->∃g',T R i [.lst (ns.map .int)] []=some (.bl true,g')):
  agH q loose XP YP l.row.toRowW d [] (λf vs=>agu f vs):=
 L2.IL (n:=63) (k:=R) (x:=x) (CX:=λ_=>i4) (sp:=λw=>AE (K w.params)) hn (by decide) vC hr hY
  (λw mg p h b G c=>by
   obtain⟨fs,r,L,B,C,j⟩:=F w mg h b G
   rw[fW]at c
   exact whole b G hd hx NG c gd L B C j spec)
  (λ_ _ a ns o _ e=>⟨a,ns,rfl,e,o,λ_=>rfl⟩) λ_ _ _ _ _ z=>z
section
variable {α β:Type}{P:α->Prop}{Q:α->β->Prop}
theorem bn:∀y∈([]:List α),P y:=λy h=>by simp at h
theorem bc {x:α}{l:List α}(h:P x)(r:∀y∈l,P y):∀y∈x::l,P y:=λy z=>by
 rcases aaD.mp z with rfl|z
 . exact h
 . exact r y z
theorem Sx:∀y e,(y,e)∈([]:List (α×β))->Q y e:=λy e h=>by simp at h
theorem cc {x:α}{d:β}{l:List (α×β)}(h:Q x d)(r:∀y e,(y,e)∈l->Q y e):∀y e,(y,e)∈(x,d)::l->Q y e:=λy e z=>by
 rcases aaD.mp z with z|z
 . cases z;exact h
 . exact r y e z
end
theorem cI {K:aaI}{y:Str}{i:Int}{t:Tok}(h:ac2 K abr y=some (some (.int i t))):∃v u,ac2 K abr y=some (some u)/\RelV v u /\ ∀K H ι,Rel K H ι (.int i) v:=⟨.int i,_,h,⟨t,rfl⟩,λ_ _ _=>by simp[Rel]⟩
theorem rE {K H ι}:∀{xs:List D} {vs:List V} (k:Nat),ag K H ι xs vs->ag K H ι (xs.eraseIdx k) (vs.eraseIdx k)
 | [],vs,k,h=>by simp only[ag]at h;subst h;simp[ag]
 |x::xs,vs,k,h=>by
  simp only[ag]at h
  obtain⟨v,c,rfl,b,a⟩:=h
  cases k with
  |zero=>simpa using a
  |succ k =>
   simp only[aeo,ag]
   exact⟨v,_,rfl,b,rE k a⟩
theorem uF {K H ι}{xs:List D}{vs:List V}(h:ag K H ι xs vs):ag K H ι xs.dropLast vs.dropLast:=by
 rw[agq,agq,h.length.symm.symm]
 have:∀(n:Nat) {xs:List D} {vs:List V},ag K H ι xs vs->ag K H ι (xs.take n) (vs.take n):=λn=>by
  induction n with
  |zero=>intro xs vs _;simp[ag]
  |succ n ih =>
   intro xs vs h
   cases xs with
   |nil=>simp only[ag]at h;subst h;simp[ag]
   |cons x xs =>
    simp only[ag]at h
    obtain⟨v,c,rfl,b,a⟩:=h
    simp only[aeY,ag]
    exact⟨v,_,rfl,b,ih a⟩
 exact this _ h
noncomputable def sO (d:D)(ds:List D)(g:G):Option (D×G):=match d,ds with
 |.ref n,[]=>(g[n]?).bind λxs=>(xs[xs.length-1]?).map λy=>(y,g.set n xs.dropLast)
 |.ref n,[.int i]=>(g[n]?).bind λxs=>if(decide (-1000000<=i)&&decide (i<=1000000))=true then(afh i xs.length).bind λk=>(xs[k]?).map λy=>(y,g.set n (xs.eraseIdx k))else none
 |_,_=>none
theorem NM {X:Cx}:MR X "list" "pop" "list.pop" isRef sO where
 pa:=ady
 slot:=PySem.F.slot_list_pop
 ty:=PySem.F.type_list_pop
 is:=p_
 run:=by
  intro pins s σ H x xs v us Q I o rs q
  obtain⟨ι,g,d,ds,d',g',G0,f,rl,hT,q,p⟩:=q
  unfold sO at q
  split at q
  . rename_i n
    obtain⟨u,j,q⟩:=bind_some q
    obtain⟨y,h,q⟩:=aaK.mp q
    cases q
    simp only[Rel]at f
    obtain⟨a,rfl,b⟩:=f
    simp only[ag]at rl
    subst rl
    obtain⟨ws,hw,c⟩:=G0.at j b
    obtain⟨w,l,e⟩:=c.get h
    refine LG pins s σ H _ _ v us Q I o rs ⟨a,ws,w,rfl,rfl,hw,by rw[<- c.length];exact l,?_⟩
    exact p _ ι _ (Ext.put b hw) (G0.put b hw (uF c)) (Rel.ext (Ext.put b hw) _ e)
  . rename_i n i
    obtain⟨u,j,q⟩:=bind_some q
    split at q
    . rename_i z
      simp only[aav,decide_eq_true_eq]at z
      obtain⟨k,r,q⟩:=bind_some q
      obtain⟨y,h,q⟩:=aaK.mp q
      cases q
      simp only[Rel]at f
      obtain⟨a,rfl,b⟩:=f
      simp only[ag,Rel]at rl
      obtain⟨w0,_,rfl,rfl,rfl⟩:=rl
      obtain⟨ws,hw,c⟩:=G0.at j b
      obtain⟨w,l,e⟩:=c.get h
      refine D3 pins s σ H _ _ v us Q I o rs ⟨a,ws,i,k,w,rfl,rfl,hw,by omega,by omega,by rw[<- c.length];exact r,l,?_⟩
      exact p _ ι _ (Ext.put b hw) (G0.put b hw (rE k c)) (Rel.ext (Ext.put b hw) _ e)
    . cases q
  . cases q
noncomputable def Ra:oH:=⟨"pop",isRef,sO,λ_=>⟨_,_,NM⟩⟩
noncomputable def vE (E:Expr->FE)(v:Expr):FE:=match v with
 |.List es _=>aL mkRef (aE E es)
 |v=>E v
theorem Rb {X:Cx}{E:Expr->FE}(hE:∀e,DE X e (E e))(v:Expr):DE X v (vE E v):=by
 unfold vE
 split
 . exact BR (g_ hE _)
 . exact hE _
noncomputable def CF (E:Expr->FE):List (Option Expr)->List Expr->List (FE×FE)
 |some k::ks,v::vs=>(E k,vE E v)::CF E ks vs
 |_,_=>[]
theorem CG {X:Cx}{E:Expr->FE}(hE:∀e,DE X e (E e)):∀(ks:List (Option Expr)) (vs:List Expr),ks.all (·.isSome)=true->ks.length=vs.length->fT X ks vs (CF E ks vs)
 | [],[],_,_=>by simp[CF,fT]
 | [],_::_,_,h=>by simp at h
 |_::_,[],_,h=>by simp at h
 |none::_,_::_,h,_=>by simp at h
 |some k::ks,v::vs,h,hl=>by
  simp only[CF,fT]
  exact⟨hE k,Rb hE v,CG hE ks vs (by simpa using h) (by simpa using hl)⟩
noncomputable def Rc:rA where
 e:=λm c E _ x=>match x with
  |.Dict (k::b) vals _=>if(k::b).all (·.isSome)&&decide ((k::b).length=vals.length)&&decide ((k::b).length<=15)then some (nG (CF E (k::b) vals))else none
  |_=>none
 Co:=by
  intro m c X E g i j x f h
  split at h
  . rename_i k b vals pos
    split at h
    . rename_i a
      rw[aav,aav,decide_eq_true_eq,decide_eq_true_eq]at a
      cases h
      exact ED g.hu (CG i _ _ a.1.1 a.1.2) a.1.1 a.1.2 (by simp) a.2
    . cases h
  . cases h
 t:=NL
 tok:=by intro m c X E g i x f h;cases h
end RI
namespace PySem
namespace F
theorem gu:entryFor table "dict.update.loop" = some ab1.«dict.update.loop»:=entryFor_of_tree (by kernel_rfl)
theorem cQ:plainId "dict.update.loop" = true:=by decide +kernel
end F
theorem wY:typeLookup (.type "list") "keys" = pure none:=by rw[aeP,adS];kernel_rfl
theorem wZ {prog:aaY}{w:World}{A:aaV}{E:Value->aat->Prop}{s:aat}{a:Addr}{o:Obj}{xs:Array Value}{k:Nat}{Q:Option Value->aat->Prop}
  (hx:s.heap.get? a=some o) (hc:o.cls = .type "list") (NN:o.data = .seq xs k) (hd:o.dict=none) (hA:A.handled=none)
  (h:∀h' tk,(∀b ob,s.heap.get? b=some ob->h'.get? b=some ob)->Q none { s with heap:=h',toks:=tk }):
  wpAny (model prog w) A (getAttr? (.ref a) "keys") Q E s:=by
 obtain⟨c,aG,dat,n⟩:=o
 simp only at hc NN hd
 subst hc NN hd
 obtain⟨l,g,d,tk,os⟩:=s
 have i:∀j,(⟨l,g,d,j,os⟩:aat).TypeIs (.ref a) "list":=λ_=>⟨_,hx,rfl⟩
 have f1:=sub_AttributeError
 have q:=F.slot_list_getattribute.lookup
 have f4:=F.slot_list_getattribute.bind (.ref a)
 have u:=am_list_getattr_none
 unfold getAttr? getAttrBy? getAttrBy
 repeat (any_goals (first|assumption|exact i _| ((with_reducible show wpAny _ _ (call (Value.builtin "list.__getattribute__") _ _) _ _ _);refine adb F.slot_list_getattribute (i _) am_entry_list_getattribute (F.args_list_getattribute_2 _ _) (meets_getattribute_miss_list a xs k n "keys" _ wY (by decide) (by size_fits)) ⟨hx,hA,λh' j e f=>?_⟩)|wp_step))
 obtain⟨r,p,he⟩:=f.there
 show wpAny _ _ (getattributeRaised _ _ _ _ _ _ _) _ _ _
 unfold getattributeRaised
 repeat (any_goals (first|assumption|wp_step))
 exact h _ _ f.keeps
end PySem
namespace L3
open PySem PySem.Spec PyProof.Rows L2 SeqAt DK
noncomputable def AI:D->Option (D×D)
 |.tup [k,v]=>some (k,v)
 |_=>none
noncomputable def jl:List D->Option (List (D×D))
 | []=>some []
 |d::ds=>(AI d).bind λp=>(jl ds).map λr=>p::r
noncomputable def lU:Fn:=λds g=>match ds with
 | [.lst ps]=>(jl ps).bind λa=>(putAll g.length a (g ++ [[]])).map λb=>(.aG g.length,b)
 |_=>none
section
variable {X:Cx}{pins:List (Addr×Obj)}{σ:L2.St}
theorem w4 {A:aaV}{E:Value->aat->Prop}{P:aat->Prop}(hu:A.units+32<cLine)(hh:A.handled=none){a l it:Addr}{n:Nat}{ps:List D}{vs:List V}:∀(qs:List (D×D)) (i:Nat) {s:aat} {H:Hp} {ι:Ix} {g g':G},Inv X pins σ H s->ax X.kw H ι g->dk ι n a true->j7 X.kw H ι l vs->ag X.kw H ι ps vs->jl (ps.drop i)=some qs->putAll n qs g=some g' ->
  s.heap.IsListIter it l i->gU X pins H it ->
  (∀s' H',Inv X pins σ H' s'->Ext H ι H' ι->ax X.kw H' ι g'->P s') ->
  aek (model X.prog X.w) A (.builtin "dict.update.loop" ⟨[.ref a,.ref it,.int i 0,.none],[]⟩) (wants (λr s₂=>r = .none/\P s₂) E) s
 | [],i,s,H,ι,g,g',I,G0,ha,hq,hr,h,f,hit,hf,p=>by
  cases f
  have hd:ps.drop i = []:=by
    cases e:ps.drop i with
    |nil=>rfl
    |cons x r=>rw[e]at h;simp only[jl]at h;obtain⟨_,_,h⟩:=bind_some h;obtain⟨_,_,h⟩:=aaK.mp h;cases h
  obtain⟨au,bz,pl,hz⟩:=I.list hq.sq
  have hlen:au.length<=i:=by rw[<- bz.length,<- hr.length];exact List.drop_eq_nil_iff.mp hd
  refine acb F.gu ?_
  rw[abP F.cQ _]
  show wpAny _ A.in1 (adQ (.ref it) >>= _) _ _ s
  refine aas (agg hh hit pl.isList (by simp;omega) λh' hx=>?_)
  show wpAny _ A.in1 (Builtin.Dict.addKeywords a [] >>= _) _ _ _
  exact aas (aau (aau ⟨rfl,p _ H (I.turned (t':=s.toks) (λb o hb q=>hx b o hb q) hf.1 hf.2.1 hf.2.2.2.1 hf.2.2.2.2.1 hf.2.2.2.2.2) Ext.refl G0⟩))
 | (k,v)::qs,i,s,H,ι,g,g',I,G0,ha,hq,hr,h,f,hit,hf,p=>by
  obtain⟨x,r,hd,GP,NO⟩:∃x r,ps.drop i=x::r/\AI x=some (k,v)/\jl r=some qs:=by
    cases e:ps.drop i with
    |nil=>rw[e]at h;simp[jl]at h
    |cons x r =>
      rw[e]at h;simp only[jl]at h
      obtain⟨p0,h1,h⟩:=bind_some h
      obtain⟨r0,h2,h⟩:=aaK.mp h
      cases h
      exact⟨x,r,rfl,h1,h2⟩
  have hi:ps[i]? = some x:=by
    have:=congrArg (λl=>l[0]?) hd
    simpa using this
  have GQ:ps.drop (i+1)=r:=by
    have:=congrArg List.tail hd
    simpa using this
  have hx:x = .tup [k,v]:=by
    unfold AI at GP
    split at GP
    . cases GP;rfl
    . cases GP
  subst hx
  obtain⟨au,bz,pl,hz⟩:=I.list hq.sq
  obtain⟨w,hw,ab⟩:=hr.get hi
  obtain⟨u,YV,ru⟩:=bz.get hw
  simp only[Rel]at ab
  obtain⟨b,us,rfl,YW,Sy⟩:=ab
  cases ru
  simp only[ag]at Sy
  obtain⟨kv,_,rfl,rk,vv,_,rfl,rv,rfl⟩:=Sy
  refine acb F.gu ?_
  rw[abP F.cQ _]
  show wpAny _ A.in1 (adQ (.ref it) >>= _) _ _ s
  refine aas (af6 hit pl.isList (by simpa using YV) λh' lL sb=>?_)
  have I1:Inv X pins σ H { s with heap:=h' }:=I.turned (t':=s.toks) (λb o hb e=>sb.extBut b o hb e) hf.1 hf.2.1 hf.2.2.2.1 hf.2.2.2.2.1 hf.2.2.2.2.2
  obtain⟨lA,Rf,⟨o,h1,h2,m,h3⟩,_⟩:=I1.tuple YW.sq
  obtain⟨ku,vu,rfl,Nn,YX⟩:∃ku vu,lA = [ku,vu]/\RelV kv ku/\RelV vv vu:=by
    cases Rf with
    |cons a1 r1=>cases r1 with
      |cons a2 r2=>cases r2;exact⟨_,_,rfl,a1,a2⟩
  show wpAny _ A.in1 (adh [.ref b] _ >>= _) _ _ _
  refine aas (aa1 ?_)
  refine aas (wpAny_tryCatch ?_)
  unfold Builtin.Dict.pairItems
  refine aas (adq ⟨o,h1,h2⟩ ?_)
  rw[if_pos (by decide)]
  refine aas (ae7 h1 h3 (aau ?_))
  simp only[putAll]at f
  obtain⟨g1,y,f⟩:=bind_some f
  simp only[iq]at y
  obtain⟨xs,t9,y⟩:=bind_some y
  split at y
  . rename_i hk
    simp only[aav]at hk
    cases y
    obtain⟨es,RW,c,j,jO,cR,nF,YY,nd,sy,sz,rl⟩:=G0.pB t9 ha
    have en:=Ent.of nF YY rl
    have mF:=az.le hk.2
    rw[sG en]at mF
    refine aa1 ?_
    refine nE I1 (by rw[in1_units];omega) j cR sz en nd hk.1 rk Nn rv YX λtk Gn b7 e1 e2 e3 e0 e4 e5=>?_
    refine aau ⟨adC F.cQ _,?_⟩
    have x1:Ext H ι (upd H a (dO a b7 c)) ι:=Ext.put ha j
    have fG:it≠a:=λz=>by rw[z]at hf;rw[hf.1]at j;cases j
    have:=w4 (P:=P) hu hh qs (i+1) (p5 (tk:=tk) I1 j e4 e5) (p6 G0 ha jO j e1 e2 sy e0 (by omega)) ha (hq.ext x1) (ag.ext x1 _ hr) (by rw[GQ];exact NO) f (lL.at λo q=>by rw[e5.2 it fG];exact q) ⟨by rw[aR fG];exact hf.1,hf.2⟩ (E:=E) λs' H' I' x' G'=>p s' H' I' (x1.trans x') G'
    exact this
  . cases y
theorem JX {k:Nat}(hr:aC k X.A):cu X (.type "dict") (gX X.kw lU):=by
 intro pins s σ H xs us Q I r q
 obtain⟨ι,g,ds,d,g',G0,r1,q,p⟩:=q
 unfold lU at q
 split at q
 . rename_i ps
   obtain⟨qs,Ng,q⟩:=bind_some q
   obtain⟨g2,L5,q⟩:=aaK.mp q
   cases q
   simp only[ag]at r1
   obtain⟨v,_,rfl,z,rfl⟩:=r1
   simp only[Rel]at z
   obtain⟨l,vs,rfl,hq,GR⟩:=z
   obtain⟨u,rfl,ru⟩:=vals1 r
   cases ru
   have hf:H s.heap.objs.size=none:=I.bB.fresh (aaC _)
   have n:∀h:Heap,(h.push { cls:=.type "dict",data:=.dict #[] }).get? h.objs.size=some { cls:=.type "dict",data:=.dict #[] }:=λh=>aaG _ rfl
   have I1:Inv X pins σ (upd H s.heap.objs.size (dO s.heap.objs.size [] 0)) { s with heap:=s.heap.push { cls:=.type "dict",data:=.dict #[] } }:=I.laid (t':=s.toks) (λb u e=>aaw _ e) (aaC _) ⟨n _,⟨_,n _⟩,λi c q k=>k _ q⟩
   have f:Ext H ι (upd H s.heap.objs.size (dO s.heap.objs.size [] 0)) (ι.more s.heap.objs.size 1):=Ext.gA (b:=1) hf
   have G1:ax X.kw (upd H s.heap.objs.size (dO s.heap.objs.size [] 0)) (ι.more s.heap.objs.size 1) (g ++ [[]]):=G0.gA hf (.d 0 [] [] (abd _) .nil .nil (by simp[aW]) (beq_eq_false_iff_ne.mpr (acg (aaN (big I)))) (abd _)) (by simp[ag])
   have kT:dk (ι.more s.heap.objs.size 1) g.length s.heap.objs.size true:=dk.new G0.len
   refine callType_codes (Q₁:=λobj s₁=>obj = .ref s.heap.objs.size/\s₁={ s with heap:=s.heap.push { cls:=.type "dict",data:=.dict #[] } }) F.kt_called_dict (F.kt_typeCall_dict_1 _) F.entry_dict_init (kt_code_dict_new _ ⟨rfl,rfl⟩) ?_
   rintro obj s₁ ⟨rfl,rfl⟩
   have hT:agM { s with heap:=s.heap.push { cls:=.type "dict",data:=.dict #[] } } (.ref s.heap.objs.size) "dict":=⟨_,n _,rfl⟩
   refine⟨hT,F.args_dict_init_2 _ _,?_⟩
   unfold ab1.«dict.__init__»
   refine aas ?_
   unfold Builtin.Dict.selfAndRest
   refine aas (aeH hT ?_)
   show wpAny _ _ (pure (s.heap.objs.size,[adE l])) _ _ _
   refine aau ?_
   show wpAny _ _ (afV "dict.__init__" s.heap.objs.size (.ref l) [] .none) _ _ _
   unfold afV
   have x:=hq.ext f
   obtain⟨au,bz,y,hz⟩:=I1.list x.sq
   obtain⟨o,m,i,c,h3,h4⟩:=id y
   refine aas (adq ⟨o,i,c⟩ ?_)
   rw[if_pos (by decide)]
   refine aas (wZ (A:=X.A.in1.in1) i c h4 h3 (by simp[hr.hd]) λh' a hk=>?_)
   rw[if_pos (by rfl)]
   have j:Inv X pins σ (upd H s.heap.objs.size (dO s.heap.objs.size [] 0)) { s with heap:=h',toks:=a }:=I1.kept (t':=a) hk
   refine aas (ab8 (aas (aeq (y.keeps hk).isList ?_)))
   have I3:Inv X pins σ (upd H s.heap.objs.size (dO s.heap.objs.size [] 0)) { s with heap:=h'.push { cls:=.type "list_iterator",data:=.fields #[.ref l,.int 0 0] },toks:=a }:=j.kept (t':=a) λb u e=>aaw _ e
   refine aau ⟨adC F.cQ _,?_⟩
   refine w4 (A:=X.A.in1) (by rw[in1_units];have:=hr.units;omega) (by simp[hr.hd]) qs 0 I3 G1 kT x (ag.ext f _ GR) Ng L5 ⟨_,aaG _ rfl,rfl,rfl⟩ (j.mO (aaC _) (j.bB.fresh (aaC _))) λs' H' I' x' G'=>?_
   refine⟨.ref s.heap.objs.size,H',I',rfl,p H' _ _ (f.trans x') G' ?_⟩
   simp only[Rel]
   exact⟨_,rfl,kT⟩
 . cases q
end
end L3
namespace HX
open PySem
noncomputable def rl (x:Nat):Nat:=(x*2147483648) % 18446744073709551616+x / 8589934592
noncomputable def gx (w:Nat):Nat:=let y:=((w+18446744073709551616-2870177450013471924) % 18446744073709551616)*614540362697595703 % 18446744073709551616;y % 2147483648*8589934592+y / 2147483648
noncomputable def out (w:Nat):Int:=if(w == 18446744073709551616-1)=true then 1546275796 else if w<9223372036854775808 then(w:Int)else(w:Int)-18446744073709551616
end HX
set_option maxRecDepth 10000
namespace HX
open PySem
theorem el (a b:Int):[a,b].length=2:=rfl
theorem ec:((18446744073709551616:Nat):Int)=18446744073709551616:=rfl
end HX
namespace L3
open PySem PySem.Spec PyProof.Rows L2 SeqAt DK HX
end L3
namespace L3
open PySem PySem.Spec PyProof.Rows L2
end L3
namespace RI
open PySem PySem.Spec PyProof.Rows L2 L3
noncomputable def GU:fA:=⟨"dict",lU,λa _=>.inr ⟨_,JX a,aii⟩⟩
end RI
namespace PySem
end PySem
namespace L3
open PySem PySem.Spec PyProof.Rows L2 SeqAt DK
end L3
namespace DK
open PySem PySem.Spec PyProof.Rows L2 L3
end DK
namespace L3
open PySem PySem.Spec PyProof.Rows L2 SeqAt DK
end L3
namespace L3
open PySem PySem.Spec PyProof.Rows L2
abbrev CI:Ix:=⟨[],[],λ_=>0⟩
theorem jH.i0 {K H ι a xs}(h:jH K H ι a xs):jH K H CI a xs:=by
 rcases h with⟨h,_⟩|h
 . exact .inl ⟨h,by simp⟩
 . exact .inr h
theorem j7.i0 {K H ι a xs}(h:j7 K H ι a xs):j7 K H CI a xs:=by
 rcases h with⟨h,_⟩|h
 . exact .inl ⟨h,by simp,by simp⟩
 . exact .inr h
mutual
theorem Rel.i0 {K H ι}:∀(d:D) {v:V},flat d=true->Rel K H ι d v->Rel K H CI d v
 |.ay,v,_,h=>by simpa[Rel]using h
 |.bl _,v,_,h=>by simpa[Rel]using h
 |.int _,v,_,h=>by simpa[Rel]using h
 |.str _,v,_,h=>by simpa[Rel]using h
 |.tup xs,v,f,h=>by
  simp only[Rel]at h ⊢
  obtain⟨a,b,i,c,e⟩:=h
  exact⟨a,b,i,c.i0,ag.i0 xs (by simpa[flat]using f) e⟩
 |.lst xs,v,f,h=>by
  simp only[Rel]at h ⊢
  obtain⟨a,b,i,c,e⟩:=h
  exact⟨a,b,i,c.i0,ag.i0 xs (by simpa[flat]using f) e⟩
 |.de,v,f,h=>by cases f
 |.ref n,v,f,h=>by cases f
 |.aG n,v,f,h=>by cases f
 |.fn x,v,f,h=>by cases f
theorem ag.i0 {K H ι}:∀(ds:List D) {vs:List V},aP ds=true->ag K H ι ds vs->ag K H CI ds vs
 | [],vs,_,h=>by simpa[ag]using h
 |d::ds,vs,f,h=>by
  simp only[aP,aav]at f
  simp only[ag]at h ⊢
  obtain⟨v,b,e,a,c⟩:=h
  exact⟨v,b,e,Rel.i0 d f.1 a,ag.i0 ds f.2 c⟩
end
noncomputable def dr (d:D)(g:G):D:=match d with
 |.ref n=>(match g[n]? with|some xs=>.lst xs|none=>.ref n)
 |d=>d
theorem CJ {K H ι g d v}(G0:ax K H ι g)(r:Rel K H ι d v)(f:flat (dr d g)=true):Rel K H CI (dr d g) v:=by
 cases d with
 |ref n =>
  cases hx:g[n]? with
  |none =>
   have e:dr (.ref n) g = .ref n:=by simp only[dr,hx]
   rw[e]at f
   cases f
  |some xs =>
   have e:dr (.ref n) g = .lst xs:=by simp only[dr,hx]
   rw[e]at f ⊢
   simp only[Rel]at r
   obtain⟨a,rfl,h⟩:=r
   obtain⟨c,b,i⟩:=G0.at hx h
   simp only[Rel]
   exact⟨a,c,rfl,.inl ⟨.inl b,by simp,by simp⟩,ag.i0 xs (by simpa[flat]using f) i⟩
 |_=>exact Rel.i0 _ f r
noncomputable def kC (d1 d2:D)(g:G):Option (D×G):=if(flat (dr d1 g)&&flat (dr d2 g)&&decide (dep (dr d1 g)<=60)&&ub (dr d1 g) (dr d2 g))=true then some (.bl (!aJ (dr d1 g) (dr d2 g)),g)else none
theorem CK {X:Cx}(hu:X.A.units+64<cLine):aY X (aa8 .NotEq) (cC X.kw kC):=by
 intro pins s σ H x y v u Q I c b q
 obtain⟨ι,g,i,f,d,h,G0,e,a,q,p⟩:=q
 unfold kC at q
 split at q
 . rename_i z
   simp only[aav,decide_eq_true_eq]at z
   cases q
   exact Cc I _ _ z.2 z.1.1.1 z.1.1.2 (CJ G0 e z.1.1.1) (CJ G0 a z.1.1.2) c b (by omega) _ _ _ _ ⟨.bl _,H,I,rfl,p H ι _ Ext.refl G0 (by simp[Rel])⟩
 . cases q
end L3
namespace PySem
namespace F
end F
section
variable {prog:aaY}{w:World}{A:aaV}{E:Value->aat->Prop}{s:aat}
theorem AJ {x:Value}{Q:List Value->aat->Prop}
  (h:∀R:Result->aat->Prop,(∀(h':Heap) (tk:Nat) (pQ:Array Value) (c':Nat),h'.get? s.heap.objs.size=some { cls:=.type "list",dict:=none,data:=.seq pQ c',slots:=#[] }->Q pQ.toList { s with heap:=h',toks:=tk }->R (.ok (.ret (.ref s.heap.objs.size))) { s with heap:=h',toks:=tk }) ->
   wpAny (model prog w) A.in1 (acZ (.ref s.heap.objs.size) x (.ref s.heap.objs.size))
    (λfin s'=>match fin with|.done f=>R (.ok f) s'|.again c'=>c'.quiet=true/\aek (model prog w) A c' R s') (λe s'=>R (.error e) s') { s with heap:=s.heap.push { cls:=.type "list",data:=.seq #[] } }):
  wpAny (model prog w) A (agi x) Q E s:=by
 unfold agi
 refine aas (agj (acb F.entry_proto_collect ?_))
 rw[abP F.plain_proto_collect _]
 show wpAny _ A.in1 (newList [] >>= λl=>again (.builtin "list.__iadd__" ⟨[l,x],[]⟩)) _ _ s
 refine aas (aba ?_)
 refine aau ⟨adC F.plain_list_iadd _,acb F.entry_list_iadd ?_⟩
 rw[abP F.plain_list_iadd _]
 show wpAny _ A.in1 (acZ (.ref s.heap.objs.size) x (.ref s.heap.objs.size)) _ _ _
 refine h (wants _ E) λh' tk pQ c' b a=>?_
 show wpAny _ A (load s.heap.objs.size >>= _) _ _ _
 refine aas (wpAny_load b ?_)
 exact aau a
end
end PySem
namespace L3
open PySem PySem.Spec PyProof.Rows L2
end L3
namespace TL
open PySem PySem.Spec PySem.SeqAt PyProof.Rows PySem.W
end TL
namespace L3
open PySem PySem.Spec PyProof.Rows L2 SeqAt
end L3
namespace PySem
namespace F
theorem sP:isSubtype (.type "tuple") (.type "set")=pure false:=by rw[ae2];kernel_rfl
theorem lV:isSubtype (.type "tuple") (.type "frozenset")=pure false:=by rw[ae2];kernel_rfl
end F
end PySem
namespace PyProof.Rows
open PySem
section
variable {prog:aaY}{w:World}{A:aaV}{E:Value->aat->Prop}{s:aat}
theorem EW {h:Heap}{a:Addr}{vs:List Value}{n:Nat}{out:Array Value}(ho:h.get? a=some (ab0 "list" vs.toArray n)):∃c,(afC h a vs out).get? a=some (ab0 "list" out c):=by
 unfold afC
 have f:a<h.objs.size:=aaH ho
 have b:=aeU ho (λ_=>#[])
 have e:=aaw (ab0 "list" #[] 0) (aaw (ab0 "tuple" vs.toArray 0) b)
 exact⟨_,aeU e (λ_=>out)⟩
theorem CL {h:Heap}{a b:Addr}{vs:List Value}{out:Array Value}{o:Obj}(hb:b≠a)(e:h.get? b=some o):(afC h a vs out).get? b=some o:=by
 unfold afC
 rw[ab6 _ _ hb.symm]
 exact aaw _ (aaw _ ((ab6 _ _ hb.symm).trans e))
theorem km {x:Value}{ns:List Int}{Q:Value->aat->Prop}(wO:ns.length<64)
  (hc:∀(A':aaV) (E':Value->aat->Prop) (Q':List Value->aat->Prop),A'.handled=A.handled->(∀(h':Heap) (tk:Nat) (vs:List Value),(∀b o,s.heap.get? b=some o->h'.get? b=some o)->s.heap.objs.size<=h'.objs.size->acK vs ns->Q' vs { s with heap:=h',toks:=tk })->wpAny (model prog w) A' (agi x) Q' E' s)
  (h:∀(h':Heap) (tk L c:Nat) (out:Array Value),(∀b o,s.heap.get? b=some o->h'.get? b=some o)->s.heap.objs.size<=L->h'.get? L=some (ab0 "list" out c)->acK out.toList (abk ns)->Q (.ref L) { s with heap:=h',toks:=tk }):
  wpAny (model prog w) A (call (.builtin "sorted") [x]) Q E s:=by
 refine afD kind_sorted plain_sorted entry_sorted (args_sorted1 _) ?_
 unfold ab1.«sorted»
 refine aas (m:=checkCount "sorted" 1 1 _) (aau ?_)
 refine aas (hc _ _ _ rfl λa r vs l k hI=>?_)
 have n:vs.length<64:=by rw[hI.length];exact wO
 refine aas (agO ?_ (by rw[acr];omega))
 have f:(a.push (ab0 "list" vs.toArray 0)).get? a.objs.size=some (ab0 "list" vs.toArray 0):=aaG _ rfl
 refine aas (aa1 (aa7 slot_list_sort ⟨_,f,rfl⟩ entry_list_sort (list_sort_tree f hI n λout p a1 a2 j=>⟨_,rfl,?_⟩) (args_list_sort _)))
 have e:=aeC a2 j
 subst e
 obtain⟨c,hc⟩:=EW (out:=out) f
 refine aau ⟨_,rfl,h _ _ a.objs.size c out (λb o q=>?_) k hc a1⟩
 have i:=l b o q
 exact CL (aaN (aaH i)) (aaw _ i)
theorem x8 {it:Addr}{items:Array Value}{Q:List Value->aat->Prop}(ht:s.heap.IsTuple it items)(hsz:items.size<=aaP)
  (hQ:∀(h':Heap) (tk:Nat),(∀b o,s.heap.get? b=some o->h'.get? b=some o)->s.heap.objs.size<=h'.objs.size->Q items.toList { s with heap:=h',toks:=tk }):
  wpAny (model prog w) A (agi (.ref it)) Q E s:=by
 obtain⟨o,i,k,n,hd⟩:=ht
 refine AJ λR j=>?_
 have f:(s.heap.push { cls:=.type "list",data:=.seq #[] }).get? s.heap.objs.size=some { cls:=.type "list",data:=.seq #[] 0 }:=aaG _ rfl
 have a:=aeU (c:="list") (xs:=#[]) (n:=0) f (· ++ items)
 refine wpAny_extend_seq (hsz:=hsz) (s:={ s with heap:=s.heap.push { cls:=.type "list",data:=.seq #[] } }) _ it _ 0 (T:="tuple") (.inr rfl) f (aaw _ i) k hd ?_
 have e:((#[]:Array Value)++items)=items:=by simp
 refine j _ s.toks items _ (a.trans (by rw[e])) (hQ _ s.toks (λb l h=>(ab6 _ _ (ag4 (aaH h))).trans (aaw _ h)) ?_)
 rw[adv,aci]
 exact adI _
end
end PyProof.Rows
namespace L3
open PySem PySem.Spec PyProof.Rows L2 SeqAt DK
noncomputable def uX (xs:List D)(g:G):Option (D×G):=(dB xs).bind λns=>if ns.length<64 then some (.lst ((abk ns).map .int),g)else none
noncomputable def iP (ds:List D)(g:G):Option (D×G):=match ds with
 | [.tup xs]=>uX xs g
 |ds=>nL ds g
section
variable {X:Cx}
theorem EX (hh:X.A.handled=none)(hu:X.A.units+64<cLine):cu X (.builtin "sorted") (gX X.kw iP):=by
 intro pins s σ H xs us Q I r q
 obtain⟨ι,g,ds,d,y,G0,j,q,p⟩:=q
 have fin:∀{ns:List Int},ns.length<64->d = .lst ((abk ns).map .int)->y=g->∀(e:Heap) (f L c:Nat) (out:Array Value),(∀b o,s.heap.get? b=some o->e.get? b=some o)->s.heap.objs.size<=L->e.get? L=some (ab0 "list" out c)->acK out.toList (abk ns)->EP X pins σ Q (.ref L) { s with heap:=e,toks:=f }:=by
   intro ns z e1 e2 e f L c out i x hc hO
   subst e1 e2
   have h:=I.bB.fresh x
   have ym:((abk ns).map V.int).length<=aaP:=by
     rw[aaM,(aej ns).length_eq];exact abt (adk z) (by decide)
   refine⟨.ref L,_,I.laid (t':=f) i x (show cP X.prog X.w _ _ _ (.lst ((abk ns).map V.int)) from⟨ym,out.toList,c,gJ hO,by simpa[ab0]using hc⟩),rfl,p _ _ _ (Ext.lay h) (G0.lay h) ?_⟩
   simp only[Rel]
   exact⟨_,_,rfl,.inl ⟨.inl bw,G0.fresh h,G0.iJ h⟩,lM _⟩
 unfold iP at q
 split at q
 . rename_i ys
   unfold uX at q
   obtain⟨ns,hn,q⟩:=bind_some q
   split at q
   . rename_i z
     cases q
     simp only[ag]at j
     obtain⟨v,_,rfl,n,rfl⟩:=j
     obtain⟨u,rfl,ru⟩:=vals1 r
     simp only[Rel]at n
     obtain⟨a,vs,rfl,hq,hr⟩:=n
     cases ru
     obtain⟨au,l,ht,hz⟩:=I.tuple hq.sq
     have hA:=iL hn hr l
     refine km z (λA' E' Q' GV k=>x8 ht (by rw[aaA,<- l.length];exact hz) λe f i sz=>k e f _ i sz (by simpa using hA)) (fin z rfl rfl)
   . cases q
 . exact ER hu pins s σ H xs us Q I r ⟨ι,g,_,d,y,G0,j,q,p⟩
noncomputable def JY:V->List V->Hp->VK->Prop:=λx a H Q=>∃l xs i y,x = .ref l/\a = [.int i,y]/\H l=some (.lst xs)/\0<=i/\i<=1000000/\xs.length<aaP/\Q .ay (upd H l (.lst (xs.take i.toNat++y::xs.drop i.toNat)))
theorem CM:F0 X "list.insert" JY:=by
 intro pins s σ H x vs v us Q I o f h
 obtain⟨l,xs,i,y,rfl,rfl,c,h1,p,NQ,q⟩:=h
 cases o
 obtain⟨u0,u,rfl,k,j⟩:=L2.Vals.two f
 obtain⟨t,rfl⟩:=k
 obtain⟨z,a,n,r,hl,e⟩:=I.zU c
 refine adb afS ⟨_,e,rfl⟩ PySem.F.entry_list_insert (PySem.F.args_list_insert_3 _ _ _)
   (PySem.AutoSeq1.list_insert_list_int_val_1 l a.toArray n i t u (by rw[fitsIndex_both (by omega) (by omega)];decide) (by rw[aaA];omega)) ⟨e,?_⟩
 refine⟨.ay,_,I.zT (its':=a.take i.toNat++u::a.drop i.toNat) c e ?_ ((r.take _).append (.cons j (r.drop _))) ?_,rfl,q⟩
 . have h0:¬i<0:=by omega
   rw[if_neg h0]
   apply aid.mp
   by_cases hc:i.toNat<=a.length
   . simp[Nat.min_eq_left hc,afE]
     exact abS (by rw[adp];exact aaC _)
   . have b:a.length<=i.toNat:=by omega
     simp[Nat.min_eq_right b,abS b,List.drop_of_length_le b,afE]
 . simp only[acd,adt,ab3,adp]
   omega
end
end L3
namespace SJ
open PySem PySem.Spec PyProof.Rows SW
theorem ij.at {h h':Heap}{a:Addr}{led:Bool}{ks:List Int}(hS:ij h a led ks)(k:∀o,h.get? a=some o->h'.get? a=some o):ij h' a led ks:=by
 obtain⟨b,c,P,l,e,r⟩:=hS
 exact⟨b,c,P,l,k _ e,r⟩
noncomputable def cw (val:Nat->Int):Nat->List Int
 | 0=>[]
 |i+1=>pz (cw val i) (val i)
theorem nM (val:Nat->Int):∀i,(cw val i).length<=i
 | 0=>aaC _
 |i+1=>by
  have:=nM val i
  unfold cw pz
  split
  . omega
  . simp;omega
section
variable {prog:aaY}{w:World}{A:aaV}{R:Result->aat->Prop}{I:Addr}{fp wr:List Addr}{G:Array GenState->Array GenState->Prop}{n:Nat}{P:Nat->Value->Prop}{St:Nat->aat->Prop}
theorem CN (W:WalksS prog w A.in1 I fp wr G n P St)(S:Addr)(yw:S ∉ fp)(led:Bool)(val:Nat->Int)(hv:∀i v,P i v->∃t,v = .int (val i) t)(hn:n<=18):
  ∀(k i:Nat) (s:aat),n-i=k->i<=n->St i s->ij s.heap S led (cw val i) ->
    (∀s',Moved (S::wr) G s s'->ij s'.heap S led (cw val n)->R (.ok (.ret .none)) s') ->
    aek (model prog w) A (.builtin "set.update.loop" ⟨[.ref S,.ref I],[]⟩) R s:=by
 have r:S ∉ wr:=λh=>yw (W.sub _ h)
 have l:∀b∈wr,b∈S::wr:=λb a=>aaR _ a
 intro k
 induction k with
 |zero =>
  intro i s z hi f c j
  have cM:i=n:=by omega
  subst cM
  refine acb F.entry_set_update_loop ?_
  rw[abP F.plain_set_update_loop _]
  show wpAny _ A.in1 (adQ (.ref I) >>= _) _ _ s
  refine aas (W.done s _ _ f λs' hm=>?_)
  exact aau (j s' (hm.mono l) (c.at λo e=>hm.heap S _ r e))
 |succ k ih =>
  intro i s z hi f c j
  have p:i<n:=by omega
  refine acb F.entry_set_update_loop ?_
  rw[abP F.plain_set_update_loop _]
  show wpAny _ A.in1 (adQ (.ref I) >>= _) _ _ s
  refine aas (W.item i s _ _ p f λv s' hP iW hm=>?_)
  obtain⟨t,rfl⟩:=hv i v hP
  have yx:ij s'.heap S led (cw val i):=c.at λo e=>hm.heap S _ r e
  show wpAny _ A.in1 (adh [aeD (val i) t] (setAdd S (.int (val i) t)) >>= _) _ _ s'
  refine aas (aa1 ?_)
  unfold setAdd
  refine aa1 ?_
  refine aas ((ad7 prog w).pyHash (k:=val i) (intKind_is _ _ _ _) ?_)
  have y:(cw val i).length<=17:=by have:=nM val i;omega
  refine IX (s:={ s' with toks:=s'.toks+1 }) yx (.inl y) λb h' q u=>?_
  refine aau ⟨adC F.plain_set_update_loop _,ih (i+1) _ (by omega) p (W.frame _ s' _ _ iW (adI _) λb a o e=>?_) u λvp x Vd=>?_⟩
  . rw[q.2 b (λh:b=S=>yw (by rw[<- h];exact a))];exact e
  . refine j vp (Moved.trans W.gtrans ((hm.mono l).then_heap (adI _) λb o a e=>?_) x) Vd
    rw[q.2 b (λh:b=S=>a (by rw[h];exact aaO))];exact e
end
section
variable {prog:aaY}{w:World}{A:aaV}{E:Value->aat->Prop}{s:aat}
theorem Ve {h:Heap}{a:Addr}{led:Bool}(e:h.get? a=some (emp led)):ij h a led []:=
 ⟨#[],0,tb [] led,[],e,⟨rfl,rfl,rfl,ahv,by intro j b;simp[tb]at b,.inl ⟨rfl,by decide⟩⟩,rfl,agl _,rfl⟩
theorem Vf {a:Addr}{ks:List Int}(hS:ij s.heap a (!w.params.followText "set-order") ks):∃es ep t ord ok ms,s.heap.get? a=some (gm es ep t)/\Way prog w a es ep t ord ok/\(w.params.followText "set-order" = true\/t.plain=true)/\es.size<=18/\acK ord ms/\ms.Perm ks:=by
 obtain⟨es,ep,t,l,o,T,q,z,v⟩:=hS
 have hf:t.fits es.size=true:=T.fits
 have r:es.size<=18:=by rcases T.mx with h|h<;>omega
 have u:(es.toList.map (·.2)).Perm (l.map λp=>(qx p).2):=by
  have:=z.map (·.2)
  rwa[acI]at this
 have io:∀l:List (Int×Nat),acK (l.map λp=>(qx p).2) (l.map (·.1)):=by
  intro l
  induction l with
  |nil=>exact .nil
  |cons p l ih=>exact .cons _ _ ih
 cases hb:w.params.followText "set-order" with
 |true =>
  obtain⟨ms,c,b⟩:=tY (((tV (w.params.setOrder a ep) es).map (·.2)).trans u) (io l)
  exact⟨es,ep,t,_,_,ms,o,Uv hf hb,.inl rfl,r,c,by rw[<- v];exact b⟩
 |false =>
  rw[hb]at q
  obtain⟨ms,c,b⟩:=tY u (io l)
  have k:=T.ri
  have x:∀i j,t.place[i]? = some j->aaT t.place (j+1)=i+1:=by
   intro i j e
   obtain⟨y,e⟩:=abA.mp e
   obtain⟨a1,a2,n⟩:=lB k (j+1)
   have c:¬aaT t.place (j+1)<=i:=λh=>by
    have:=n i y h
    omega
   have b:¬i+1<aaT t.place (j+1):=λh=>by
    have f:i+1<t.place.size:=by omega
    have q1:=a2 (i+1) f h
    have q2:=qv k f (adu i)
    omega
   omega
  have b0:aaT t.place 0=0:=by
   obtain⟨a1,a2,n⟩:=lB k 0
   refine acC λh=>?_
   have f:0<t.place.size:=by omega
   have:=a2 0 f (by omega)
   omega
  exact⟨es,ep,t,_,_,ms,o,Uw hf hb q T.pl T.sz b0 x,.inr T.pl,r,c,by rw[<- v];exact b⟩
theorem x9 {a:Addr}{ks:List Int}{Q:Value->aat->Prop}(hh:A.handled=none)(hS:ij s.heap a (!w.params.followText "set-order") ks)
  (h:∀(h':Heap) (tk L c:Nat) (out:Array Value),(∀b o,s.heap.get? b=some o->h'.get? b=some o)->s.heap.objs.size<=L->h'.get? L=some (ab0 "list" out c)->acK out.toList (abk ks)->Q (.ref L) { s with heap:=h',toks:=tk }):
  wpAny (model prog w) A (call (.builtin "sorted") [.ref a]) Q E s:=by
 obtain⟨e,ep,t,ord,ok,ms,f,W,hd,z,hI,q⟩:=Vf (prog:=prog) hS
 have j:abk ms=abk ks:=by
  refine aeC ((aej ms).trans q) ?_
  exact agX ms
 have i:e.size<=aaP:=by rw[acr];omega
 refine km (ns:=ms) (by rw[<- hI.length,W.len];omega) (λx v y l k=>?_) (by rw[j];exact h)
 exact xX W (by rw[l];exact hh) f hd i λn p r u=>k n p _ u (adk r) hI
end
section
variable {prog:aaY}{w:World}{A:aaV}{E:Value->aat->Prop}{s:aat}
set_option maxHeartbeats 3200000 in
theorem sQ {l:Addr}{items:Array Value}{val:Nat->Int}{Q:Value->aat->Prop}(hh:A.handled=none)(hl:s.heap.IsTuple l items)(hi:∀(i:Nat) (v:Value),items[i]? = some v->∃t,v=aeD (val i) t)(hb:items.size<=18)
  (h:∀(h':Heap) (tk:Nat),ij h' s.heap.objs.size (!w.params.followText "set-order") (cw val items.size)->(∀b o,b<s.heap.objs.size->s.heap.get? b=some o->h'.get? b=some o)->Q (.ref s.heap.objs.size) { s with heap:=h',toks:=tk }):
  wpAny (model prog w) A (call (.type "set") [.ref l]) Q E s:=by
 generalize pS:(!w.params.followText "set-order")=led at *
 obtain⟨c,tl,ar⟩:=F.called_set.mro
 have ae:=F.called_set.made
 have zY:=F.called_set.sub
 refine wpAny_call (codeAny_of_tree ?_);show wpAny _ _ (callAny (.type "set") _) _ _ _
 refine aau ⟨Code.quiet_builtin _ (by decide +kernel),acb F.entry_type_call ?_⟩;rw[Around.under_plain (weight_type_call_type "set" [.ref l] []) rfl]
 have h1:=F.called_set.notType
 have h2:=F.called_set.canCreate
 have z:=F.typeCall_set_1 (.ref l)
 repeat (any_goals (first|assumption|wp_step))
 refine aeM (IW (.ref l) (E:=E) (Q₁:=λobj q=>obj = .ref s.heap.objs.size/\q={ s with heap:=s.heap.push (emp led) }) ⟨rfl,by rw[pS]⟩) λr q f=>?_
 cases r with
 |error e=>exact f
 |ok fl =>
  cases fl with
  |ret obj =>
   obtain⟨rfl,rfl⟩:=f
   have k:(s.heap.push (emp led)).get? s.heap.objs.size=some (emp led):=aaG _ rfl
   have hT:agM { s with heap:=s.heap.push (emp led) } (.ref s.heap.objs.size) "set":=⟨_,k,rfl⟩
   have ak:=F.called_set.init.lookup
   have GJ:=F.called_set.init.bind (.ref s.heap.objs.size)
   repeat (any_goals (first|assumption|wp_step))
   refine aeM (codeAny_call_builtin (R:=wants (λr n=>r = .none /\ ∃h' tk,n={ s with heap:=h',toks:=tk }/\ij h' s.heap.objs.size led (cw val items.size) /\
      (∀b o,b<s.heap.objs.size->s.heap.get? b=some o->h'.get? b=some o)) E) F.called_set.init.plain F.entry_set_init (check_set_init_1 hT ?_)) λr₂ n a=>?_
   . obtain⟨ol,j,u,nl,p⟩:=hl
     obtain⟨au,Rg,ai,NR⟩:=ol
     simp only at u p
     subst u;subst p
     have Vg:(s.heap.push (emp led)).get? l=some { cls:=.type "tuple",dict:=Rg,data:=.seq items nl,slots:=NR }:=aaw _ j
     have ah:=F.sP
     have ab:=F.lV
     have fG:(abm "tuple" == abm "dict")=false:=by decide
     have x:(s.heap.push (emp led)).IsTuple l items:=⟨_,Vg,rfl,nl,rfl⟩
     unfold ab1.«set.__init__» noKeywords aiX
     generalize Y0:agf=PI
     wp_walk
     subst Y0
     refine adF x ?_
     refine aas (agj ?_)
     have y:l<s.heap.objs.size:=aaH j
     have Y1:A.in1.in1.in1.handled=none:=by simp[hh]
     have Vh:l≠(s.heap.push (emp led)).objs.size:=by
      rw[aci];exact aaN (abe y)
     have yw:s.heap.objs.size ∉ [(s.heap.push (emp led)).objs.size,l]:=by
      rw[aci];simp only[aaD,afi,afN,or_false,not_or]
      exact⟨aaN (adu _),ag4 y⟩
     refine CN ((Walks.tuple Y1 _ l Vh items).toS) s.heap.objs.size yw led val hi hb (items.size-0) 0 _ (by omega) (abd _) ⟨⟨_,aaG _ rfl,rfl,rfl⟩,(x.push _)⟩ ?hS0 ?hR
     case hS0=>exact Ve (aaw _ k)
     case hR =>
      intro s' hm yx
      obtain⟨h',g',d',tX,Bp⟩:=s'
      have eg:g'=s.gens:=hm.gens
      have ed:d'=s.drawn:=hm.drawn
      have eo:Bp=s.os:=hm.os
      subst eg;subst ed;subst eo
      show wpAny _ _ _ _ _ _
      refine aau ?_
      show wpAny _ _ (ret acE) _ _ _
      have ht:∀b o,b<s.heap.objs.size->s.heap.get? b=some o->h'.get? b=some o:=λb o hb e=>by
       have q1:b≠s.heap.objs.size:=aaN hb
       have q2:b≠(s.heap.push (emp led)).objs.size:=by rw[aci];exact aaN (abe hb)
       exact hm.heap b o (by simp only[aaD,afN,or_false,not_or];exact⟨q1,q2⟩) (aaw _ (aaw _ e))
      exact aau ⟨rfl,h',tX,rfl,yx,ht⟩
   . cases r₂ with
     |error e=>exact a
     |ok fl₂ =>
      cases fl₂ with
      |ret r =>
       obtain⟨rfl,h',tk,rfl,GS,qR⟩:=a
       repeat (any_goals (first|assumption|wp_step))
       exact h _ _ GS qR
      |_=>exact a.elim
  |_=>exact f.elim
end
end SJ
namespace L3
open PySem PySem.Spec PyProof.Rows L2 SJ
noncomputable def AK:D->Option (List D)|.tup xs=>some xs|_=>none
noncomputable def w5 (fe:FE):FE:=λσ g=>(fe σ g).bind λr=>(AK r.1).bind λxs=>(dB xs).bind λns=>if decide (ns.length<=18)=true then some (.lst ((abk (cw (λi=>ns.getD i 0) ns.length)).map .int),r.2)else none
section
variable {X:Cx}
theorem NS {e:Expr}{fe:FE}{p1 p2 NT lW:Pos}(hh:X.A.handled=none)(Y2:X.mg "sorted" = none)(Y3:X.mg "set" = none)(he:DE X e fe)(Y4:Gl X "sorted":=by rfl)(CH:Gl X "set":=by rfl)
   (BL:aaZ [Expr.Call (.Name "set" p2) [e] [] lW] X.env=(false,eval (.Call (.Name "set" p2) [e] [] lW) X.env)::aaZ [] X.env:=by rfl) (SG:aaZ [e] X.env=(false,eval e X.env)::aaZ [] X.env:=by rfl):
   DE X (.Call (.Name "sorted" p1) [.Call (.Name "set" p2) [e] [] lW] [] NT) (w5 fe):=.of (by
 intro pins s σ H Q I h
 obtain⟨ι,σd,g,d,g',G0,S0,h,p⟩:=h
 obtain⟨⟨d1,g1⟩,h1,h⟩:=bind_some h
 obtain⟨xs,y,h⟩:=bind_some h
 obtain⟨ns,hn,h⟩:=bind_some h
 dsimp only at y h
 split at h
 . rename_i NU
   cases h
   rw[decide_eq_true_eq]at NU
   have arg:=(kF he.un qr SG) lW pins s σ H (λvs H1=>∃f a us,vs = [.ref a]/\jH X.kw H1 f a us/\ag X.kw H1 f xs us/\Ext H ι H1 f/\ax X.kw H1 f g') I (tD.bind G0 S0 h1 λH1 f v e1 k S1 r1=>by
    cases d1 with
    |tup ys =>
     cases y
     simp only[Rel]at r1
     obtain⟨a,us,rfl,x,z⟩:=r1
     exact⟨f,a,us,rfl,x,z,e1,k⟩
    |_=>cases y)
   refine acY (iG I Y4 Y2 (u:=.builtin "sorted") rfl ?_ (by decide) (by decide))
   refine aeO ?_ BL rfl
   rw[BL]
   show wpAny _ _ (spliced ((false,eval (.Call (.Name "set" p2) [e] [] lW) X.env)::adl NT (aaZ [] X.env))) _ _ s
   refine ag6 ?_
   refine acY (iG I CH Y3 (u:=.type "set") rfl ?_ (by decide) (by decide))
   refine acm (aT arg λrC s1 q1=>?_) SG rfl
   obtain⟨vs,H1,r,rv,f,a,us,rfl,x,z,e1,k⟩:=q1
   obtain⟨u,rfl,ru⟩:=rv.one
   cases ru
   obtain⟨n,bz,pl,hz⟩:=r.tuple x.sq
   have hA:=iL hn z bz
   have L4:n.length=ns.length:=by
    obtain⟨ps,rfl,rfl⟩:=jh hA
    simp
   have j:n.toArray.size=ns.length:=by rw[aaA];exact L4
   refine SJ.sQ (items:=n.toArray) (val:=λi=>ns.getD i 0) hh pl (λi v hv=>ai2 (by simpa using hA:acK n.toArray.toList ns) i v (by rw[acy];exact hv)) (by rw[j];exact NU) λh2 SH tW k2=>?_
   rw[j]at tW
   refine aht ?_
   have kk:∀b o,s1.heap.get? b=some o->h2.get? b=some o:=λb o q=>k2 b o (aaH q) q
   have I2:Inv X pins σ H1 { s1 with heap:=h2,toks:=SH }:=r.kept kk
   refine SJ.x9 (s:={ s1 with heap:=h2,toks:=SH }) hh tW λh3 Y5 L c out k3 hL hc hO=>?_
   have NQ:s1.heap.objs.size<=L:=by
    obtain⟨_,_,_,_,ha,_⟩:=tW
    exact abt (adk (aaH ha)) hL
   have l:=r.bB.fresh NQ
   have ym:((abk (cw (λi=>ns.getD i 0) ns.length)).map V.int).length<=aaP:=by
    rw[aaM,(aej _).length_eq];exact abt (nM _ _) (abt NU (by decide))
   refine⟨.ref L,_,r.laid (t':=Y5) (λb o q=>k3 b o (kk b o q)) NQ (show cP X.prog X.w _ _ _ (.lst ((abk (cw (λi=>ns.getD i 0) ns.length)).map V.int)) from⟨ym,out.toList,c,gJ hO,by simpa[ab0]using hc⟩),rfl,p _ _ _ (e1.trans (Ext.lay l)) (k.lay l) ?_⟩
   simp only[Rel]
   exact⟨_,_,rfl,.inl ⟨.inl bw,k.fresh l,k.iJ l⟩,lM _⟩
 . cases h)
end
@[simp] theorem JZ {fe:FE}{σ:Sg}{g:G}:w5 fe σ g=(fe σ g).bind λr=>(AK r.1).bind λxs=>(dB xs).bind λns=>if decide (ns.length<=18)=true then some (.lst ((abk (cw (λi=>ns.getD i 0) ns.length)).map .int),r.2)else none:=rfl
end L3
namespace RI
open PySem PySem.Spec PyProof.Rows L2 L3
noncomputable def CO (c:Cs)(l:Expr):Bool:=wJ c l||(match l with|.Call (.Name _ _) _ _ _=>true|_=>false)
noncomputable def Vi:rA where
 e:=λm c E _ x=>match x with
  |.Compare l [.NotEq] [b] _=>if CO c l && !(isSet b)then some (aq kC (E l) (E b))else none
  |_=>none
 Co:=by
  intro m c X E g i j x f h
  split at h
  . split at h
    . rename_i a
      simp only[aav,abc]at a
      cases h
      exact BM (CK g.hu) (i _) (i _) (marks a.2)
    . cases h
  . cases h
 t:=λm c E x=>match x with
  |.Compare l [.NotEq] [b] _=>if CO c l && !(isSet b)then some (aN (aq kC (E l) (E b)))else none
  |_=>none
 tok:=by
  intro m c X E g i x f h
  split at h
  . split at h
    . rename_i a
      simp only[aav,abc]at a
      cases h
      exact BN (CK g.hu) (i _) (i _) (marks a.2)
    . cases h
  . cases h
noncomputable def uY (x:Expr):Option (Str×Expr):=match x with
 |.Call f as ks _=>(match f with
  |.Name t _=>(match as with
   | []=>none
   |a::r=>if r.isEmpty&&ks.isEmpty then some (t,a)else none)
  |_=>none)
 |_=>none
theorem w6 {x a:Expr}{t:Str}(h:uY x=some (t,a)):∃p pos,x = .Call (.Name t p) [a] [] pos:=by
 cases x with
 |Call f as ks pos =>
  cases f with
  |Name t' p =>
   cases as with
   |nil=>cases h
   |cons b r =>
    simp only[uY]at h
    split at h
    . rename_i c
      rw[aav,aif,aif]at c
      cases h
      obtain⟨rfl,rfl⟩:=c
      exact⟨_,_,rfl⟩
    . cases h
  |_=>cases h
 |_=>cases h
noncomputable def CP (m:G0)(c:Cs)(t r:Str)(x:Expr):Option Expr:=(uY x).bind λy=>(uY y.2).bind λz=>if y.1 == t&&z.1 == r&&c.sc.names.lookup y.1 == some .globalImplicit&&c.sc.names.lookup z.1 == some .globalImplicit&&m.i9.elem y.1&&m.i9.elem z.1 && !(isStar z.2)then some z.2 else none
theorem CQ {m:G0}{c:Cs}{t r:Str}{x a:Expr}(h:CP m c t r x=some a):∃p p2 pos lW,x = .Call (.Name t p) [.Call (.Name r p2) [a] [] lW] [] pos/\c.sc.names.lookup t=some .globalImplicit/\c.sc.names.lookup r=some .globalImplicit/\t∈m.i9/\r∈m.i9/\isStar a=false:=by
 obtain⟨⟨u,y⟩,l,k⟩:=bind_some h
 obtain⟨⟨s,z⟩,e,b⟩:=bind_some k
 dsimp only at b e
 obtain⟨p,pos,rfl⟩:=w6 l
 obtain⟨p2,lW,rfl⟩:=w6 e
 split at b
 . rename_i f
   simp only[aav,beq_iff_eq,abc]at f
   obtain⟨⟨⟨⟨⟨⟨rfl,rfl⟩,q⟩,j⟩,o⟩,n⟩,i⟩:=f
   cases b
   exact⟨_,_,_,_,rfl,q,j,ac7.mp o,ac7.mp n,i⟩
 . cases b
noncomputable def NV:fA:=⟨"sorted",iP,λa _=>.inl ⟨_,EX a.hd a.units,boot_sorted⟩⟩
theorem uh {K H ι}:∀(n:Nat) {xs:List D} {vs:List V},ag K H ι xs vs->ag K H ι (xs.take n) (vs.take n)
 | 0,_,_,_=>by simp[ag]
 |n+1,[],vs,h=>by simp only[ag]at h;subst h;simp[ag]
 |n+1,x::xs,vs,h=>by
  simp only[ag]at h
  obtain⟨v,c,rfl,b,a⟩:=h
  simp only[aeY,ag]
  exact⟨v,_,rfl,b,uh n a⟩
theorem uk {K H ι}:∀(n:Nat) {xs:List D} {vs:List V},ag K H ι xs vs->ag K H ι (xs.drop n) (vs.drop n)
 | 0,_,_,h=>h
 |n+1,[],vs,h=>by simp only[ag]at h;subst h;simp[ag]
 |n+1,x::xs,vs,h=>by
  simp only[ag]at h
  obtain⟨v,c,rfl,b,a⟩:=h
  simp only[agS]
  exact uk n a
noncomputable def jw (d:D)(ds:List D)(g:G):Option (D×G):=match d,ds with
 |.ref n,[.int i,y]=>(g[n]?).bind λxs=>if(decide (0<=i)&&decide (i<=1000000)&&az (xs.length+1))=true then some (.ay,g.set n (xs.take i.toNat++y::xs.drop i.toNat))else none
 |_,_=>none
theorem CS {X:Cx}:MR X "list" "insert" "list.insert" isRef jw where
 pa:=ady
 slot:=afS
 ty:=PySem.F.type_list_insert
 is:=p_
 run:=by
  intro pins s σ H x xs v us Q I k rs q
  obtain⟨ι,g,d,ds,l,z,G0,c,rl,u,q,p⟩:=q
  unfold jw at q
  split at q
  . rename_i n i y
    obtain⟨r,h,q⟩:=bind_some q
    split at q
    . rename_i b
      simp only[aav,decide_eq_true_eq]at b
      cases q
      simp only[Rel]at c
      obtain⟨a,rfl,e⟩:=c
      simp only[ag,Rel]at rl
      obtain⟨o,_,rfl,rfl,j,_,rfl,c,rfl⟩:=rl
      obtain⟨ws,hw,f⟩:=G0.at h e
      have:=az.le b.2
      refine CM pins s σ H _ _ v us Q I k rs ⟨a,ws,i,j,rfl,rfl,hw,b.1.1,b.1.2,by rw[<- f.length];omega,?_⟩
      exact p _ ι _ (Ext.put e hw) (G0.put e hw (ag.append (uh _ f) (by simp only[ag];exact⟨_,_,rfl,c,uk _ f⟩))) (by simp[Rel])
    . cases q
  . cases q
noncomputable def EY:oH:=⟨"insert",isRef,jw,λ_=>⟨_,_,CS⟩⟩
noncomputable def NW:rA where
 e:=λm c E _ x=>(CP m c "sorted" "set" x).map λa=>w5 (E a)
 Co:=by
  intro m c X E g b s x f h
  obtain⟨a,j,rfl⟩:=aaK.mp h
  obtain⟨p,q,pos,r,rfl,l,i,o,k,n⟩:=CQ j
  exact NS g.rm.hd (g.bl _ o) (g.bl _ k) (b a) (g.gl l) (g.gl i) rfl (b5 n)
 t:=NL
 tok:=by intro m c X E g b x f h;cases h
end RI
namespace K50
open PySem PySem.Spec PyProof.Rows L2 L3 RI
noncomputable def top (i:Nat):Stmt:=afa.main.body.getD i (.Pass ⟨0,0,0,0⟩)
noncomputable def NX:bf:=⟨"is_whole",["thing"],["thing"],top 1,false,[],false⟩
noncomputable def NY:bf:=⟨"is_within",["thing","least","most"],["thing","least","most"],top 2,false,[],false⟩
noncomputable def NZ:bf:=⟨"is_figured",["thing","most"],["thing","most"],top 3,false,[],false⟩
noncomputable def N0:bf:=⟨"is_tuple_of",["thing","least","most"],["thing","least","most"],top 4,false,[],false⟩
noncomputable def N1:bf:=⟨"is_same",["thing","value"],["thing","value"],top 5,false,[],false⟩
noncomputable def N2:bf:=⟨"zeros",["count"],["count"],top 7,false,[],false⟩
noncomputable def N3:bf:=⟨"is_value",["thing"],["thing"],top 12,false,[],false⟩
noncomputable def N4:bf:=⟨"is_value_within",["thing","deep"],["thing","deep"],top 13,false,[],false⟩
noncomputable def N5:bf:=⟨"is_state",["places","thing"],["places","thing"],top 14,false,[],false⟩
noncomputable def N6:bf:=⟨"is_ahead",["row","other"],["row","other"],top 16,false,[],false⟩
noncomputable def GW:bf:=⟨"bits_of",["numbers"],["numbers"],top 18,false,[],false⟩
noncomputable def GX:bf:=⟨"ended_bits",["story"],["story"],top 19,false,[],false⟩
noncomputable def GY:bf:=⟨"plan_of",["story"],["story","plan","number","row","ahead"],top 20,false,["plan"],false⟩
noncomputable def GZ:bf:=⟨"leads",["plan","done","state"],["plan","done","state","found","number","ahead","row","bit"],top 21,false,["found"],false⟩
noncomputable def G_:bf:=⟨"fits",["row","state"],["row","state"],top 22,false,[],false⟩
noncomputable def Ha:bf:=⟨"state_behind",["row","state"],["row","state","deed"],top 23,false,[],false⟩
noncomputable def Hb:bf:=⟨"are_rows",["story","thing"],["story","thing"],top 25,false,[],false⟩
noncomputable def Hc:bf:=⟨"shows_none",["places","story","thing"],["places","story","thing","values","known","pair"],top 26,false,["known","*known"],false⟩
noncomputable def He:bf:=⟨"lead_nowhere_else",["story","known"],["story","known","plan","ended","done","state"],top 27,false,["*known"],false⟩
noncomputable def Hf:bf:=⟨"is_room",["places","story","values","thing"],["places","story","values","thing"],top 28,false,[],false⟩
noncomputable def Hg:bf:=⟨"is_rising",["story","thing"],["story","thing"],top 29,false,[],false⟩
noncomputable def Hh:bf:=⟨"is_state_of",["places","values","thing"],["places","values","thing"],top 30,false,[],false⟩
noncomputable def Hi:bf:=⟨"_law_hand",["_law_script","_law_k"],["_law_script","_law_k","_law_cell"],top 32,true,[],false⟩
noncomputable def Hj:bf:=⟨"_law_take",["_law_hand_here","_law_many"],["_law_hand_here","_law_many","_law_digit","_law_turn","_law_mixed","_law_other"],top 33,false,["_law_hand_here"],false⟩
noncomputable def Hk:bf:=⟨"_law_pick",["_law_hand_here","_law_some"],["_law_hand_here","_law_some"],top 34,false,[],false⟩
noncomputable def Hl:bf:=⟨"_law_some_value",["_law_hand_here"],["_law_hand_here"],top 35,false,[],false⟩
noncomputable def Hm:bf:=⟨"_law_rows",["_law_hand_here","_law_places","_law_most"],["_law_hand_here","_law_places","_law_most","_law_rows_here","_law_begin","_law_open_hands","_law_ends","_law_hands","_law_k","_law_some","_law_one","_law_point","_law_deed"],top 36,false,["_law_ends","_law_rows_here","_law_open_hands","*_law_open_hands","*_law_ends"],false⟩
noncomputable def Hn:bf:=⟨"_law_told",["_law_places","_law_rows_here"],["_law_places","_law_rows_here","_law_state","_law_telling","_law_order","_law_point","_law_k","_law_one","_law_deed","_law_begin","_law_end","_law_numbers"],top 37,false,["_law_order","_law_telling","*_law_telling"],false⟩
noncomputable def Ho:bf:=⟨"_law_bent",["_law_hand_here","_law_places","_law_rows_here"],["_law_hand_here","_law_places","_law_rows_here","_law_some","_law_turn","_law_at","_law_hand_own","_law_deed","_law_begin","_law_end","_law_told_here","_law_place","_law_tellings","_law_changed"],top 38,false,["_law_some"],false⟩
noncomputable def Hq:bf:=⟨"_law_behind",["_law_rows_here","_law_done","_law_state"],["_law_rows_here","_law_done","_law_state","_law_found","_law_k","_law_row","_law_early"],top 39,false,["_law_found"],false⟩
noncomputable def Hr:bf:=⟨"_law_all",["_law_places","_law_rows_here"],["_law_places","_law_rows_here","_law_waiting","_law_at","_law_met","_law_pair"],top 40,false,["_law_met","_law_waiting","*_law_met"],false⟩
noncomputable def Hs:bf:=⟨"_law_ended",["_law_rows_here","_law_done"],["_law_rows_here","_law_done"],top 41,false,[],false⟩
noncomputable def Ht:bf:=⟨"_law_is_pair",["_law_places","_law_rows_here","_law_thing"],["_law_places","_law_rows_here","_law_thing","_law_done"],top 42,false,[],false⟩
noncomputable def Hu:bf:=⟨"_law_right",["_law_places","_law_rows_here","_law_thing"],["_law_places","_law_rows_here","_law_thing","_law_known","_law_done","_law_state"],top 43,false,["*_law_known"],false⟩
noncomputable def Hv:bf:=⟨"_law_wide",["_law_hand_here","_law_places","_law_rows_here"],["_law_hand_here","_law_places","_law_rows_here","_law_waiting","_law_met","_law_at","_law_pair","_law_turn"],top 44,false,["_law_waiting","_law_met","*_law_met"],false⟩
noncomputable def Hw:bf:=⟨"_law_odd_paper",["_law_hand_here","_law_paper"],["_law_hand_here","_law_paper","_law_at","_law_done","_law_state","_law_some","_law_way"],top 45,false,[],false⟩
noncomputable def Hx:bf:=⟨"law",["_law_script"],["_law_script","_law_k","_law_hand_here","_law_places","_law_rows_here","_law_paper","_law_some","_law_turn","_law_thing","_law_found"],top 46,false,["_law_some"],false⟩
noncomputable def ds:List bf:=[NX,NY,NZ,N0,N1,N2,N3,N4,N5,N6,GW,GX,GY,GZ,G_,Ha,Hb,Hc,He,Hf,Hg,Hh,Hi,Hj,Hk,Hl,Hm,Hn,Ho,Hq,Hr,Hs,Ht,Hu,Hv,Hw,Hx]
noncomputable def pk:Pk:=⟨[U3,U_,Va,U4,U5,U6,U7,U8,U9,NV,GU],[Q9,GU],[ES,Q_,JV,EY,Ra],[JT,NK],[Vb,Rc,Vi,NW]⟩
noncomputable def mo:Mo:=⟨ds,["len","max","min","int","tuple","list","all","any","sum","sorted","bool","dict","set","range","enumerate","zip","isinstance"],[("TWELVE_FIGURES",.int 999999999999),("MOST_PARTS",.int 8),("MOST_DEEP",.int 3)],[],pk,1000000⟩
end K50
namespace L3
open PySem PySem.Spec PyProof.Rows L2 RI
section
variable {σ:Sg}{g:G}{fa fb fo fi:FE}{fr:FA}
@[simp] theorem Xr {xs:List D}{d:D}:aI (.tup xs) d g=kN (.tup xs) d g:=rfl
@[simp] theorem Xs {xs:List D}{d:D}:aI (.lst xs) d g=kN (.lst xs) d g:=rfl
@[simp] theorem zm {n:Nat}{d:D}:aI (.ref n) d g=kN (.ref n) d g:=rfl
@[simp] theorem Xt {n:Nat}{d:D}:aI (.aG n) d g=(g[n]?).bind λxs=>if a_ 6 d=true then(aS xs d).map λd=>(d,g)else none:=rfl
@[simp] theorem Vj {n:Nat}{i v:D}:iq (.ref n) i v g=putD (.ref n) i v g:=rfl
@[simp] theorem Vk {n:Nat}{i v:D}:iq (.aG n) i v g=(g[n]?).bind λxs=>if(a_ 6 i&&kh xs)=true then some (g.set n (bH xs i v))else none:=rfl
@[simp] theorem Xu {v:D}:jP fo fi v σ g=(fo σ g).bind λr=>(fi σ r.2).bind λq=>(iq r.1 q.1 v q.2).map λg'=>(σ,g'):=rfl
@[simp] theorem zo {ib:D->Bool}{m:D->List D->G->Option (D×G)}:dw ib m fo fr σ g=(fo σ g).bind λr=>if ib r.1=true then(fr σ r.2).bind λq=>m r.1 q.1 q.2 else none:=rfl
@[simp] theorem Vm:lP σ g=some (.aG g.length,g ++ [[]]):=rfl
@[simp] theorem Xv {n:Nat}:ki (.aG n)=true:=rfl
@[simp] theorem Xw {n:Nat}:isRef (.ref n)=true:=rfl
@[simp] theorem Vn {xs:List D}:jS (.lst xs)=true:=rfl
@[simp] theorem aag {n:Nat}{k:D}:kA (.aG n) [k] g=(g[n]?).bind λxs=>if a_ 6 k=true then some ((aS xs k).getD .ay,g)else none:=rfl
@[simp] theorem aah {n:Nat}{k x:D}:kA (.aG n) [k,x] g=(g[n]?).bind λxs=>if a_ 6 k=true then some ((aS xs k).getD x,g)else none:=rfl
@[simp] theorem aai {n:Nat}{x:D}:cV (.ref n) [x] g=(g[n]?).bind λxs=>if az (xs.length+1)=true then some (.ay,g.set n (xs ++ [x]))else none:=rfl
@[simp] theorem Xx {n:Nat}{i:Int}:a_ n (.int i)=true:=by cases n<;>rfl
@[simp] theorem Xy {n:Nat}{d:D}:kS d (.aG n) g=(g[n]?).bind λxs=>if a_ 6 d=true then some (aS xs d).isSome else none:=rfl
@[simp] theorem Xz {d e:D}:eO d e g=(kS d e g).map λb=>(.bl b,g):=rfl
@[simp] theorem Rh {d e:D}:d_ d e g=(kS d e g).map λb=>(.bl (!b),g):=rfl
@[simp] theorem Vo:isFn .ay=false:=rfl
@[simp] theorem XA {b:Bool}:isFn (.bl b)=false:=rfl
@[simp] theorem Vp {b:Int}:isFn (.int b)=false:=rfl
@[simp] theorem Vq {b:Str}:isFn (.str b)=false:=rfl
@[simp] theorem w8 {b:List D}:isFn (.tup b)=false:=rfl
@[simp] theorem Vr {b:List D}:isFn (.lst b)=false:=rfl
@[simp] theorem Vs:isFn .de=false:=rfl
@[simp] theorem Vt {b:Nat}:isFn (.ref b)=false:=rfl
@[simp] theorem Vu {b:Nat}:isFn (.aG b)=false:=rfl
end
end L3
namespace Pd
open PySem L3 L2
noncomputable def w9:FS:=aU (eG (fK .int (af 0)) (om (fK .bool (af 0))))
noncomputable def oK (whole:Fn):FS:=aU (eG (av whole (aa (af 0) (aj))) (gY oLe oLe (af 1) (af 0) (af 2)))
noncomputable def qa (within:Fn):FS:=aU (av within (aa (af 0) (aa (vK lG (af 1)) (aa (af 1) (aj)))))
noncomputable def tupleOfB:FS:=aU (eG (fK .tuple (af 0)) (gY oLe oLe (af 1) (av cZ (aa (af 0) (aj))) (af 2)))
noncomputable def EZ (vw:Fn):FS:=aU (av vw (aa (af 0) (aa (fC (.int 3)) (aj))))
noncomputable def w_ (J0 tupleOf vw:Fn):FS:=aD (cA (kI (aN (aq oEq (af 1) (fC (.int 0)))) (dq (cK (fK .tuple (af 0))))) (aU (av J0 (aa (af 0) (aa (fC (.int 999999999999)) (aj))))) (bp)) (aD (cA (dq (cK (av tupleOf (aa (af 0) (aa (fC (.int 0)) (aa (fC (.int 8)) (aj))))))) (aU (fC (.bl false))) (bp)) (aU (av fL (aa (bQ bU (cv (af 0)) [none,none,some 1] (gN 1) (aO) (av vw (aa (af 1) (aa (aq (bK cf (· - ·)) (af 2) (fC (.int 1))) (aj))))) (aj)))))
noncomputable def uZ:FS:=aD (aM (fC (.int 0)) (gN 2)) (aD (cA (aN (aq oLt (af 1) (av cZ (aa (af 0) (aj))))) (aM (aq aI (af 0) (af 1)) (gN 2)) (bp)) (aU (aL mkRef (aa (aq cL (af 2) (av nh (aa (aq Gp (af 2) (aq (bK dX (λi j=>i ^ j.toNat)) (fC (.int 10)) (fC (.int 18)))) (aj)))) (aa (aq aQ (aq aQ (aq (bK eH (· % ·)) (af 2) (fC (.int 2305843009213693951))) (aq cL (fC (.int 7919)) (af 1))) (fC (.int 3))) (aa (fC (.int 0)) (aj)))))))
noncomputable def u3:FS:=aD (cA (aN (aq M0 (aq aI (af 0) (fC (.int 0))) (fC (.int 0)))) (aD (aM (aq (bK eH (· % ·)) (aq aI (af 0) (fC (.int 0))) (af 1)) (gN 2)) (aD (aM (aq (bK iB (· / ·)) (aq aI (af 0) (fC (.int 0))) (af 1)) (jP (af 0) (fC (.int 0)))) (aU (af 2)))) (bp)) (aD (aM (aq aQ (aq aI (af 0) (fC (.int 2))) (fC (.int 1))) (jP (af 0) (fC (.int 2)))) (aD (aM (aq aI (af 0) (fC (.int 2))) (gN 3)) (aD (aM (aq (bK eH (· % ·)) (aq cL (aq aI (af 0) (fC (.int 1))) (aq aQ (aq aQ (fC (.int 48271)) (aq cL (aq cL (fC (.int 2)) (af 3)) (af 3))) (aq cL (fC (.int 65537)) (af 3)))) (fC (.int 2305843009213693921))) (gN 4)) (aD (aM (aq aQ (aq aQ (aq (bK eH (· % ·)) (af 4) (fC (.int 1000003))) (aq cL (af 3) (fC (.int 99991)))) (fC (.int 11))) (gN 5)) (aD (aM (aq (bK eH (· % ·)) (aq cL (af 4) (af 5)) (fC (.int 2305843009213693907))) (gN 4)) (aU (aq (bK eH (· % ·)) (aq aQ (aq (bK iB (· / ·)) (af 4) (fC (.int 97))) (aq (bK iB (· / ·)) (af 4) (fC (.int 1000033)))) (af 1))))))))
noncomputable def AL (take:Fn):FS:=aU (aq aI (af 1) (av take (aa (af 0) (aa (av cZ (aa (af 1) (aj))) (aj)))))
noncomputable def isWhole:D->Bool
 |.int _=>true
 |_=>false
noncomputable def within (d:D)(a b:Int):Bool:=match d with|.int i=>decide (a<=i)&&decide (i<=b)|_=>false
noncomputable def bX (d:D)(a b:Int):Bool:=match d with|.tup xs=>decide (a<=(xs.length:Int))&&decide ((xs.length:Int)<=b)|_=>false
noncomputable def jU (d:D):Bool:=within d (-999999999999) 999999999999
noncomputable def isVal:Nat->D->Bool
 | 0,d=>jU d
 |n+1,.tup xs=>decide (xs.length<=8)&&xs.all (isVal n)
 |_+1,d=>jU d
mutual
noncomputable def nf:D->Bool
 |.fn _=>false
 |.tup xs=>nO xs
 |_=>true
noncomputable def nO:List D->Bool
 | []=>true
 |d::ds=>nf d&&nO ds
end
theorem gC {d:D}(h:nf d=true):isFn d=false:=by cases d<;>first|rfl|cases h
theorem eY:∀{xs:List D},nO xs=true->∀d∈xs,nf d=true
 | [],_,d,hd=>by simp at hd
 |x::xs,h,d,hd=>by
  simp only[nO,aav]at h
  rcases aaD.mp hd with rfl|hd
  . exact h.1
  . exact eY h.2 d hd
def oM (f:Fn):Prop:=∀d g,isFn d=false->f [d] g=some (.bl (isWhole d),g)
def lX (f:Fn):Prop:=∀d a b g,isFn d=false->f [d,.int a,.int b] g=some (.bl (within d a b),g)
def iQ (f:Fn):Prop:=∀d a g,isFn d=false->f [d,.int a] g=some (.bl (within d (-a) a),g)
def dM (f:Fn):Prop:=∀d a b g,isFn d=false->f [d,.int a,.int b] g=some (.bl (bX d a b),g)
def xa (f:Fn)(n:Nat):Prop:=∀d g,nf d=true->f [d,.int n] g=some (.bl (isVal n d),g)
def u4 (f:Fn):Prop:=∀d g,nf d=true->f [d] g=some (.bl (isVal 3 d),g)
theorem E2:oM (aA false 1 1 w9):=λd g hd=>by
 refine bM (σ':=[some d]) rfl ?_ rfl
 cases d<;>first| (simp[w9,cG,isWhole];done)|cases hd
theorem CT {w:Fn}(hw:oM w):lX (aA false 3 3 (oK w)):=λd a b g hd=>by
 refine bM (σ':=[some d,some (.int a),some (.int b)]) rfl ?_ rfl
 cases d with
 |int i =>
  simp[oK,hw (.int i) g hd,isWhole,within]
  by_cases h:a<=i<;>simp[h]
 |fn x=>cases hd
 |_=>simp[oK,hw _ g hd,isWhole,within]
theorem AM {w:Fn}(hw:lX w):iQ (aA false 2 2 (qa w)):=λd a g hd=>by
 refine bM (σ':=[some d,some (.int a)]) rfl ?_ rfl
 simp[qa,hw d (-a) a g hd]
theorem AN:dM (aA false 3 3 tupleOfB):=λd a b g hd=>by
 refine bM (σ':=[some d,some (.int a),some (.int b)]) rfl ?_ rfl
 cases d with
 |tup xs =>
  simp[tupleOfB,cG,bX]
  by_cases h:a<=(xs.length:Int)<;>simp[h]
 |fn x=>cases hd
 |_=>simp[tupleOfB,cG,bX]
theorem N7 {f t v:Fn}(hf:iQ f):xa (aA false 2 2 (w_ f t v)) 0:=λd g hd=>by
 refine bM (σ':=[some d,some (.int 0)]) rfl ?_ rfl
 simp[w_,hf d _ g (gC hd),isVal,jU]
theorem N8 {f t v:Fn}{n:Nat}(hf:iQ f)(ht:dM t)(hv:xa v n):xa (aA false 2 2 (w_ f t v)) (n+1):=λd g hd=>by
 refine bM (σ':=[some d,some (.int ((n:Int)+1))]) rfl ?_ rfl
 have a:¬((n:Int)+1=0):=by omega
 cases d with
 |tup xs =>
  by_cases h:xs.length<=8
  . have i:xs.length<=16777216:=by omega
    have b:(xs.length:Int)<=8:=by omega
    have k:(0:Int)<=(xs.length:Int):=by omega
    have e:=cz (t:=gN 1) (c:=aO) (e:=av v (aa (af 1) (aa (aq (bK cf (· - ·)) (af 2) (fC (.int 1))) aj))) (h:=λd=>D.bl (isVal n d)) (λσ=>∃o,σ = [none,o,some (.int ((n:Int)+1))]) xs [none,none,some (.int ((n:Int)+1))] g ⟨_,rfl⟩ (by
     rintro d hm σ ⟨o,rfl⟩
     refine⟨[none,some d,some (.int ((n:Int)+1))],by simp,by simp,?_,⟨_,rfl⟩⟩
     have j:((n:Int)+1-1)=n:=by omega
     simp[j,hv d g (eY hd d hm)])
    simp[w_,cG,a,ht _ _ _ _ w8,isVal,h,b,i,e,cp,bX]
  . have b:¬(xs.length:Int)<=8:=by omega
    simp[w_,cG,a,ht _ _ _ _ w8,isVal,h,b,bX]
 |fn x=>cases hd
 |_=>simp[w_,cG,a,hf _ _ g (gC hd),isVal,jU]
theorem N9 {v:Fn}(hv:xa v 3):u4 (aA false 1 1 (EZ v)):=λd g hd=>by
 refine bM (σ':=[some d]) rfl ?_ rfl
 have e:=hv d g hd
 simp at e
 simp[EZ,e]
theorem gO {i j:Int}(h1:-(2 ^ 64)<i)(h2:i<2 ^ 64):cT i j=true:=by
 unfold cT
 rw[abx]
 exact .inl (acA (by omega))
theorem oN {i j:Int}(h1:-(2 ^ 64)<j)(h2:j<2 ^ 64):cT i j=true:=by
 unfold cT
 rw[abx]
 exact .inr (acA (by omega))
theorem qb {i j:Int}(h1:0<j)(h2:j<1073741824):iB i j=true:=by
 unfold iB
 rw[aav]
 exact⟨acA (by omega),acA (by omega)⟩
theorem iz {i j:Int}(h1:0<j):eH i j=true:=acA (by omega)
def Hd (g:G)(n:Nat)(B:Int):Prop:=∃a b c:Int,g[n]? = some [.int a,.int b,.int c]/\0<=a/\0<=b/\b<2 ^ 62/\0<=c/\c<=B
theorem Hd.mono {g n B B'}(h:Hd g n B)(hb:B<=B'):Hd g n B':=let⟨a,b,c,h1,h2,h3,h4,h5,h6⟩:=h;⟨a,b,c,h1,h2,h3,h4,h5,by omega⟩
theorem Hd.lt {g n B}(h:Hd g n B):n<g.length:=let⟨_,_,_,h1,_⟩:=h;(aaB.mp h1).1
def Fr (n:Nat)(g g':G):Prop:=g'.length=g.length /\ ∀j,j≠n->g'[j]? = g[j]?
theorem Fr.refl {n g}:Fr n g g:=⟨rfl,λ_ _=>rfl⟩
theorem Fr.trans {n g g1 g2}(a:Fr n g g1)(b:Fr n g1 g2):Fr n g g2:=⟨b.1.trans a.1,λj h=>(b.2 j h).trans (a.2 j h)⟩
theorem Fr.set {n:Nat}{g:G}{xs:List D}:Fr n g (g.set n xs):=⟨by simp,λj h=>by rw[aaU (acg h)]⟩
theorem SI {a b c:D}:dU [a,b,c] 0=some a:=rfl
theorem kT {a b c:D}:dU [a,b,c] 1=some b:=rfl
theorem at2 {a b c:D}:dU [a,b,c] 2=some c:=rfl
theorem Vv {g:G}{n:Nat}{a b c v:D}(h:g[n]? = some [a,b,c]):putD (.ref n) (.int 0) v g=some (g.set n [v,b,c]):=by unfold putD;simp only[h];rfl
theorem put2 {g:G}{n:Nat}{a b c v:D}(h:g[n]? = some [a,b,c]):putD (.ref n) (.int 2) v g=some (g.set n [a,b,v]):=by unfold putD;simp only[h];rfl
def dy (f:Fn):Prop:=∀(n:Nat) (m:Int) (g:G) (B:Int),B<2 ^ 40->0<m->m<1073741824->Hd g n B ->
 ∃r g',f [.ref n,.int m] g=some (.int r,g')/\0<=r/\r<m/\Hd g' n (B+1)/\Fr n g g'
theorem J2:dy (aA false 6 2 u3):=λn m g B hB hm qy h=>by
 obtain⟨a,b,c,e,k,l,j,s,ab⟩:=h
 have o:n<g.length:=(aaB.mp e).1
 by_cases h0:0<a
 . refine⟨a % m,g.set n [.int (a / m),.int b,.int c],bM (σ':=[some (.ref n),some (.int m),some (.int (a % m)),none,none,none]) rfl ?_ (by simp),ad9 _ (by omega),adG _ hm,⟨a / m,b,c,by simp[o],Int.ediv_nonneg k (by omega),l,j,s,by omega⟩,Fr.set⟩
   simp[u3,e,SI,h0,iz hm,qb hm qy,Vv e]
 . have i:(g.set n [.int a,.int b,.int (c+1)])[n]? = some [.int a,.int b,.int (c+1)]:=by simp[o]
   generalize f:b*(48271+2*(c+1)*(c+1)+65537*(c+1)) % 2305843009213693921=x
   have SM:0<=x:=by rw[<- f];exact ad9 _ (by decide)
   have p:x<2305843009213693921:=by rw[<- f];exact adG _ (by decide)
   generalize u:x*(x % 1000003+(c+1)*99991+11) % 2305843009213693907=y
   refine⟨(y / 97+y / 1000033) % m,g.set n [.int a,.int b,.int (c+1)],bM (σ':=[some (.ref n),some (.int m),none,some (.int (c+1)),some (.int y),some (.int (x % 1000003+(c+1)*99991+11))]) rfl ?_ (by simp),ad9 _ (by omega),adG _ hm,⟨a,b,c+1,i,k,l,j,by omega,by omega⟩,Fr.set⟩
   have m1:cT 2 (c+1)=true:=gO (by decide) (by decide)
   have z:cT (2*(c+1)) (c+1)=true:=oN (by omega) (by omega)
   have r:cT 65537 (c+1)=true:=gO (by decide) (by decide)
   have m4:cT b (48271+2*(c+1)*(c+1)+65537*(c+1))=true:=gO (by omega) (by omega)
   have m5:cT (c+1) 99991=true:=oN (by decide) (by decide)
   have v:cT x (x % 1000003+(c+1)*99991+11)=true:=gO (by omega) (by omega)
   have d1:eH (b*(48271+2*(c+1)*(c+1)+65537*(c+1))) 2305843009213693921=true:=iz (by decide)
   have d2:eH x 1000003=true:=iz (by decide)
   have d3:eH (x*(x % 1000003+(c+1)*99991+11)) 2305843009213693907=true:=iz (by decide)
   have q:eH (y / 97+y / 1000033) m=true:=iz hm
   have q1:iB y 97=true:=qb (by decide) (by decide)
   have q2:iB y 1000033=true:=qb (by decide) (by decide)
   simp[u3,e,SI,kT,at2,h0,put2 e,i,m1,z,r,m4,m5,v,d1,d2,d3,q,q1,q2,f,u]
theorem dy.w {f:Fn}(h:dy f){n:Nat}{m:Int}{g:G}{B:Int}{Q:D×G->Prop}(hB:B<2 ^ 40)(hm:0<m)(qy:m<1073741824)(hh:Hd g n B)(q:∀r g',0<=r->r<m->Hd g' n (B+1)->Fr n g g'->Q (.int r,g')):wp (f [.ref n,.int m] g) Q:=by
 obtain⟨r,g',e,a,b,i,c⟩:=h n m g B hB hm qy hh
 exact⟨_,e,q r g' a b i c⟩
def fO (f:Fn):Prop:=∀(n:Nat) (xs:List D) (g:G) (B:Int),B<2 ^ 40->xs ≠ []->xs.length<1000->Hd g n B ->
 ∃d g',f [.ref n,.lst xs] g=some (d,g')/\d∈xs/\Hd g' n (B+1)/\Fr n g g'
theorem J3 {t:Fn}(ht:dy t):fO (aA false 2 2 (AL t)):=λn xs g B i l p h=>by
 have q:0<xs.length:=aeZ.mpr l
 obtain⟨r,o,e,c,f,j,a⟩:=ht n (xs.length:Int) g B i (by omega) (by omega) h
 have b:r.toNat<xs.length:=by omega
 have k:dU xs r=some xs[r.toNat]:=by
  unfold dU kG
  rw[if_pos c,if_pos f]
  exact aay b
 refine⟨xs[r.toNat],o,bM (σ':=[some (.ref n),some (.lst xs)]) rfl ?_ a.1,ace b,j,a⟩
 simp[AL,e,k]
theorem fO.w {f:Fn}(h:fO f){n:Nat}{xs:List D}{g:G}{B:Int}{Q:D×G->Prop}(hB:B<2 ^ 40)(hx:xs ≠ [])(hl:xs.length<1000)(hh:Hd g n B)(q:∀d g',d∈xs->Hd g' n (B+1)->Fr n g g'->Q (d,g')):wp (f [.ref n,.lst xs] g) Q:=by
 obtain⟨d,g',e,a,c,b⟩:=h n xs g B hB hx hl hh
 exact⟨_,e,q d g' a c b⟩
theorem SN:dX 10 18=true:=by decide
def rG (f:Fn):Prop:=∀(ns:List Int) (i:Nat) (g:G),i<=100->∃xs,f [.lst (ns.map .int),.int i] g=some (.ref g.length,g ++ [xs])/\Hd (g ++ [xs]) g.length 0
section
variable {σ σ1:Sg}{g g1:G}{f:FE}{f1 f2:FS}{c:FT}{d:D}
theorem rH (h:f1 σ g=some (.nx,σ1,g1)):aD f1 f2 σ g=f2 σ1 g1:=by rw[il,h];rfl
theorem AO {i:Nat}(h:f σ g=some (d,g1)):aM f (gN i) σ g=some (.nx,σ.set i (some d),g1):=by rw[Ju,h];rfl
theorem Vw (h:c σ g=some (true,g1)):cA c f1 f2 σ g=f1 σ g1:=by rw[qS,h];rfl
theorem Vx (h:c σ g=some (false,g1)):cA c f1 f2 σ g=f2 σ g1:=by rw[qS,h];rfl
end
theorem aF {n:Nat}(h:n<=1000):az n=true:=by
 rw[Jt]
 exact decide_eq_true (by omega)
theorem J4:rG (aA true 3 2 uZ):=λns i g l=>by
 have fin:∀cell:Int,∃xs,(aU (aL mkRef (aa (aq cL (af 2) (av nh (aa (aq Gp (af 2) (aq (bK dX (λi j=>i ^ j.toNat)) (fC (.int 10)) (fC (.int 18)))) (aj)))) (aa (aq aQ (aq aQ (aq (bK eH (· % ·)) (af 2) (fC (.int 2305843009213693951))) (aq cL (fC (.int 7919)) (af 1))) (fC (.int 3))) (aa (fC (.int 0)) (aj)))))) [some (.lst (ns.map .int)),some (.int i),some (.int cell)] g=some (.rt (.ref g.length),[some (.lst (ns.map .int)),some (.int i),some (.int cell)],g ++ [xs])/\Hd (g ++ [xs]) g.length 0:=by
   intro cell
   have n:0<=cell % 2305843009213693951:=ad9 _ (by decide)
   have o:cell % 2305843009213693951<2305843009213693951:=adG _ (by decide)
   have f:eH cell 2305843009213693951=true:=iz (by decide)
   have c:cT 7919 (i:Int)=true:=gO (by decide) (by decide)
   by_cases hc:1000000000000000000<=cell
   . have b:cT cell 1=true:=oN (by decide) (by decide)
     refine⟨[.int cell,.int (cell % 2305843009213693951+7919*i+3),.int 0],by simp[SN,hc,b,c,f],?_⟩
     exact⟨cell,cell % 2305843009213693951+7919*i+3,0,by simp,by omega,by omega,by omega,by omega,by omega⟩
   . have b:cT cell 0=true:=oN (by decide) (by decide)
     refine⟨[.int 0,.int (cell % 2305843009213693951+7919*i+3),.int 0],by simp[SN,hc,b,c,f],?_⟩
     exact⟨0,cell % 2305843009213693951+7919*i+3,0,by simp,by omega,by omega,by omega,by omega,by omega⟩
 by_cases h:i<ns.length
 . obtain⟨xs,e,a⟩:=fin ns[i]
   refine⟨xs,yR (σ':=[some (.lst (ns.map .int)),some (.int i),some (.int ns[i])]) rfl ?_,a⟩
   unfold uZ
   refine(rH (AO (d:=.int 0) (g1:=g) rfl)).trans ?_
   refine(rH (σ1:=[some (.lst (ns.map .int)),some (.int i),some (.int ns[i])]) (g1:=g) ((Vw (g1:=g) ?_).trans (AO ?_))).trans e
   . have:(i:Int)<(ns.length:Int):=by omega
     simp[this]
   . have k:dU (ns.map D.int) (i:Int)=some (.int ns[i]):=IH (by simp[h])
     simp[k]
 . obtain⟨xs,e,a⟩:=fin 0
   refine⟨xs,yR (σ':=[some (.lst (ns.map .int)),some (.int i),some (.int 0)]) rfl ?_,a⟩
   unfold uZ
   refine(rH (AO (d:=.int 0) (g1:=g) rfl)).trans ?_
   refine(rH (σ1:=[some (.lst (ns.map .int)),some (.int i),some (.int 0)]) (g1:=g) ((Vx (g1:=g) ?_).trans rfl)).trans e
   have:¬(i:Int)<(ns.length:Int):=by omega
   simp[this]
theorem um (n:Nat)(i:Int)(h1:-999999999999<=i)(h2:i<=999999999999):isVal n (.int i)=true:=by
 cases n<;>simp[isVal,jU,within,h1,h2]
theorem rG.w {f:Fn}(h:rG f){ns:List Int}{i:Nat}{g:G}{Q:D×G->Prop}(hi:i<=100)(q:∀xs,Hd (g ++ [xs]) g.length 0->Q (.ref g.length,g ++ [xs])):wp (f [.lst (ns.map .int),.int i] g) Q:=by
 obtain⟨xs,e,a⟩:=h ns i g hi
 exact⟨_,e,q xs a⟩
noncomputable def et (i:Int)(n:Nat):List D:=(aaz n).map λ(k:Nat)=>D.int (i+k)
theorem gP {i n}:(et i n).length=n:=by simp[et]
theorem lY {fr:FA}{σ:Sg}{g:G}{Q:List D×G->Prop}(h:wp (fr σ g) λr=>∃j:Int,r.1 = [.int j] /\ -1000000<=j/\j<=1000000/\Q (et 0 j.toNat,r.2)):wp (m8 fr σ g) Q:=by
 obtain⟨⟨ds,c⟩,e,j,rfl,b,a,q⟩:=h
 refine⟨_,?_,q⟩
 unfold m8
 rw[e]
 simp only[aax]
 rw[if_pos (gK.of b a)]
 rfl
theorem Ri {fr:FA}{σ:Sg}{g:G}{Q:List D×G->Prop}(h:wp (fr σ g) λr=>∃i j:Int,r.1 = [.int i,.int j]/\(-1000000<=i/\i<=1000000)/\(-1000000<=j/\j<=1000000)/\Q (et i (j-i).toNat,r.2)):wp (vN fr σ g) Q:=by
 obtain⟨⟨ds,c⟩,e,i,j,rfl,b,a,q⟩:=h
 refine⟨_,?_,q⟩
 unfold vN
 rw[e]
 simp only[aax]
 rw[if_pos (by rw[gK.of b.1 b.2,gK.of a.1 a.2];rfl)]
 rfl
theorem J5 {i:Int}{n j:Nat}{d:D}(h:(et i n)[j]? = some d):j<n/\d = .int (i+j):=by
 unfold et at h
 rw[abE]at h
 cases hj:(aaz n)[j]? with
 |none=>rw[hj]at h;cases h
 |some x =>
  rw[hj]at h
  have a:=(aaB.mp hj).1
  have:x=j:=by rw[agT (by simpa using a)]at hj;cases hj;rfl
  subst this
  cases h
  exact⟨by simpa using a,rfl⟩
theorem gI {n j:Nat}{d:D}(h:(et 0 n)[j]? = some d):j<n/\d = .int j:=by
 obtain⟨a,rfl⟩:=J5 h
 exact⟨a,by simp⟩
theorem N_ {mk:List D->G->Option (D×G)}{fi:FI}{fr:List (Option Nat)}{t:FG}{c:FT}{e:FE}{σ:Sg}{g:G}{Q:D×G->Prop}(h:wp (fi σ g) λr=>az r.1.length=true/\wp (bV t c e r.1 (bq fr σ) r.2) λq=>wp (mk q.1 q.2) Q):wp (bQ mk fi fr t c e σ g) Q:=by
 obtain⟨⟨ds,f⟩,b,a,q⟩:=h
 rw[Ex,b]
 simp only[aax]
 rw[if_pos a,wp_bind]
 exact q
theorem oO {nN nP:Nat}{b:FS}{ds:List D}{g:G}{Q:D×G->Prop}(hl:ds.length=nP)(h:wp (b (ds.map some++aaW (nN-nP) none) g) λr=>∃(k:Nat) (xs:List D),r.1 = .rt (.ref k)/\g.length<=k/\r.2.2[k]? = some xs/\aX g.length xs=true/\(r.2.2.take g.length).all (aX g.length)=true/\Q (.lst xs,r.2.2.take g.length)):wp (aA false nN nP b ds g) Q:=by
 obtain⟨⟨r,σ,c⟩,e,k,xs,rfl,o,a,f,i,q⟩:=h
 dsimp only at *
 unfold aA
 rw[if_pos hl,e]
 have n:k<c.length:=(aaB.mp a).1
 refine⟨_,?_,q⟩
 have j:¬c.length=g.length:=by omega
 have l:¬k<g.length:=by omega
 simp only[aax,aaF,if_false]
 unfold L3.settle
 rw[if_neg j,if_pos i]
 dsimp only
 rw[if_neg l,a]
 simp only[f,if_true]
def Clean (g:G):Prop:=∀xs∈g,∀n,aX n xs=true
theorem Clean.fr {n:Nat}{g g':G}{B:Int}(hc:Clean g)(f:Fr n g g')(h:Hd g' n B):Clean g':=by
 intro xs k m
 obtain⟨j,i⟩:=acz.mp k
 by_cases e:j=n
 . subst e
   obtain⟨a,b,c,l,_⟩:=h
   rw[l]at i
   cases i
   simp[aX,bx]
 . rw[f.2 j e]at i
   exact hc xs (acz.mpr ⟨j,i⟩) m
theorem Clean.app {g:G}{xs:List D}{B:Int}(hc:Clean g)(h:Hd (g ++ [xs]) g.length B):Clean (g ++ [xs]):=by
 obtain⟨a,b,c,f,_⟩:=h
 simp at f
 subst f
 intro i e m
 rcases aaE.mp e with e|e
 . exact hc i e m
 . simp at e
   subst e
   simp[aX,bx]
theorem Clean.all {g:G}(hc:Clean g)(n:Nat):g.all (aX n)=true:=aaQ.mpr λxs a=>hc xs a n
theorem cF {n:Nat}:∀{xs:List D},(∀x∈xs,bx n x=true)->aX n xs=true
 | [],_=>rfl
 |x::xs,h=>by
  simp only[aX,aav]
  exact⟨h x (by simp),cF λy a=>h y (by simp[a])⟩
theorem E3 {n:Nat}(is:List Int):aX n (is.map D.int)=true:=cF λx a=>by
 simp only[aaJ]at a
 obtain⟨i,_,rfl⟩:=a
 rfl
theorem gv {xs:List D}{n:Nat}{d:D}(h:xs[n]? = some d):dU xs (n:Int)=some d:=by
 have c:=(aaB.mp h).1
 have a:(0:Int)<=n:=by omega
 have b:(n:Int)<(xs.length:Int):=by omega
 unfold dU kG
 rw[if_pos a,if_pos b]
 simpa using h
structure Mk (g gg:G)(n:Nat)(B:Int)(xs:List D):Prop where
 hd:Hd gg n B
 lt:n<g.length
 len:gg.length=g.length+1
 at_:gg[g.length]? = some xs
 old:∀j,j≠n->j<g.length->gg[j]? = g[j]?
theorem Mk.init {g:G}{n:Nat}{B:Int}{xs:List D}(h:Hd g n B):Mk g (g ++ [xs]) n B xs:=by
 have e:=h.lt
 obtain⟨a,b,c,i,f⟩:=h
 exact⟨⟨a,b,c,by rw[aaS e];exact i,f⟩,e,by simp,by simp,λj _ k=>aaS k⟩
theorem Mk.step {g gg g':G}{n:Nat}{B B':Int}{xs:List D}(m:Mk g gg n B xs)(h:Hd g' n B')(f:Fr n gg g'):Mk g g' n B' xs:=by
 have:=m.lt
 exact⟨h,m.lt,by rw[f.1];exact m.len,by rw[f.2 _ (by omega)];exact m.at_,λj a b=>by rw[f.2 j a];exact m.old j a b⟩
theorem Mk.put {g gg:G}{n:Nat}{B:Int}{xs ys:List D}(m:Mk g gg n B xs):Mk g (gg.set g.length ys) n B ys:=by
 have k:=m.lt
 have e:=m.len
 obtain⟨a,b,c,f,h⟩:=m.hd
 refine⟨⟨a,b,c,by rw[aaU (by omega)];exact f,h⟩,k,by simp[e],by simp[e],λj l i=>by rw[aaU (by omega)];exact m.old j l i⟩
theorem Mk.mono {g gg:G}{n:Nat}{B B':Int}{xs:List D}(m:Mk g gg n B xs)(h:B<=B'):Mk g gg n B' xs:=⟨m.hd.mono h,m.lt,m.len,m.at_,m.old⟩
theorem Mk.fin {g gg:G}{n:Nat}{B:Int}{xs:List D}(m:Mk g gg n B xs):Hd (gg.take g.length) n B/\Fr n g (gg.take g.length):=by
 have i:=m.lt
 have h:=m.len
 obtain⟨a,b,c,e,f⟩:=m.hd
 refine⟨⟨a,b,c,by rw[abi i];exact e,f⟩,by simp[h],λj k=>?_⟩
 by_cases hl:j<g.length
 . rw[abi hl];exact m.old j k hl
 . rw[abX (by simp;omega),abX (by omega)]
theorem J6 {i:Nat}{d:D}{σ:Sg}{g:G}{q:Sg×G}(h:gN i d σ g=some q):q.2=g:=by
 unfold gN at h
 cases h
 rfl
end Pd
namespace Pd
open PySem L3 L2 RI
noncomputable def kX (tupleOf val:Fn):FS:=aD (cA (dq (cK (av tupleOf (aa (af 1) (aa (af 0) (aa (af 0) aj)))))) (aU (fC (.bl false))) bp) (aU (av fL (aa (bQ bU (cv (af 1)) [none,none] (gN 1) aO (av val (aa (af 1) aj))) aj)))
noncomputable def sR:FS:=aU (eG (aq dI (aq aI (af 0) (fC (.int 3))) (fC .ay)) (aq oLe (aq aI (af 0) (fC (.int 3))) (aq aI (af 1) (fC (.int 2)))))
noncomputable def u5 (p:Int):D->Bool
 |.tup [.str x]=>x == "look"
 |.tup [.str x,q,v]=>x == "put" && (within q 0 (p-1)&&isVal 3 v)
 |_=>false
noncomputable def iR:D->Bool
 |.ay=>true
 |_=>false
noncomputable def nQ (b e:D):Bool:=match b with
 |.int i=>decide (0<=i)&&(match e with|.ay=>true|.int j=>decide (i<j)|_=>false)
 |_=>false
noncomputable def fX (p:Int):D->Bool
 |.tup xs=>decide ((xs.length:Int)=p)&&xs.all (isVal 3)
 |_=>false
noncomputable def cH:D->Bool
 |.tup (.str x::_)=>x == "look"
 |_=>false
noncomputable def sT (p:Int):D->Bool
 |.tup [h,dd,b,e,t]=>within h 0 9&&(u5 p dd&&nQ b e)&&(if cH dd && !iR e then fX p t else iR t)
 |_=>false
theorem dz {x:D}{xs:List D}:dU (x::xs) 0=some x:=gv (n:=0) rfl
theorem fP {x y:D}{xs:List D}:dU (x::y::xs) 1=some y:=gv (n:=1) rfl
theorem qc {x y z:D}{xs:List D}:dU (x::y::z::xs) 2=some z:=gv (n:=2) rfl
theorem xb {x y z w:D}{xs:List D}:dU (x::y::z::w::xs) 3=some w:=gv (n:=3) rfl
theorem sU {x y z w v:D}{xs:List D}:dU (x::y::z::w::v::xs) 4=some v:=gv (n:=4) rfl
theorem eq_str {x y:Str}:aJ (.str x) (.str y)=(x == y):=by simp[aJ]
def sV (p:Int)(f:Fn):Prop:=∀d g,nf d=true->f [.int p,d] g=some (.bl (fX p d),g)
theorem E4 {t v:Fn}{p:Int}(hp:p<=100)(ht:dM t)(hv:u4 v):sV p (aA false 2 2 (kX t v)):=λd g hd=>by
 refine bM (σ':=[some (.int p),some d]) rfl ?_ rfl
 have a:=ht d p p g (gC hd)
 cases d with
 |tup xs =>
  by_cases h:(xs.length:Int)=p
  . have f:az xs.length=true:=aF (by omega)
    have e:=cz (t:=gN 1) (c:=aO) (e:=av v (aa (af 1) aj)) (h:=λd=>D.bl (isVal 3 d)) (λσ=>∃o,σ = [none,o]) xs [none,none] g ⟨_,rfl⟩ (by
     rintro d hm σ ⟨o,rfl⟩
     refine⟨[none,some d],by simp,by simp,?_,⟨_,rfl⟩⟩
     simp[hv d g (eY hd d hm)])
    have i:∀σ:Sg,bq [none,none] σ = [none,none]:=λ_=>rfl
    have b:bX (.tup xs) p p=true:=by simp[bX,h]
    rw[b]at a
    simp[kX,a,i,e,cp,fX,h,f]
  . have b:bX (.tup xs) p p=false:=by
     simp only[bX,ac4,decide_eq_false_iff_not];omega
    rw[b]at a
    simp[kX,a,fX,h]
 |fn x=>cases hd
 |_=>simp[kX,a,bX,fX]
theorem xc {t:FG}{c:FT}{e:FE}{cB:D->Bool}{h:D->D}(I:Sg->Prop):∀(ds:List D) (σ:Sg) (g:G),I σ->(∀d∈ds,∀σ,I σ->∃σ1,t d σ g=some (σ1,g)/\c σ1 g=some (cB d,g)/\(cB d=true->e σ1 g=some (h d,g))/\I σ1)->bV t c e ds σ g=some ((ds.filter cB).map h,g)
 | [],_,_,_,_=>rfl
 |d::ds,σ,g,hi,hh=>by
  obtain⟨σ1,b,a,i,f⟩:=hh d aaO σ hi
  have ih:=xc I ds σ1 g f λx j=>hh x (aaR _ j)
  cases hc:cB d with
  |true =>
   rw[hc]at a
   simp only[bV,b,a,i hc,aax,if_true,ih,abC,hc,aaX]
  |false =>
   rw[hc]at a
   simp only[bV,b,a,aax,aaF,if_false,ih,abC,hc]
noncomputable def eD:Option Int->D
 |none=>.ay
 |some e=>.int e
structure lZ (p:Int)(d:D)(h:Int)(dd:D)(b:Int)(e:Option Int)(tl:D):Prop where
 eq:d = .tup [.int h,dd,.int b,eD e,tl]
 h0:0<=h
 h9:h<=9
 dd_:u5 p dd=true
 b0:0<=b
 eb:∀x,e=some x->b<x
theorem zp {p:Int}{d:D}(hr:sT p d=true):∃h dd b e tl,lZ p d h dd b e tl:=by
 unfold sT at hr
 split at hr
 . rename_i h dd b e tl
   simp only[aav]at hr
   obtain⟨⟨c,l,a⟩,n⟩:=hr
   clear n
   unfold within at c
   split at c
   . rename_i i
     simp only[aav,decide_eq_true_eq]at c
     unfold nQ at a
     split at a
     . rename_i j
       simp only[aav,decide_eq_true_eq]at a
       obtain⟨a,f⟩:=a
       split at f
       . exact⟨i,dd,j,none,tl,rfl,c.1,c.2,l,a,λx z=>by cases z⟩
       . rename_i k
         exact⟨i,dd,j,some k,tl,rfl,c.1,c.2,l,a,λx z=>by cases z;exact of_decide_eq_true f⟩
       . cases f
     . cases a
   . cases c
 . cases hr
noncomputable def hI:D->Int
 |.tup (.int h::_)=>h
 |_=>0
noncomputable def bI:D->Int
 |.tup [_,_,.int b,_,_]=>b
 |_=>0
noncomputable def eI:D->Option Int
 |.tup [_,_,_,.int e,_]=>some e
 |_=>none
noncomputable def rJ (o r:D):Bool:=match eI o with
 |some e=>decide (e<=bI r)
 |none=>false
theorem lZ.hI {p d h dd b e tl}(r:lZ p d h dd b e tl):Pd.hI d=h:=by rw[r.eq];rfl
theorem lZ.bI {p d h dd b e tl}(r:lZ p d h dd b e tl):Pd.bI d=b:=by rw[r.eq];rfl
theorem lZ.eI {p d h dd b e tl}(r:lZ p d h dd b e tl):Pd.eI d=e:=by rw[r.eq];cases e<;>rfl
def kY (p:Int)(f:Fn):Prop:=∀o r g,sT p o=true->sT p r=true->f [o,r] g=some (.bl (rJ o r),g)
theorem E5 {p:Int}:kY p (aA false 2 2 sR):=λo r g f i=>by
 refine bM (σ':=[some o,some r]) rfl ?_ rfl
 obtain⟨h,s,b,e,j,R⟩:=zp f
 obtain⟨k,c,l,n,q,a⟩:=zp i
 unfold rJ
 rw[R.eI,a.bI,R.eq,a.eq]
 cases e<;>simp[sR,xb,qc,eD,isLit,dH]
structure cq (g gg:G)(n:Nat)(B:Int)(cs:List (List D)):Prop where
 hd:Hd gg n B
 lt:n<g.length
 len:gg.length=g.length+cs.length
 at_:∀i,i<cs.length->gg[g.length+i]? = cs[i]?
 old:∀j,j≠n->j<g.length->gg[j]? = g[j]?
theorem cq.none {g:G}{n:Nat}{B:Int}(h:Hd g n B):cq g g n B []:=⟨h,h.lt,by simp,λi a=>by simp at a,λj _ _=>rfl⟩
theorem cq.push {g gg:G}{n:Nat}{B:Int}{cs:List (List D)}(m:cq g gg n B cs)(xs:List D):cq g (gg ++ [xs]) n B (cs ++ [xs]):=by
 have f:=m.len
 have p:=m.lt
 obtain⟨a,b,c,o,k⟩:=m.hd
 refine⟨⟨a,b,c,by rw[aaS (by omega)];exact o,k⟩,p,by simp[f];omega,λi h=>?_,λj q l=>by rw[aaS (by omega)];exact m.old j q l⟩
 by_cases e:i<cs.length
 . rw[aaS (by omega),aaS e];exact m.at_ i e
 . have:i=cs.length:=by simp at h;omega
   subst this
   rw[abz (by omega),abz (by omega)]
   simp[f]
theorem cq.step {g gg g':G}{n:Nat}{B B':Int}{cs:List (List D)}(m:cq g gg n B cs)(h:Hd g' n B')(f:Fr n gg g'):cq g g' n B' cs:=by
 have:=m.lt
 exact⟨h,m.lt,by rw[f.1];exact m.len,λi b=>by rw[f.2 _ (by omega)];exact m.at_ i b,λj a c=>by rw[f.2 j a];exact m.old j a c⟩
theorem cq.put {g gg:G}{n:Nat}{B:Int}{cs:List (List D)}(m:cq g gg n B cs)(i:Nat)(ys:List D):cq g (gg.set (g.length+i) ys) n B (cs.set i ys):=by
 have p:=m.lt
 have l:=m.len
 obtain⟨a,b,c,h,k⟩:=m.hd
 refine⟨⟨a,b,c,by rw[aaU (by omega)];exact h,k⟩,p,by simp[l],λj f=>?_,λj f o=>by rw[aaU (by omega)];exact m.old j f o⟩
 by_cases e:i=j
 . subst e
   simp at f
   rw[ab5 (by omega),ab5 f]
 . rw[aaU (by omega),aaU e];exact m.at_ j (by simpa using f)
theorem cq.mono {g gg:G}{n:Nat}{B B':Int}{cs:List (List D)}(m:cq g gg n B cs)(h:B<=B'):cq g gg n B' cs:=⟨m.hd.mono h,m.lt,m.len,m.at_,m.old⟩
theorem cq.fin {g gg:G}{n:Nat}{B:Int}{cs:List (List D)}(m:cq g gg n B cs):Hd (gg.take g.length) n B/\Fr n g (gg.take g.length):=by
 have i:=m.lt
 have h:=m.len
 obtain⟨a,b,c,e,f⟩:=m.hd
 refine⟨⟨a,b,c,by rw[abi i];exact e,f⟩,by simp[h],λj k=>?_⟩
 by_cases hl:j<g.length
 . rw[abi hl];exact m.old j k hl
 . rw[abX (by simp;omega),abX (by omega)]
theorem cq.clean {g gg:G}{n:Nat}{B:Int}{cs:List (List D)}(m:cq g gg n B cs)(hc:Clean g):(gg.take g.length).all (aX g.length)=true:=by
 obtain⟨h,f⟩:=m.fin
 exact(hc.fr f h).all _
inductive f7:List D->Prop
 |nil:f7 []
 |cons (k:Int) (v:D) {r:List D}:f7 r->f7 (.int k::v::r)
theorem ic {a b:Int}:aJ (.int a) (.int b)=decide (a=b):=by
 by_cases h:a=b<;>simp[aJ,h]
theorem f7.put {xs:List D}(h:f7 xs)(k:Int)(v:D):f7 (bH xs (.int k) v):=by
 induction h with
 |nil=>exact .cons k v .nil
 |cons j w h ih =>
  simp only[bH,ic]
  split
  . exact .cons j v h
  . exact .cons j w ih
theorem f7.get {xs:List D}(h:f7 xs)(k j:Int)(v:D):aS (bH xs (.int k) v) (.int j)=if k=j then some v else aS xs (.int j):=by
 induction h with
 |nil=>simp[bH,aS,ic]
 |cons i w h ih =>
  simp only[bH,ic]
  by_cases e:i=k
  . subst e
    simp[aS,ic]
    split<;>rfl
  . simp[e,aS,ic,ih]
    by_cases e2:i=j
    . subst e2
      have:¬k=i:=λz=>e z.symm
      simp[this]
    . simp[e2]
theorem f7.len {xs:List D}(h:f7 xs)(k:Int)(v:D):(bH xs (.int k) v).length<=xs.length+2:=by
 induction h with
 |nil=>simp[bH]
 |cons i w h ih =>
  simp only[bH,ic]
  split
  . simp
  . simp;omega
theorem xf {xs:List D}(h:xs.length<=1000):kh xs=true:=aF (by omega)
theorem f7.bx {xs:List D}(h:f7 xs){n:Nat}(hv:aX n xs=true)(k:Int)(v:D)(hn:L3.bx n v=true):aX n (bH xs (.int k) v)=true:=by
 induction h with
 |nil=>simp[bH,aX,L3.bx,hn]
 |cons i w h ih =>
  simp only[aX,aav]at hv
  simp only[bH]
  split
  . simp[aX,hn,hv.1,hv.2.2]
  . simp[aX,hv.1,hv.2.1,ih hv.2.2]
theorem jm {xs:List D}(h:∀d∈xs,∃j:Int,d = .int j):aP xs=true/\bW xs=0:=by
 induction xs with
 |nil=>exact⟨rfl,rfl⟩
 |cons x xs ih =>
  obtain⟨j,rfl⟩:=h x (by simp)
  obtain⟨b,a⟩:=ih λd hd=>h d (by simp[hd])
  exact⟨by simp[aP,flat,b],by simp[bW,dep,a]⟩
noncomputable def E6:FS:=fu (dw isRef cV (af 3) (aa (aL aH (aa (af 11) (aa (af 8) (aa (aL aH (aa (af 10) (aa (af 12) (aa (af 4) (aa (z6 (aN (aq eO (af 10) (af 5))) (fC .ay) (aq aI (af 6) (af 10))) aj))))) aj)))) aj))
noncomputable def E_ (take:Fn):FS:=aD (cA (aN (aq oEq (av take (aa (af 0) (aa (fC (.int 8)) aj))) (fC (.int 0)))) (aM (fC (.bl true)) (jP (af 5) (af 10))) bp) E6
noncomputable def xg (take val:Fn):FS:=aD (aM (aL aH (aa (fC (.str "look")) aj)) (gN 12)) (aD (cA (aN (aq oLt (av take (aa (af 0) (aa (fC (.int 5)) aj))) (fC (.int 3)))) (aM (aL aH (aa (fC (.str "put")) (aa (av take (aa (af 0) (aa (af 1) aj))) (aa (av val (aa (af 0) aj)) aj)))) (gN 12)) bp) (E_ take))
noncomputable def AQ (take pick val:Fn):FS:=aD (aM (av pick (aa (af 0) (aa (af 9) aj))) (gN 10)) (aD (aM (aq aQ (aq aQ (af 4) (fC (.int 1))) (av pick (aa (af 0) (aa (aL cS (aa (fC (.int 0)) (aa (fC (.int 1)) (aa (fC (.int 2)) (aa (fC (.int 4)) (aa (fC (.int 9)) aj)))))) aj)))) (jP (af 6) (af 10))) (aD (aM (aq aQ (aq aQ (aq cL (fC (.int 4)) (af 4)) (fC (.int 1))) (av take (aa (af 0) (aa (aq (bK cf (· - ·)) (aq cL (fC (.int 4)) (aq (bK cf (· - ·)) (aq aI (af 6) (af 10)) (af 4))) (fC (.int 1))) aj)))) (gN 11)) (xg take val)))
noncomputable def xh (take pick val:Fn):FS:=aD (aM (aq aQ (af 4) (av pick (aa (af 0) (aa (aL cS (aa (fC (.int 0)) (aa (fC (.int 1)) (aa (fC (.int 1)) (aa (fC (.int 2)) (aa (fC (.int 5)) aj)))))) aj)))) (gN 4)) (aD (aM (bQ bU (m8 (aa (af 7) aj)) [none,none,some 4,some 6,some 5] (gN 1) (jI (aN (aq d_ (af 1) (af 4))) (aN (aq oLe (dw ki kA (af 3) (aa (af 1) (aa (fC (.int 0)) aj))) (af 2)))) (af 1)) (gN 9)) (cA (aN (aq sC (af 9) (aL cS aj))) (AQ take pick val) bp))
noncomputable def rK (take pick val:Fn):FS:=aD (aM (aL aH (aa (aL mkRef aj) (aa (fC (.int 0)) (aa lP (aa lP aj))))) (gT 4 (aw (gN 3) (aw (gN 4) (aw (gN 5) (aw (gN 6) aV)))))) (aD (aM (av pick (aa (af 0) (aa (aL cS (aa (fC (.int 1)) (aa (fC (.int 2)) (aa (fC (.int 3)) (aa (fC (.int 3)) (aa (fC (.int 4)) (aa (fC (.int 5)) aj))))))) aj))) (gN 7)) (aD (e_ (m8 (aa (av take (aa (af 0) (aa (aq aQ (af 2) (fC (.int 1))) aj))) aj)) (gN 8) (xh take pick val)) (aU (af 3))))
noncomputable def xk (pick:Fn):FS:=aU (av pick (aa (af 0) (aa (aL cS (aa (fC (.int 1)) (aa (fC (.int 1)) (aa (fC (.int 2)) (aa (fC (.int 3)) (aa (fC (.int 0)) (aa (aL aH aj) (aa (aL aH (aa (fC (.int 1)) (aa (fC (.int 2)) aj))) (aa (vK lG (fC (.int 5))) aj))))))))) aj)))
structure Row where
 pt:Int
 k:Int
 h:Int
 dd:D
 b:Int
 e:Option Int
noncomputable def Row.ls (r:Row):List D:=[.int r.h,r.dd,.int r.b,eD r.e]
noncomputable def Row.d (r:Row):D:=.tup [.int r.pt,.int r.k,.tup r.ls]
noncomputable def vals:List D:=[.int 1,.int 1,.int 2,.int 3,.int 0,.tup [],.tup [.int 1,.int 2],.int (-5)]
def Vl (v:D):Prop:=v∈vals \/ ∃n:Nat,n<=1000/\v = .tup [.int n,.int 7]
def f_ (p:Int)(dd:D):Prop:=dd = .tup [.str "look"] \/ ∃q v,dd = .tup [.str "put",.int q,v]/\0<=q/\q<p/\Vl v
theorem rL (h:v∈vals):v = .int 1\/v = .int 2\/v = .int 3\/v = .int 0\/v = .tup []\/v = .tup [.int 1,.int 2]\/v = .int (-5):=by
 simpa[vals]using h
theorem jx (h:Vl v):isVal 3 v=true:=by
 rcases h with h|⟨n,hn,rfl⟩
 . rcases rL h with rfl|rfl|rfl|rfl|rfl|rfl|rfl<;>decide
 . have:jU (.int (n:Int))=true:=by simp[jU,within];omega
   have a:jU (.int 7)=true:=by decide
   simp[isVal,this,a]
theorem f_.told {p dd}(h:f_ p dd):u5 p dd=true:=by
 rcases h with rfl|⟨q,v,rfl,h0,h1,hv⟩
 . rfl
 . have:=jx hv
   simp[u5,within,this];omega
theorem f_.nf {p dd}(h:f_ p dd):nf dd=true:=by
 rcases h with rfl|⟨q,v,rfl,h0,h1,hv⟩
 . rfl
 . rcases hv with hv|⟨n,hn,rfl⟩
   . rcases rL hv with rfl|rfl|rfl|rfl|rfl|rfl|rfl<;>rfl
   . rfl
theorem f_.flat {p dd}(h:f_ p dd):L3.flat dd=true/\dep dd<=3:=by
 rcases h with rfl|⟨q,v,rfl,h0,h1,hv⟩
 . simp[L3.flat,aP,dep,bW]
 . rcases hv with hv|⟨n,hn,rfl⟩
   . rcases rL hv with rfl|rfl|rfl|rfl|rfl|rfl|rfl<;>simp[L3.flat,aP,dep,bW]
   . simp[L3.flat,aP,dep,bW]
theorem f_.bx {p dd}(h:f_ p dd)(n:Nat):L3.bx n dd=true:=by
 rcases h with rfl|⟨q,v,rfl,h0,h1,hv⟩
 . simp[L3.bx,aX]
 . rcases hv with hv|⟨n,hn,rfl⟩
   . rcases rL hv with rfl|rfl|rfl|rfl|rfl|rfl|rfl<;>simp[L3.bx,aX]
   . simp[L3.bx,aX]
structure nR (p:Int)(r:Row):Prop where
 h0:0<=r.h
 h9:r.h<=9
 dd:f_ p r.dd
 b0:0<=r.b
 eb:∀x,r.e=some x->r.b<x
 pa:4*r.b<r.pt
 pb:∀x,r.e=some x->r.pt<4*x
def After (r s:Row):Prop:=r.k<s.k/\r.b<=s.b/\(r.h=s.h->∃x,r.e=some x/\x<=s.b)
structure nS (p:Int)(i:Nat)(bg:Int)(rws:List Row)(op en:List D):Prop where
 g:∀r∈rws,nR p r
 kk:∀r∈rws,0<=r.k/\r.k<i
 bb:∀r∈rws,r.b<=bg
 pw:rws.Pairwise After
 len:rws.length<=i
 io:f7 op
 ie:f7 en
 lo:op.length<=2*i
 le:en.length<=2*i
 ev:∀j d,aS en (.int j)=some d->∃x,d = .int x
 Oa:∀r∈rws,r.e=none->(aS op (.int r.h)).isSome=true
 cl:∀r∈rws,∀x,r.e=some x->∃y,aS en (.int r.h)=some (.int y)/\x<=y
 Hz:0<=bg
 Ob:bg<=5*i
 h5:∀r∈rws,r.h<=4
theorem nS.skip {p i bg ig rws op en}(h:nS p i bg rws op en)(h1:bg<=ig)(h2:ig<=bg+5):nS p (i+1) ig rws op en:=by
 have:=h.len;have:=h.lo;have:=h.le;have:=h.Hz;have:=h.Ob
 exact⟨h.g,λr a=>⟨(h.kk r a).1,by have:=(h.kk r a).2;omega⟩,λr a=>afT (h.bb r a) h1,h.pw,by omega,h.io,h.ie,by omega,by omega,h.ev,h.Oa,h.cl,by omega,by omega,h.h5⟩
noncomputable def CU (en:List D)(j:Int):Int:=match(aS en (.int j)).getD (.int 0)with
 |.int y=>y
 |_=>0
theorem nS.en {p i bg rws op en}(h:nS p i bg rws op en)(j:Int):(aS en (.int j)).getD (.int 0)= .int (CU en j):=by
 unfold CU
 cases e:aS en (.int j)with
 |none=>rfl
 |some d=>obtain⟨x,rfl⟩:=h.ev j d e;rfl
theorem nS.step {p i bg ig rws op en}(h:nS p i bg rws op en)(h1:bg<=ig)(h2:ig<=bg+5)(o0:0<=one)(o9:one<=4)(ho:aS op (.int one)=none)(hy:CU en one<=ig)(hE:ig < E)(Y6:4*ig < pt)(Y7:pt<4*E)(hd:f_ p dd)(Oc:b8=op\/b8=bH op (.int one) (.bl true)):
   nS p (i+1) ig (rws ++ [⟨pt,i,one,dd,ig,if(aS b8 (.int one)).isSome then none else some E⟩]) b8 (bH en (.int one) (.int E)):=by
 have hl:=h.len;have z:=h.lo;have hle:=h.le;have n:=h.Hz;have l:=h.Ob
 have mono:∀j,(aS op (.int j)).isSome=true->(aS b8 (.int j)).isSome=true:=λj f=>by
   rcases Oc with rfl|rfl
   . exact f
   . rw[h.io.get];split
     . rfl
     . exact f
 have old:∀r∈rws,r.h=one->∃x y,r.e=some x/\aS en (.int one)=some (.int y)/\x<=y/\y<=ig:=λr a e=>by
   cases he:r.e with
   |none =>
     have:=h.Oa r a he
     rw[e,ho]at this
     cases this
   |some x =>
     obtain⟨y,c,u⟩:=h.cl r a x he
     rw[e]at c
     refine⟨x,y,rfl,c,u,?_⟩
     simpa[CU,c]using hy
 refine⟨λr a=>?_,λr a=>?_,λr a=>?_,?_,by simp;omega,?_,h.ie.put _ _,?_,?_,λj d e=>?_,λr a e=>?_,λr a x e=>?_,by omega,by omega,λr a=>?_⟩
 . rcases aaE.mp a with a|a
   . exact h.g r a
   . simp at a
     subst a
     exact⟨o0,afT o9 (by decide),hd,by show 0<=ig;omega,λx e=>by
       dsimp only at e
       split at e
       . cases e
       . cases e;exact hE,Y6,λx e=>by
       dsimp only at e
       split at e
       . cases e
       . cases e;exact Y7⟩
 . rcases aaE.mp a with a|a
   . have:=h.kk r a;exact⟨this.1,by omega⟩
   . simp at a
     subst a
     exact⟨by show(0:Int)<=(i:Int);omega,by show(i:Int)<((i+1:Nat):Int);omega⟩
 . rcases aaE.mp a with a|a
   . exact afT (h.bb r a) h1
   . simp at a
     subst a
     exact Int.le_refl _
 . rw[agw]
   refine⟨h.pw,by simp,λr a s k=>?_⟩
   simp at k
   subst k
   refine⟨(h.kk r a).2,afT (h.bb r a) h1,λe=>?_⟩
   obtain⟨x,y,b,_,q,o⟩:=old r a e
   exact⟨x,b,by show x<=ig;omega⟩
 . rcases Oc with rfl|rfl
   . exact h.io
   . exact h.io.put _ _
 . rcases Oc with rfl|rfl
   . omega
   . have:=h.io.len one (.bl true);omega
 . have:=h.ie.len one (.int E);omega
 . rw[h.ie.get]at e
   split at e
   . cases e;exact⟨_,rfl⟩
   . exact h.ev j d e
 . rcases aaE.mp a with a|a
   . exact mono _ (h.Oa r a e)
   . simp at a
     subst a
     dsimp only at e ⊢
     split at e
     . assumption
     . cases e
 . rw[h.ie.get]
   rcases aaE.mp a with a|a
   . split
     . rename_i b
       obtain⟨v,y,b,_,q,o⟩:=old r a b.symm
       rw[e]at b
       cases b
       exact⟨E,rfl,by omega⟩
     . exact h.cl r a x e
   . simp at a
     subst a
     dsimp only at e ⊢
     split at e
     . cases e
     . cases e
       simp
 . rcases aaE.mp a with a|a
   . exact h.h5 r a
   . simp at a
     subst a
     exact o9
def eh (f:Fn):Prop:=∀(n:Nat) (g:G) (B:Int),B<2 ^ 40->Hd g n B->∃d g',f [.ref n] g=some (d,g')/\d∈vals/\Hd g' n (B+1)/\Fr n g g'
theorem J7 (hp:fO p):eh (aA false 1 1 (xk p)):=λn g B b h=>by
 obtain⟨d,f,e,hd,c,a⟩:=hp n vals g B b (by simp[vals]) (by simp[vals]) h
 refine⟨d,f,bM (σ':=[some (.ref n)]) rfl ?_ a.1,hd,c,a⟩
 unfold vals at e
 simp[xk,e]
theorem eh.w (h:eh f){Q:D×G->Prop}(hB:B<2 ^ 40)(hh:Hd g n B)(q:∀d g',d∈vals->Hd g' n (B+1)->Fr n g g'->Q (d,g')):wp (f [.ref n] g) Q:=by
 obtain⟨d,g',e,a,c,b⟩:=h n g B hB hh
 exact⟨_,e,q d g' a c b⟩
theorem cq.a0 (m:cq g gg n B (x::cs)):gg[g.length]? = some x:=m.at_ 0 (by simp)
theorem cq.a1 (m:cq g gg n B (x::y::cs)):gg[g.length+1]? = some y:=m.at_ 1 (by simp)
theorem cq.a2 (m:cq g gg n B (x::y::z::cs)):gg[g.length+2]? = some z:=m.at_ 2 (by simp)
set_option maxHeartbeats 4000000 in
theorem Fb (ht:dy take)(hv:eh val){Q:F×Sg×G->Prop}(hB:B+10<2 ^ 40)(hp:0<p)(mE:p<=1000)(m:cq g gg n B [rows,op,en])(he:aS en (.int one)=some (.int E))(hs:kh op=true)(hz:rows.length+1<=1000)
   (q:∀dd b8 g',f_ p dd->(b8=op\/b8=bH op (.int one) (.bl true))->cq g g' n (B+4) [rows ++ [Row.d ⟨pt,k,one,dd,bg,if(aS b8 (.int one)).isSome then none else some E⟩],b8,en]->Q (.nx,[some (.ref n),some (.int p),some (.int most),some (.ref g.length),some (.int bg),some (.aG (g.length+1)),some (.aG (g.length+2)),some (.int dY),some (.int k),o9,some (.int one),some (.int pt),some dd],g')):
   wp (xg take val [some (.ref n),some (.int p),some (.int most),some (.ref g.length),some (.int bg),some (.aG (g.length+1)),some (.aG (g.length+2)),some (.int dY),some (.int k),o9,some (.int one),some (.int pt),fY] gg) Q:=by
 have j:az (rows.length+1)=true:=aF hz
 have fin:∀(dd:D) (b8:List D) (g':G) (a:Int),a<=B+4->f_ p dd->(b8=op\/b8=bH op (.int one) (.bl true))->cq g g' n a [rows,b8,en]->wp (E6 [some (.ref n),some (.int p),some (.int most),some (.ref g.length),some (.int bg),some (.aG (g.length+1)),some (.aG (g.length+2)),some (.int dY),some (.int k),o9,some (.int one),some (.int pt),some dd] g') Q:=by
   intro dd b8 g' a i hd u e
   have a0:=e.a0
   have a1:=e.a1
   have a2:=e.a2
   have z:=q dd b8 _ hd u ((e.mono i).put 0 (rows ++ [Row.d ⟨pt,k,one,dd,bg,if(aS b8 (.int one)).isSome then none else some E⟩]))
   unfold E6
   cases hh:(aS b8 (.int one)).isSome with
   |true =>
     simp[hh]at z
     simp[a0,a1,a2,hh,he,j]
     exact z
   |false =>
     simp[hh]at z
     simp[a0,a1,a2,hh,he,j]
     exact z
 have mid:∀(dd:D) (g':G) (a:Int),a<=B+3->f_ p dd->cq g g' n a [rows,op,en]->wp (E_ take [some (.ref n),some (.int p),some (.int most),some (.ref g.length),some (.int bg),some (.aG (g.length+1)),some (.aG (g.length+2)),some (.int dY),some (.int k),o9,some (.int one),some (.int pt),some dd] g') Q:=by
   intro dd g' a i hd e
   unfold E_
   simp
   refine ht.w (by omega) (by decide) (by decide) e.hd λr g2 y r1 f f2=>?_
   have b:=e.step f f2
   have a1:=b.a1
   by_cases hr:r=0
   . simp[hr,a1,hs]
     exact fin dd _ _ (a+1) (by omega) hd (.inr rfl) (b.put 1 _)
   . simp[hr]
     exact fin dd _ _ (a+1) (by omega) hd (.inl rfl) b
 unfold xg
 simp
 refine ht.w (by omega) (by decide) (by decide) m.hd λr g2 y r1 f f2=>?_
 have b:=m.step f f2
 by_cases hr:r<3
 . simp[hr]
   refine ht.w (by omega) (by omega) (by omega) b.hd λc g3 o x h3 l=>?_
   have h:=b.step h3 l
   simp
   refine hv.w (by omega) h.hd λv g4 v0 s f4=>?_
   have m4:=h.step s f4
   simp
   exact mid _ _ _ (by omega) (.inr ⟨c,v,rfl,o,x,.inl v0⟩) m4
 . simp[hr]
   exact mid _ _ _ (by omega) (.inl rfl) b
set_option maxHeartbeats 4000000 in
theorem J8 (ht:dy take)(hp:fO pick)(hv:eh val){Q:F×Sg×G->Prop}(hB:B+20<2 ^ 40)(p0:0<p)(mE:p<=1000)(Hz:0<=bg)(bg1:bg<=1000)(m:cq g gg n B [rows,op,en])(hs:kh op=true)(mP:kh en=true)(Y8:f7 en)(hz:rows.length+1<=1000)(hx:xs ≠ [])(yI:xs.length<=100)(HA:∀d∈xs,∃j:Int,d = .int j)
  (q:∀one pt E dd b8 g',.int one∈xs->bg<E->4*bg<pt->pt<4*E->f_ p dd->(b8=op\/b8=bH op (.int one) (.bl true))->cq g g' n (B+8) [rows ++ [Row.d ⟨pt,k,one,dd,bg,if(aS b8 (.int one)).isSome then none else some E⟩],b8,bH en (.int one) (.int E)]->Q (.nx,[some (.ref n),some (.int p),some (.int most),some (.ref g.length),some (.int bg),some (.aG (g.length+1)),some (.aG (g.length+2)),some (.int dY),some (.int k),some (.lst xs),some (.int one),some (.int pt),some dd],g')):
  wp (AQ take pick val [some (.ref n),some (.int p),some (.int most),some (.ref g.length),some (.int bg),some (.aG (g.length+1)),some (.aG (g.length+2)),some (.int dY),some (.int k),some (.lst xs),eu,dW,fY] gg) Q:=by
 unfold AQ
 simp
 refine hp.w (by omega) hx (by omega) m.hd λd g2 hd h f2=>?_
 obtain⟨one,rfl⟩:=HA d hd
 have f:=m.step h f2
 simp
 refine hp.w (by omega) (by simp) (by simp) f.hd λc g3 e h3 o=>?_
 have b:=f.step h3 o
 obtain⟨c,rfl,c0,c9⟩:∃i:Int,c = .int i/\0<=i/\i<=9:=by
  simp only[aaD,ad0,or_false]at e
  rcases e with rfl|rfl|rfl|rfl|rfl<;>exact⟨_,rfl,by decide,by decide⟩
 have a2:=b.a2
 have a:=b.put 2 (bH en (.int one) (.int (bg+1+c)))
 have y:=a.a2
 have gt:aS (bH en (.int one) (.int (bg+1+c))) (.int one)=some (.int (bg+1+c)):=by rw[Y8.get];simp
 have k1:cT 4 bg=true:=gO (by decide) (by decide)
 have l:cT 4 (bg+1+c-bg)=true:=gO (by decide) (by decide)
 simp[a2,mP,y,gt,k1,l]
 refine ht.w (by omega) (by omega) (by omega) a.hd λr g5 r0 r1 h5 z=>?_
 have v:=a.step h5 z
 simp
 refine Fb ht hv (by omega) p0 mE v gt hs hz λdd b8 g' x u s=>?_
 exact q one _ _ dd b8 g' hd (by omega) (by omega) (by omega) x u (s.mono (by omega))
noncomputable def may (op en:List D)(bg:Int):D->Bool
 |.int j=>!(aS op (.int j)).isSome&&decide (CU en j<=bg)
 |_=>false
theorem zq (h:d∈et 0 n):∃j:Nat,j<n/\d = .int j:=by
 obtain⟨i,c⟩:=acz.mp h
 obtain⟨a,b⟩:=gI c
 exact⟨i,a,b⟩
set_option maxHeartbeats 4000000 in
theorem Fc (ht:dy take)(hp:fO pick)(hv:eh val){Q:F×Sg×G->Prop}(hB:B+30<2 ^ 40)(p0:0<p)(mE:p<=1000)(hh1:1<=dY)(hh:dY<=5)(hi:i<=100)(m:cq g gg n B [rws.map Row.d,op,en])(I:nS p i bg rws op en)
  (q:∀ig Fd b8 Oe g' o9 eu dW fY,cq g g' n (B+10) [Fd.map Row.d,b8,Oe]->nS p (i+1) ig Fd b8 Oe->Q (.nx,[some (.ref n),some (.int p),some (.int most),some (.ref g.length),some (.int ig),some (.aG (g.length+1)),some (.aG (g.length+2)),some (.int dY),some (.int i),o9,eu,dW,fY],g')):
  wp (xh take pick val [some (.ref n),some (.int p),some (.int most),some (.ref g.length),some (.int bg),some (.aG (g.length+1)),some (.aG (g.length+2)),some (.int dY),some (.int i),o9,eu,dW,fY] gg) Q:=by
 unfold xh
 simp
 refine hp.w (by omega) (by simp) (by simp) m.hd λc g2 s l f2=>?_
 have f:=m.step l f2
 obtain⟨c,rfl,y,z⟩:∃i:Int,c = .int i/\0<=i/\i<=5:=by
  simp only[aaD,ad0,or_false]at s
  rcases s with rfl|rfl|rfl|rfl|rfl<;>exact⟨_,rfl,by decide,by decide⟩
 have ae:=I.Hz
 have ab:=I.Ob
 have hlen:=I.len
 have ym:=I.lo
 have hle:=I.le
 have a1:=f.a1
 have a2:=f.a2
 simp
 refine lY ?_
 simp
 refine⟨by omega,by omega,?_⟩
 have hz:az (et 0 dY.toNat).length=true:=aF (by rw[gP];omega)
 have cm:=xc (t:=gN 1) (c:=jI (aN (aq d_ (af 1) (af 4))) (aN (aq oLe (dw ki kA (af 3) (aa (af 1) (aa (fC (.int 0)) aj))) (af 2)))) (e:=af 1) (cB:=may op en (bg+c)) (h:=λd=>d) (λσ=>∃o,σ = [none,o,some (.int (bg+c)),some (.aG (g.length+2)),some (.aG (g.length+1))]) (et 0 dY.toNat) [none,none,some (.int (bg+c)),some (.aG (g.length+2)),some (.aG (g.length+1))] g2 ⟨_,rfl⟩ (by
  rintro d hm σ ⟨o,rfl⟩
  obtain⟨j,hj,rfl⟩:=zq hm
  refine⟨[none,some (.int j),some (.int (bg+c)),some (.aG (g.length+2)),some (.aG (g.length+1))],by simp,?_,λ_=>by simp,⟨_,rfl⟩⟩
  have e:=I.en j
  cases k:(aS op (.int j)).isSome with
  |true=>simp[a1,a2,k,may]
  |false=>simp[a1,a2,k,may,e])
 have sb:∀a b y c1 c2 c3 c4 z c6 c7 c8 c9 Of:Option D,bq [none,none,some 4,some 6,some 5] [y,c1,c2,c3,a,b,c4,z,c6,c7,c8,c9,Of]= [none,none,a,c4,b]:=λ_ _ _ _ _ _ _ _ _ _ _ _ _=>rfl
 have u:∀d∈(et 0 dY.toNat).filter (may op en (bg+c)),(∃j:Nat,(j:Int)<dY/\d = .int j)/\may op en (bg+c) d=true:=λd hd=>by
  obtain⟨r,l⟩:=aa3.mp hd
  obtain⟨j,h3,rfl⟩:=zq r
  exact⟨⟨j,by omega,rfl⟩,l⟩
 have HB:((et 0 dY.toNat).filter (may op en (bg+c))).length<=10:=by
  have:=abh (may op en (bg+c)) (et 0 dY.toNat)
  rw[gP]at this
  omega
 rw[List.map_id']at cm
 generalize (et 0 dY.toNat).filter (may op en (bg+c))=xs at *
 have v:∀d∈xs,∃j:Int,d = .int j:=λd hd=>let⟨⟨j,_,e⟩,_⟩:=u d hd;⟨_,e⟩
 obtain⟨fl,dl⟩:=jm v
 have Og:flat (.lst xs)=true:=by simpa[flat]using fl
 have Y9:dep (.lst xs)=1:=by simp[dep,dl]
 have el:aJ (.lst xs) (.lst [])=xs.isEmpty:=by cases xs<;>simp[aJ,b6]
 have fn:flat (.lst [])=true:=by simp[flat,aP]
 simp[sb,cm,hz,Og,Y9,el,fn]
 cases xs with
 |nil =>
  simp
  exact q _ _ _ _ _ _ _ _ _ (f.mono (by omega)) (I.skip (by omega) (by omega))
 |cons x xs =>
  simp
  refine J8 ht hp hv (by omega) p0 mE (by omega) (by omega) f (xf (by omega)) (xf (by omega)) I.ie (by simp;omega) (by simp) (by omega) v λone pt E dd b8 g' r h3 Y_ Za h4 h5 m'=>?_
  obtain⟨⟨j,j1,j2⟩,hm⟩:=u _ r
  cases j2
  simp only[may,aav,abc,decide_eq_true_eq]at hm
  have k:aS op (.int j)=none:=by
   cases e:aS op (.int (j:Int))with
   |none=>rfl
   |some d=>rw[e]at hm;cases hm.1
  refine q _ (rws ++ [⟨pt,i,j,dd,bg+c,if(aS b8 (.int j)).isSome then none else some E⟩]) _ _ _ _ _ _ _ ?_ (I.step (by omega) (by omega) (by omega) (by omega) k hm.2 h3 Y_ Za h4 h5)
  rw[aeb]
  exact m'.mono (by omega)
structure Rows (p:Int)(most:Nat)(rws:List Row):Prop where
 g:∀r∈rws,nR p r
 pw:rws.Pairwise After
 len:rws.length<=most
 kk:∀r∈rws,0<=r.k/\r.k<1000
 h5:∀r∈rws,r.h<=4
theorem Row.bx (h:nR p r)(n:Nat):L3.bx n r.d=true:=by
 have:=h.dd.bx n
 obtain⟨pt,k,a,c,b,e⟩:=r
 cases e<;>simp[Row.d,Row.ls,L3.bx,aX,eD,this]
def Rj (n:Nat)(p:Int)(most:Nat)(c B:Int)(g:G)(R i:Nat)(σ:Sg)(gg:G):Prop:=i<=R->∃bg rws op en o8 o9 eu dW fY,σ = [some (.ref n),some (.int p),some (.int most),some (.ref g.length),some (.int bg),some (.aG (g.length+1)),some (.aG (g.length+2)),some (.int c),o8,o9,eu,dW,fY]/\cq g gg n (B+2+10*i) [rws.map Row.d,op,en]/\nS p i bg rws op en
set_option maxHeartbeats 4000000 in
theorem Oh (ht:dy take)(hp:fO pick)(hv:eh val){Q:D×G->Prop}(hB:B+2000<2 ^ 40)(p0:0<p)(mE:p<=1000)(hm:most<=50)(hd:Hd g n B)(hc:Clean g)
   (q:∀rws g',Rows p most rws->Hd g' n (B+1000)->Fr n g g'->Q (.lst (rws.map Row.d),g')):
   wp (aA false 13 3 (rK take pick val) [.ref n,.int p,.int most] g) Q:=by
 refine oO rfl ?_
 unfold rK
 simp
 have m0:cq g (g ++ [[],[],[]]) n B [[],[],[]]:=by simpa using (((cq.none hd).push []).push []).push []
 refine hp.w (B:=B) (by omega) (by simp) (by simp) m0.hd λc g2 o y f2=>?_
 have l:=m0.step y f2
 obtain⟨c,rfl,c0,Of⟩:∃i:Int,c = .int i/\1<=i/\i<=5:=by
   simp only[aaD,ad0,or_false]at o
   rcases o with rfl|rfl|rfl|rfl|rfl|rfl<;>exact⟨_,rfl,by decide,by decide⟩
 refine lY ?_
 simp
 refine ht.w (by omega) (by omega) (by omega) l.hd λr g3 r0 r1 h3 f3=>?_
 have z:=l.step h3 f3
 simp
 refine⟨by omega,by omega,?_⟩
 refine ip (λi σ f=>Rj n p most c B g r.toNat i σ f) _ 0 _ _ (λ_=>⟨0,[],[],[],none,none,none,none,none,rfl,z.mono (by omega),⟨by simp,by simp,by simp,.nil,by simp,.nil,.nil,by simp,by simp,(λj d e=>by cases e),by simp,by simp,by omega,by omega,by simp⟩⟩) ?_ ?_
 . intro j d σ f ug hI
   obtain⟨hj,rfl⟩:=gI ug
   obtain⟨bg,rws,op,en,o8,u,h,k,s,rfl,m,I⟩:=hI (by omega)
   rw[ac0]at *
   simp
   refine Fc ht hp hv (by omega) p0 mE c0 Of (by omega) m I λig Fd b8 Oe g' u h k s m' v=>?_
   exact λ_=>⟨_,_,_,_,_,_,_,_,_,rfl,m'.mono (by omega),v⟩
 . intro σ f hI
   rw[gP]at hI
   obtain⟨bg,rws,op,en,o8,u,h,k,s,rfl,m,I⟩:=hI (by omega)
   have a0:=m.a0
   have hl:=I.len
   simp[a0]
   obtain⟨f1,f2⟩:=m.fin
   have cl:=m.clean hc
   exact⟨cF λx a=>by
    obtain⟨r,b,rfl⟩:=aaJ.mp a
    exact Row.bx (I.g r b) _,λx a=>aaQ.mp cl x a,q rws _ ⟨I.g,I.pw,by omega,(λr b=>by have:=I.kk r b;omega),I.h5⟩ (f1.mono (by omega)) f2⟩
noncomputable def HC:FS:=cA (aN (aq oEq (aq aI (af 8) (fC (.int 0))) (fC (.str "put")))) (aM (aq aQ (aq aQ (fZ (af 2) fg (dA (aq aI (af 8) (fC (.int 1))))) (aL aH (aa (aq aI (af 8) (fC (.int 2))) aj))) (fZ (af 2) (dA (aq aQ (aq aI (af 8) (fC (.int 1))) (fC (.int 1)))) fg)) (gN 2)) bp
noncomputable def HD:FS:=cA (kI (aN (aq oEq (aq aI (af 8) (fC (.int 0))) (fC (.str "put")))) (aN (aq dI (af 10) (fC .ay)))) (fu (dw isRef cV (af 4) (aa (af 6) aj))) bp
noncomputable def HE:FS:=cA (jI (aN (aq oEq (aq aI (af 8) (fC (.int 0))) (fC (.str "look")))) (aN (aq dI (af 10) (fC .ay)))) (aM (af 2) (jP (af 3) (af 6))) bp
noncomputable def nT:FS:=aD HC (aD HD HE)
noncomputable def SQ:FG:=gT 3 (aw (gN 5) (aw (gN 6) (aw (gT 4 (aw (gN 7) (aw (gN 8) (aw (gN 9) (aw (gN 10) aV))))) aV)))
noncomputable def nums:FE:=bQ bU (cv (af 1)) [none,none,none,none] (gT 3 (aw (gN 1) (aw (gN 2) (aw (gN 3) aV)))) aO (af 2)
noncomputable def Fe:FE:=bQ bU (cv (af 1)) [none,none,none,none,some 3] (gT 3 (aw (gN 1) (aw (gN 2) (aw (gN 3) aV)))) aO (aq aQ (af 3) (aL aH (aa (dw ki kA (af 4) (aa (af 2) aj)) aj)))
noncomputable def Ff:FE:=fN bU (nB (af 4)) [none,none,some 11] (gN 1) aO (dw jS iO (af 2) (aa (af 1) aj))
noncomputable def rM:FS:=aD (aM (aL aH (aa (aq cL (aL aH (aa (fC (.int 0)) aj)) (af 0)) (aa lP (aa (aL mkRef aj) aj)))) (gT 3 (aw (gN 2) (aw (gN 3) (aw (gN 4) aV))))) (aD (e_ (cv (av iP (aa (af 1) aj))) SQ nT) (aD (aM nums (gN 11)) (aU (aL aH (aa (av fJ (aa Fe aj)) (aa (av fJ (aa Ff aj)) aj))))))
theorem jV:∀(n:Nat) (d:D),isVal n d=true->nf d=true /\ ∀m,bx m d=true
 | 0,d,h=>by
  unfold isVal jU within at h
  split at h
  . exact⟨rfl,λ_=>rfl⟩
  . cases h
 |n+1,d,h=>by
  cases d with
  |tup xs =>
    simp only[isVal,aav,aaQ]at h
    have:∀a:List D,(∀y∈a,isVal n y=true)->nO a=true /\ ∀m,aX m a=true:=λa=>by
     induction a with
     |nil=>intro _;exact⟨rfl,λ_=>rfl⟩
     |cons y a ih =>
      intro e
      obtain⟨c,b⟩:=jV n y (e y (by simp))
      obtain⟨f,i⟩:=ih λz j=>e z (by simp[j])
      exact⟨by simp[nO,c,f],λm=>by simp[aX,b m,i m]⟩
    obtain⟨c,b⟩:=this xs h.2
    exact⟨by simpa[nf]using c,λm=>by simpa[bx]using b m⟩
  |_=>first|exact⟨rfl,λ_=>rfl⟩| (simp[isVal,jU,within]at h)
theorem rN {xs:List D}(h:∀x∈xs,nf x=true):nO xs=true:=by
 induction xs with
 |nil=>rfl
 |cons x xs ih=>simp[nO,h x (by simp),ih λy a=>h y (by simp[a])]
theorem rO {p:Int}{d:D}(h:fX p d=true):nf d=true /\ ∀m,bx m d=true:=by
 unfold fX at h
 split at h
 . rename_i xs
   simp only[aav,aaQ]at h
   exact⟨by simpa[nf]using rN λx a=>(jV 3 x (h.2 x a)).1,λm=>by simpa[bx]using cF λx a=>(jV 3 x (h.2 x a)).2 m⟩
 . cases h
def St (p:Int)(st:List D):Prop:=(st.length:Int)=p /\ ∀x∈st,isVal 3 x=true
theorem St.B {p st}(h:St p st):fX p (.tup st)=true:=by
 simp only[fX,aav,decide_eq_true_eq,aaQ]
 exact h
structure TI (p:Int)(done:List Row)(st tl:List D)(ks:List Int):Prop where
 st:St p st
 it:f7 tl
 Oi:tl.length<=2*done.length
 t1:∀j d,aS tl (.int j)=some d->fX p d=true /\ ∃r∈done,r.k=j/\cH r.dd=true/\r.e.isSome=true
 t2:∀r∈done,cH r.dd=true->r.e.isSome=true->(aS tl (.int r.k)).isSome=true
 Oj:ks.length<=done.length
 va:∀k∈ks,∃r∈done,r.k=k
noncomputable def fQ (st:List D):D->List D
 |.tup [.str _,.int c,v]=>st.take c.toNat++v::st.drop (c.toNat+1)
 |_=>st
theorem Ol {g:G}{a b:List D}:(g ++ [a,b])[g.length]? = some a:=by simp
theorem Om {g:G}{a b:List D}:(g ++ [a,b])[g.length+1]? = some b:=by simp
theorem SR {g:G}{a b c:List D}:(g ++ [a,b]).set g.length c=g ++ [c,b]:=by simp
theorem SS {g:G}{a b c:List D}:(g ++ [a,b]).set (g.length+1) c=g ++ [a,c]:=by
 rw[List.set_append_right _ _ (by omega)];simp
theorem rP {rws:List Row}(h:rws.Pairwise After):∀r∈rws,∀s∈rws,r.k=s.k->r=s:=by
 induction rws with
 |nil=>intro r a;simp at a
 |cons x xs ih =>
  rw[ahb]at h
  intro r a s b e
  rcases aaD.mp a with h1|h1<;>rcases aaD.mp b with h2|h2
  . rw[h1,h2]
  . subst h1;have:=(h.1 s h2).1;omega
  . subst h2;have:=(h.1 r h1).1;omega
  . exact ih h.2 r h1 s h2 e
set_option maxHeartbeats 4000000 in
theorem Fg {p:Int}{g:G}{done:List Row}{st tl rows:List D}{ks:List Int}{r:Row}{dW:Option D}{Q:F×Sg×G->Prop}(hp:p<=100)(I:TI p done st tl ks)(hr:nR p r)(hl:done.length<=100)
   (q:∀dh Hy uo,TI p (done ++ [r]) dh Hy uo->Q (.nx,[some (.int p),some (.lst rows),some (.tup dh),some (.aG g.length),some (.ref (g.length+1)),some (.int r.pt),some (.int r.k),some (.int r.h),some r.dd,some (.int r.b),some (eD r.e),dW],g ++ [Hy,uo.map D.int])):
   wp (nT [some (.int p),some (.lst rows),some (.tup st),some (.aG g.length),some (.ref (g.length+1)),some (.int r.pt),some (.int r.k),some (.int r.h),some r.dd,some (.int r.b),some (eD r.e),dW] (g ++ [tl,ks.map D.int])) Q:=by
 have kl:=I.Oj
 have Oi:=I.Oi
 have hz:az (ks.length+1)=true:=aF (by omega)
 have hs:kh tl=true:=xf (by omega)
 have xm:¬(aa4 "put" = aa4 "look"):=by decide
 have zr:¬(aa4 "look" = aa4 "put"):=by decide
 have ka:∀k∈ks ++ [r.k],∃s∈done ++ [r],s.k=k:=λk f=>by
   rcases aaE.mp f with f|f
   . obtain⟨s,o,n⟩:=I.va k f
     exact⟨s,by simp[o],n⟩
   . simp at f
     exact⟨r,by simp,f.symm⟩
 have kb:∀k∈ks,∃s∈done ++ [r],s.k=k:=λk f=>by
   obtain⟨s,o,n⟩:=I.va k f
   exact⟨s,by simp[o],n⟩
 have same:∀dh uo,St p dh->uo.length<=done.length+1->(∀k∈uo,∃s∈done ++ [r],s.k=k)->¬(cH r.dd=true/\r.e.isSome=true)->TI p (done ++ [r]) dh tl uo:=λdh uo o n h3 h4=>by
   refine⟨o,I.it,by simp;omega,λj d e=>?_,λs a l u=>?_,by simpa using n,h3⟩
   . obtain⟨z1,s,z2,y⟩:=I.t1 j d e
     exact⟨z1,s,by simp[z2],y⟩
   . rcases aaE.mp a with a|a
     . exact I.t2 s a l u
     . simp at a
       subst a
       exact absurd ⟨l,u⟩ h4
 rcases hr.dd with hd|⟨c,v,hd,c0,c1,hv⟩
 . have lk:cH r.dd=true:=by rw[hd];rfl
   cases he:r.e with
   |none =>
     have z:=q st tl ks (same st ks I.st (by omega) kb (by simp[he]))
     rw[he,hd]at z
     simp[nT,HC,HD,HE,hd,dz,eq_str,flat,dep,zr,eD,isLit,dH]
     exact z
   |some x =>
     have z:=q st (bH tl (.int r.k) (.tup st)) (ks ++ [r.k]) ⟨I.st,I.it.put _ _,by have:=I.it.len r.k (.tup st);simp;omega,λj d e=>by
         rw[I.it.get]at e
         split at e
         . rename_i l
           cases e
           exact⟨I.st.B,r,by simp,l,lk,by simp[he]⟩
         . obtain⟨z1,s,z2,y⟩:=I.t1 j d e
           exact⟨z1,s,by simp[z2],y⟩,λs a l u=>by
         rw[I.it.get]
         split
         . rfl
         . rename_i e3
           rcases aaE.mp a with a|a
           . exact I.t2 s a l u
           . simp at a
             subst a
             exact absurd rfl e3,by simp;omega,ka⟩
     rw[he,hd]at z
     simp[nT,HC,HD,HE,hd,dz,eq_str,flat,dep,zr,eD,isLit,dH,Ol,Om,SR,SS,hz,hs]
     simpa[eD]using z
 . have lk:cH r.dd=false:=by rw[hd];simp[cH,xm]
   have vI:=I.st.1
   obtain⟨cn,rfl⟩:∃cn:Nat,c=cn:=⟨c.toNat,by omega⟩
   have cR:cn<st.length:=by omega
   have s1:eK (.tup st) none (some (cn:Int)) (g ++ [tl,ks.map D.int])=some (.tup (st.take cn),g ++ [tl,ks.map D.int]):=iM (uP cR)
   have s2:eK (.tup st) (some ((cn:Int)+1)) none (g ++ [tl,ks.map D.int])=some (.tup (st.drop (cn+1)),g ++ [tl,ks.map D.int]):=iM (oA cR)
   have z:=q (st.take cn++v::st.drop (cn+1)) tl (ks ++ [r.k]) (same _ _ ⟨by simp;omega,λx i=>by
     rcases aaE.mp i with i|i
     . exact I.st.2 x (abH i)
     . rcases aaD.mp i with rfl|i
       . exact jx hv
       . exact I.st.2 x (adf i)⟩ (by simp;omega) ka (by simp[lk]))
   rw[hd]at z
   have y1:az (min cn st.length+1)=true:=aF (by omega)
   have y2:az (min cn st.length+1+(st.length-(cn+1)))=true:=aF (by omega)
   simp[nT,HC,HD,HE,hd,dz,fP,qc,eq_str,flat,dep,xm,s1,s2,y1,y2,Ol,Om,SR,SS,hz,hs]
   simpa using z
theorem Row.flat {p:Int}{r:Row}(h:nR p r):L3.flat r.d=true/\dep r.d<=6:=by
 obtain⟨a,b⟩:=h.dd.flat
 have he:L3.flat (eD r.e)=true/\dep (eD r.e)=0:=by cases r.e<;>exact⟨rfl,rfl⟩
 constructor
 . simp[Row.d,Row.ls,L3.flat,aP,a,he.1]
 . simp[Row.d,Row.ls,dep,bW,he.2];omega
theorem Row.aP {p:Int}{rws:List Row}(h:∀r∈rws,nR p r):L3.aP (rws.map Row.d)=true/\bW (rws.map Row.d)<=6:=by
 induction rws with
 |nil=>exact⟨rfl,by simp[bW]⟩
 |cons r rs ih =>
  obtain⟨c,f⟩:=Row.flat (h r (by simp))
  obtain⟨a,e⟩:=ih λs b=>h s (by simp[b])
  exact⟨by simp[L3.aP,c,a],by simp[bW];omega⟩
theorem Row.lt {p:Int}{r s:Row}(hr:nR p r)(h:r.k=s.k->r=s):(ltN r.d s.d).isSome=true:=by
 by_cases e1:r.pt=s.pt
 . by_cases e2:r.k=s.k
   . have:=h e2
     subst this
     have a:=(Row.flat hr).1
     have b:L3.flat (.tup r.ls)=true:=by
      simp[Row.d,L3.flat,L3.aP]at a
      simpa[L3.flat]using a
     have:=lH _ b
     simp[Row.d,ltN,iy,ic,this]
   . simp[Row.d,ltN,iy,ic,e1,e2]
 . simp[Row.d,ltN,iy,ic,e1]
theorem Fh {p:Int}{most:Nat}{rws:List Row}(h:Rows p most rws)(hm:most<=50):GK (rws.map Row.d)=true:=by
 have j:=h.len
 obtain⟨f,i⟩:=Row.aP h.g
 simp only[GK,aav,abx,decide_eq_true_eq,aaQ]
 refine⟨⟨⟨⟨by simp;omega,f⟩,by omega⟩,.inr (.inl λx a=>?_)⟩,λx a y c=>?_⟩
 . obtain⟨r,_,rfl⟩:=aaJ.mp a
   rfl
 . obtain⟨r,b,rfl⟩:=aaJ.mp a
   obtain⟨s,e,rfl⟩:=aaJ.mp c
   exact Row.lt (h.g r b) (rP h.pw r b s e)
theorem xn {α β:Type}{f:α->β}:∀(rs:List α) (l:List β),l.Perm (rs.map f)->∃ss:List α,ss.Perm rs/\l=ss.map f
 | [],l,h=>⟨[],.refl _,by simpa using h⟩
 |r::rs,l,h=>by
  have hm:f r∈l:=h.mem_iff.mpr (by simp)
  obtain⟨a,b,rfl⟩:=ahl hm
  have j:(a++b).Perm (rs.map f):=by
   have:=(afQ (a:=f r) (l₁:=a) (l₂:=b)).symm.trans h
   rw[aaX]at this
   exact List.Perm.cons_inv this
  obtain⟨ss,e,i⟩:=xn rs _ j
  obtain⟨s1,s2,rfl,k,c⟩:=List.map_eq_append_iff.mp i.symm
  exact⟨s1++r::s2,afQ.trans (e.cons r),by simp[k,c]⟩
structure Told (p:Int)(rws:List Row)(fB:Row->D):Prop where
 t:∀r∈rws,if cH r.dd&&r.e.isSome then fX p (fB r)=true else fB r = .ay
noncomputable def qd (fB:Row->D)(r:Row):D:=.tup (r.ls ++ [fB r])
def Zb (p:Int)(rows:List D)(g:G)(ss:List Row)(i:Nat)(σ:Sg)(gg:G):Prop:=i<=ss.length->∃st tl ks o5 o6 o7 o8 o9 eu dW,σ = [some (.int p),some (.lst rows),some (.tup st),some (.aG g.length),some (.ref (g.length+1)),o5,o6,o7,o8,o9,eu,dW]/\gg=g ++ [tl,ks.map D.int]/\TI p (ss.take i) st tl ks
theorem J9 {rws:List Row}{σ:Sg}{gg:G}(h:σ[1]? = some (some (.lst (rws.map Row.d))))(hl:rws.length<=100):nums σ gg=some (.lst (rws.map λr=>.int r.k),gg):=by
 have j:az (rws.map Row.d).length=true:=aF (by simp;omega)
 have c:=cz (t:=gT 3 (aw (gN 1) (aw (gN 2) (aw (gN 3) aV)))) (c:=aO) (e:=af 2) (h:=λd=>match d with|.tup [_,k,_]=>k|_=>.ay) (λσ=>∃a b c,σ = [none,a,b,c]) (rws.map Row.d) [none,none,none,none] gg ⟨_,_,_,rfl⟩ (by
  rintro d hm σ ⟨a,b,c,rfl⟩
  obtain⟨r,l,rfl⟩:=aaJ.mp hm
  exact⟨[none,some (.int r.pt),some (.int r.k),some (.tup r.ls)],by simp[Row.d],by simp,by simp[Row.d],⟨_,_,_,rfl⟩⟩)
 have f:bq [none,none,none,none] σ = [none,none,none,none]:=rfl
 rw[acI]at c
 have i:((λd:D=>match d with|.tup [_,k,_]=>k|_=>D.ay) ∘ Row.d)=λr=>D.int r.k:=rfl
 rw[i]at c
 simp[nums,h,f,c]
 simpa using j
noncomputable def jn (tl:List D)(r:Row):D:=(aS tl (.int r.k)).getD .ay
theorem J_ {rws:List Row}{σ:Sg}{gg:G}{n:Nat}{tl:List D}(h:σ[1]? = some (some (.lst (rws.map Row.d))))(h3:σ[3]? = some (some (.aG n)))(ha:gg[n]? = some tl)(hl:rws.length<=100):Fe σ gg=some (.lst (rws.map (qd (jn tl))),gg):=by
 have j:az (rws.map Row.d).length=true:=aF (by simp;omega)
 have o:az 5=true:=aF (by omega)
 have c:=cz (t:=gT 3 (aw (gN 1) (aw (gN 2) (aw (gN 3) aV)))) (c:=aO) (e:=aq aQ (af 3) (aL aH (aa (dw ki kA (af 4) (aa (af 2) aj)) aj))) (h:=λd=>match d with|.tup [_,k,.tup ls]=>.tup (ls ++ [(aS tl k).getD .ay])|_=>.ay) (λσ=>∃a b c,σ = [none,a,b,c,some (.aG n)]) (rws.map Row.d) [none,none,none,none,some (.aG n)] gg ⟨_,_,_,rfl⟩ (by
  rintro d hm σ ⟨a,b,c,rfl⟩
  obtain⟨r,l,rfl⟩:=aaJ.mp hm
  exact⟨[none,some (.int r.pt),some (.int r.k),some (.tup r.ls),some (.aG n)],by simp[Row.d],by simp,by simp[Row.d,ha,Row.ls],⟨_,_,_,rfl⟩⟩)
 have f:bq [none,none,none,none,some 3] σ = [none,none,none,none,some (.aG n)]:=by simp[bq,h3]
 rw[acI]at c
 have i:((λd:D=>match d with|.tup [_,k,.tup ls]=>.tup (ls ++ [(aS tl k).getD .ay])|_=>.ay) ∘ Row.d)=qd (jn tl):=rfl
 rw[i]at c
 simp[Fe,h,f,c]
 simpa using j
theorem Ka {rws:List Row}{σ:Sg}{gg:G}{n:Nat}{ks:List Int}(h4:σ[4]? = some (some (.ref n)))(Zc:σ[11]? = some (some (.lst (rws.map λr=>.int r.k))))(ha:gg[n]? = some (ks.map D.int))(hk:∀k∈ks,∃r∈rws,r.k=k)(hl:ks.length<=100):
  ∃uq:List Int,Ff σ gg=some (.lst (uq.map D.int),gg)/\uq.length=ks.length:=by
 have p:az ks.length=true:=aF (by omega)
 have hf:(rws.map λr=>D.int r.k).all gi=true:=aaQ.mpr λx s=>by
  obtain⟨r,_,rfl⟩:=aaJ.mp s
  rfl
 have c:=cz (t:=gN 1) (c:=aO) (e:=dw jS iO (af 2) (aa (af 1) aj)) (h:=λd=>.int (((pZ (rws.map λr=>D.int r.k) d).getD 0:Nat):Int)) (λσ=>∃a,σ = [none,a,some (.lst (rws.map λr=>.int r.k))]) (ks.map D.int) [none,none,some (.lst (rws.map λr=>.int r.k))] gg ⟨_,rfl⟩ (by
  rintro d hm σ ⟨a,rfl⟩
  obtain⟨k,z,rfl⟩:=aaJ.mp hm
  refine⟨[none,some (.int k),some (.lst (rws.map λr=>.int r.k))],by simp,by simp,?_,⟨_,rfl⟩⟩
  obtain⟨r,u,e⟩:=hk k z
  obtain⟨j,hj⟩:∃j,pZ (rws.map λr=>D.int r.k) (.int k)=some j:=by
   unfold pZ
   have:(((rws.map λr=>D.int r.k).findIdx? λy=>aJ y (.int k))).isSome=true:=by
     rw[List.findIdx?_isSome,acQ]
     exact⟨.int r.k,aaJ.mpr ⟨r,u,rfl⟩,by simp[ic,e]⟩
   exact adm.mp this
  have v:gi (.int k)=true:=rfl
  simp[iO,hf,hj,v]
  simpa using hf)
 have l:=nD (t:=gN 1) (c:=aO) (e:=dw jS iO (af 2) (aa (af 1) aj)) ha (ks.map D.int).length [none,none,some (.lst (rws.map λr=>.int r.k))] _ (aaC _) (λσ d q h=>J6 h) (λσ q h=>by cases h;rfl) (λσ q h=>by
   rw[zo]at h
   obtain⟨q1,f,h⟩:=bind_some h
   have e1:q1.2=gg:=by
     rw[cJ]at f
     split at f
     . cases f;rfl
     . cases f
   split at h
   . obtain⟨q2,b,h⟩:=bind_some h
     have o:q2.2=gg:=by
       rw[gH]at b
       obtain⟨q3,i,b⟩:=bind_some b
       rw[cJ]at i
       split at i
       . cases i;cases b;exact e1
       . cases i
     unfold iO at h
     split at h
     . split at h
       . obtain⟨j,_,h⟩:=aaK.mp h
         cases h;exact o
       . cases h
     . cases h
   . cases h) (by rw[ac1,adj];exact c)
 have sb:bq [none,none,some 11] σ = [none,none,some (.lst (rws.map λr=>.int r.k))]:=by simp[bq,Zc]
 refine⟨ks.map λk=>(((pZ (rws.map λr=>D.int r.k) (.int k)).getD 0:Nat):Int),?_,by simp⟩
 rw[aaM]at l
 simp[Ff,h4,ha,sb,l,p]
set_option maxHeartbeats 4000000 in
theorem Oo {p:Int}{most:Nat}{rws:List Row}{g:G}{Q:D×G->Prop}(p0:0<p)(hp:p<=100)(hm:most<=50)(R:Rows p most rws)(hc:Clean g)
   (q:∀fB uq,Told p rws fB->Q (.tup [.tup (rws.map (qd fB)),.tup uq],g)):
   wp (aA false 12 2 rM [.int p,.lst (rws.map Row.d)] g) Q:=by
 have hlen:=R.len
 refine gM rfl ?_
 unfold rM
 have mz:cL (.tup [.int 0]) (.int p) g=some (.tup (aaW p.toNat (D.int 0)),g):=by
   rw[Ai (by omega) (by omega) (by simp)]
   simp
 have so:=Fh R hm
 obtain⟨ss,f,mP⟩:=xn rws _ (AH (rws.map Row.d))
 have sx:∀g,iP [.lst (rws.map Row.d)] g=some (.lst (lT (rws.map Row.d)),g):=λg=>by
   show nL [.lst (rws.map Row.d)] g=_
   simp[nL,fw,so]
 simp[mz,sx]
 rw[mP]
 have h0:St p (aaW p.toNat (D.int 0)):=⟨by simp;omega,λx c=>by
   obtain⟨_,rfl⟩:=ahm.mp c
   decide⟩
 have sl:ss.length=rws.length:=f.length_eq
 refine ip (Zb p (rws.map Row.d) g ss) _ 0 _ _ (λ_=>⟨_,[],[],none,none,none,none,none,none,none,rfl,rfl,⟨h0,.nil,by simp,(λj d e=>by cases e),by simp,by simp,by simp⟩⟩) ?_ ?_
 . intro j d σ gg ug hI
   rw[ac0]at *
   rw[abE]at ug
   obtain⟨r,a,rfl⟩:=aaK.mp ug
   have t7:j<ss.length:=(aaB.mp a).1
   obtain⟨st,b,v,z,i,o,u,y,l,dW,rfl,rfl,I⟩:=hI (by omega)
   have tk:ss.take (j+1)=ss.take j ++ [r]:=by rw[aiL,a];rfl
   have nU:r∈rws:=f.mem_iff.mp (aa6 a)
   unfold SQ Row.d Row.ls
   simp
   refine Fg hp I (R.g r nU) (by simp;omega) λdh Hy uo I'=>?_
   exact λ_=>⟨_,_,_,_,_,_,_,_,_,_,rfl,rfl,by rw[tk];exact I'⟩
 . intro σ gg hI
   rw[aaM,ac0]at hI
   obtain⟨st,b,v,z,i,o,u,y,l,dW,rfl,rfl,I⟩:=hI (by omega)
   rw[ah5]at I
   have zl:rws.length<=100:=by omega
   have kl:=I.Oj
   have e1:∀gg,nums [some (.int p),some (.lst (rws.map Row.d)),some (.tup st),some (.aG g.length),some (.ref (g.length+1)),z,i,o,u,y,l,dW] gg=_:=λgg=>J9 (rws:=rws) rfl zl
   have e2:=J_ (rws:=rws) (σ:=[some (.int p),some (.lst (rws.map Row.d)),some (.tup st),some (.aG g.length),some (.ref (g.length+1)),z,i,o,u,y,l,some (.lst (rws.map λr=>.int r.k))]) (gg:=g ++ [b,v.map D.int]) (n:=g.length) rfl rfl Ol zl
   obtain⟨uq,e3,e4⟩:=Ka (rws:=rws) (σ:=[some (.int p),some (.lst (rws.map Row.d)),some (.tup st),some (.aG g.length),some (.ref (g.length+1)),z,i,o,u,y,l,some (.lst (rws.map λr=>.int r.k))]) (gg:=g ++ [b,v.map D.int]) (n:=g.length+1) rfl rfl Om (λk hk=>by
     obtain⟨r,h1,h2⟩:=I.va k hk
     exact⟨r,f.mem_iff.mp h1,h2⟩) (by omega)
   have y1:az rws.length=true:=aF (by omega)
   have y2:az uq.length=true:=aF (by omega)
   have tn:∀r∈rws,∀m,bx m (jn b r)=true:=λr a m=>by
     unfold jn
     cases e:aS b (.int r.k)with
     |none=>rfl
     |some d=>exact(rO (I.t1 _ _ e).1).2 m
   simp[e1,e2,e3,y1,y2]
   have tk:(g ++ [b,v.map D.int]).take g.length=g:=by simp
   refine⟨?_,λx c=>hc x c _,q (jn b) _ ⟨λr a=>?_⟩⟩
   . have a1:aX g.length (rws.map (qd (jn b)))=true:=cF λx c=>by
       obtain⟨r,a,rfl⟩:=aaJ.mp c
       have b1:=(R.g r a).dd.bx g.length
       have b2:=tn r a g.length
       have b3:bx g.length (eD r.e)=true:=by cases r.e<;>rfl
       simp[qd,Row.ls,bx,aX,b1,b2,b3]
     have a2:=E3 (n:=g.length) uq
     simp[bx,aX,a1,a2]
   . split
     . rename_i h
       rw[aav]at h
       obtain⟨d,e⟩:=adm.mp (I.t2 r (f.mem_iff.mpr a) h.1 h.2)
       have:jn b r=d:=by simp[jn,e]
       rw[this]
       exact(I.t1 _ _ e).1
     . rename_i h
       cases e:aS b (.int r.k)with
       |none=>simp[jn,e]
       |some d =>
        obtain⟨_,s,s1,s2,s3,s4⟩:=I.t1 _ _ e
        have:=rP R.pw s (f.mem_iff.mp s1) r a s2
        subst this
        exact absurd (by rw[s3,s4];rfl) h
noncomputable def rt (x:Row×D):D:=.tup [.int x.1.h,x.1.dd,.int x.1.b,eD x.1.e,x.2]
structure bG (p:Int)(x:Row×D):Prop where
 r:nR p x.1
 t:if cH x.1.dd&&x.1.e.isSome then fX p x.2=true else x.2 = .ay
def Zd (x y:Row×D):Prop:=x.1.b<=y.1.b/\(x.1.h=y.1.h->∃e,x.1.e=some e/\e<=y.1.b)
theorem bG.row (h:bG p x):sT p (rt x)=true:=by
 have k:=h.r.dd.told
 have i:=h.r.h0
 have f:=h.r.h9
 have c:=h.r.b0
 have a:=h.t
 have j:nQ (.int x.1.b) (eD x.1.e)=true:=by
   have:=h.r.eb
   cases e:x.1.e with
   |none=>simp[nQ,eD,c]
   |some y=>have:=this y e;simp[nQ,eD,c,this]
 have nn:iR (eD x.1.e)= !x.1.e.isSome:=by cases x.1.e<;>rfl
 simp only[rt,sT,within,k,j,nn,Bool.not_not,i,f,decide_true,Bool.and_self,acM]
 split
 . rename_i z;rw[if_pos z]at a;exact a
 . rename_i z;rw[if_neg z]at a;rw[a];rfl
theorem bG.nf (h:bG p x):Pd.nf (rt x)=true:=by
 have b:=h.r.dd.nf
 have a:=h.t
 have c:Pd.nf (eD x.1.e)=true:=by cases x.1.e<;>rfl
 have f:Pd.nf x.2=true:=by
  split at a
  . exact(rO a).1
  . rw[a];rfl
 simp[rt,Pd.nf,nO,b,c,f]
theorem Kb (R:Rows p most rws)(T:Told p rws fB):rws.map (qd fB)=(rws.map λr=>(r,fB r)).map rt/\(∀x∈rws.map λr=>(r,fB r),bG p x)/\(rws.map λr=>(r,fB r)).Pairwise Zd:=by
 refine⟨by rw[acI];rfl,λx b=>?_,?_⟩
 . obtain⟨r,a,rfl⟩:=aaJ.mp b
   exact⟨R.g r a,T.t r a⟩
 . rw[adO]
   exact R.pw.imp λh=>⟨h.2.1,h.2.2⟩
theorem c_ {α:Type}{f h:α->D}{t:FG}{c:FT}{e:FE}(I:Sg->Prop):∀(xs:List α) (σ:Sg) (g:G),I σ->(∀x∈xs,∀σ,I σ->∃σ1,t (f x) σ g=some (σ1,g)/\c σ1 g=some (true,g)/\e σ1 g=some (h x,g)/\I σ1)->bV t c e (xs.map f) σ g=some (xs.map h,g)
 | [],_,_,_,_=>rfl
 |x::xs,σ,g,hi,hh=>by
  obtain⟨σ1,j,i,b,a⟩:=hh x aaO σ hi
  have ih:=c_ I xs σ1 g a λx k=>hh x (aaR _ k)
  simp only[aaX,bV,j,i,b,aax,if_true,ih]
end Pd
namespace Od
open PySem L3 L2 RI Pd
noncomputable def sW:FS:=aU (aq cL (aL aH (aa (fC (.int 0)) aj)) (af 0))
noncomputable def rQ:FS:=aU (se (aq oEq (aq aI (aq aI (af 0) (fC (.int 1))) (fC (.int 0))) (fC (.str "put"))) (aq oEq (aq aI (af 0) (fC (.int 4))) (af 1)))
noncomputable def l_:FS:=aD (aM (aq aI (af 0) (fC (.int 1))) (gN 2)) (aD (cA (aN (aq oEq (aq aI (af 2) (fC (.int 0))) (fC (.str "look")))) (aU (af 1)) bp) (aU (aq aQ (aq aQ (fZ (af 1) fg (dA (aq aI (af 2) (fC (.int 1))))) (aL aH (aa (aq aI (af 2) (fC (.int 2))) aj))) (fZ (af 1) (dA (aq aQ (aq aI (af 2) (fC (.int 1))) (fC (.int 1)))) fg))))
noncomputable def AR (within:Fn):FS:=aU (av fL (aa (bQ bU (cv (af 1)) [none,none,some 0] (gN 1) aO (av within (aa (af 1) (aa (fC (.int 0)) (aa (aq (bK cf (· - ·)) (av cZ (aa (af 2) aj)) (fC (.int 1))) aj))))) aj))
noncomputable def sX:FS:=aU (av fL (aa (bQ bU (jg (af 0)) [none,none,none,some 1] (gT 2 (aw (gN 1) (aw (gN 2) aV))) (aN (aq dI (aq aI (af 2) (fC (.int 3))) (fC .ay))) (aq eO (af 1) (af 3))) aj))
abbrev Rt:=Row×D
noncomputable def zs (p:Int):List D:=aaW p.toNat (.int 0)
noncomputable def x0:Rt:=⟨⟨0,0,0,.ay,0,none⟩,.ay⟩
noncomputable def aB (xs:List Rt)(k:Nat):Rt:=xs.getD k x0
noncomputable def kD (ks:List Nat):List D:=ks.map λ(k:Nat)=>D.int k
theorem rR:∀(n:Nat) (d:D),isVal n d=true->flat d=true/\dep d<=n
 | 0,d,h=>by
  unfold isVal jU within at h
  split at h
  . exact⟨rfl,aaC _⟩
  . cases h
 |n+1,d,h=>by
  cases d with
  |tup xs =>
    simp only[isVal,aav,aaQ]at h
    have:∀a:List D,(∀y∈a,isVal n y=true)->aP a=true/\bW a<=n:=λa=>by
     induction a with
     |nil=>intro _;exact⟨rfl,by simp[bW]⟩
     |cons y a ih =>
      intro c
      obtain⟨b,f⟩:=rR n y (c y (by simp))
      obtain⟨e,j⟩:=ih λz i=>c z (by simp[i])
      exact⟨by simp[aP,b,e],by simp[bW];omega⟩
    obtain⟨b,f⟩:=this xs h.2
    exact⟨by simpa[flat]using b,by simp[dep];omega⟩
  |_=>first|exact⟨rfl,by simp[dep]⟩| (simp[isVal,jU,within]at h)
theorem qf (h:∀x∈xs,flat x=true/\dep x<=n):aP xs=true/\bW xs<=n:=by
 induction xs with
 |nil=>exact⟨rfl,by simp[bW]⟩
 |cons y ys ih =>
  obtain⟨c,f⟩:=h y (by simp)
  obtain⟨a,e⟩:=ih λz b=>h z (by simp[b])
  exact⟨by simp[aP,c,a],by simp[bW];omega⟩
theorem St.flat (h:St p st):L3.flat (.tup st)=true/\dep (.tup st)<=4:=by
 obtain⟨a,c⟩:=qf λx b=>rR 3 x (h.2 x b)
 exact⟨by simpa[L3.flat]using a,by simp[dep];omega⟩
theorem Fi (h:fX p d=true):L3.flat d=true/\dep d<=4:=by
 unfold fX at h
 split at h
 . simp only[aav,decide_eq_true_eq,aaQ]at h
   exact St.flat (p:=p) h
 . cases h
theorem bG.AS (h:bG p x):L3.flat x.2=true/\dep x.2<=4:=by
 have:=h.t
 split at this
 . exact Fi this
 . rw[this];exact⟨rfl,by simp[dep]⟩
theorem St.zs (h:0<=p):St p (zs p):=⟨by simp[Od.zs];omega,λx a=>by
 obtain⟨_,rfl⟩:=ahm.mp a
 decide⟩
theorem St.put (h:St p st)(hd:f_ p dd):St p (fQ st dd):=by
 rcases hd with rfl|⟨c,v,rfl,c0,c1,hv⟩
 . exact h
 . have b:=h.1
   refine⟨by simp[fQ];omega,λx a=>?_⟩
   simp only[fQ]at a
   rcases aaE.mp a with a|a
   . exact h.2 x (abH a)
   . rcases aaD.mp a with rfl|a
     . exact jx hv
     . exact h.2 x (adf a)
def sY (p:Int)(f:Fn):Prop:=∀g,f [.int p] g=some (.tup (zs p),g)
theorem Fj (h0:0<=p)(h1:p<=100):sY p (aA false 1 1 sW):=λg=>by
 refine bM (σ':=[some (.int p)]) rfl ?_ rfl
 have a:cL (.tup [.int 0]) (.int p) g=some (.tup (zs p),g):=by
  rw[Ai (by omega) (by omega) (by simp)]
  simp[zs]
 simp[sW,a]
noncomputable def rS (x:Rt)(st:List D):Bool:=!(cH x.1.dd)||aJ x.2 (.tup st)
theorem xm:¬(aa4 "put" = aa4 "look"):=by decide
theorem zr:¬(aa4 "look" = aa4 "put"):=by decide
def nV (p:Int)(f:Fn):Prop:=∀x st g,bG p x->St p st->f [rt x,.tup st] g=some (.bl (rS x st),g)
theorem Kc:nV p (aA false 2 2 rQ):=λx st g b f=>by
 refine bM (σ':=[some (rt x),some (.tup st)]) rfl ?_ rfl
 obtain⟨f1,f2⟩:=bG.AS b
 obtain⟨e,f4⟩:=St.flat f
 have a:dep x.2<=60:=by omega
 have h:oEq x.2 (.tup st) g=some (.bl (aJ x.2 (.tup st)),g):=by unfold oEq;simp[f1,e,a]
 unfold rS
 rcases b.r.dd with hd|⟨c,v,hd,c0,c1,hv⟩
 . simp[rQ,rt,hd,dz,fP,sU,eq_str,flat,dep,zr,cH,h,f1,e,a]
 . simp[rQ,rt,hd,dz,fP,sU,eq_str,flat,dep,xm,cH]
def ma (p:Int)(f:Fn):Prop:=∀x st g,bG p x->St p st->f [rt x,.tup st] g=some (.tup (fQ st x.1.dd),g)
theorem CV (hp:p<=100):ma p (aA false 3 2 l_):=λx st g f e=>by
 refine bM (σ':=[some (rt x),some (.tup st),some x.1.dd]) rfl ?_ rfl
 have i:=e.1
 rcases f.r.dd with hd|⟨c,v,hd,c0,c1,hv⟩
 . simp[l_,rt,hd,dz,fP,eq_str,flat,dep,fQ]
 . obtain⟨cn,rfl⟩:∃cn:Nat,c=cn:=⟨c.toNat,by omega⟩
   have a:cn<st.length:=by omega
   have s1:eK (.tup st) none (some (cn:Int)) g=some (.tup (st.take cn),g):=iM (uP a)
   have s2:eK (.tup st) (some ((cn:Int)+1)) none g=some (.tup (st.drop (cn+1)),g):=iM (oA a)
   have b:az (min cn st.length+1)=true:=aF (by omega)
   have h:az (min cn st.length+1+(st.length-(cn+1)))=true:=aF (by omega)
   simp[l_,rt,hd,dz,fP,qc,eq_str,flat,dep,xm,fQ,s1,s2,b,h]
noncomputable def jW (n:Nat)(d:D):Bool:=within d 0 ((n:Int)-1)
def AU (f:Fn):Prop:=∀ss ts g,(∀t∈ts,isFn t=false)->ts.length<=1000->f [.tup ss,.tup ts] g=some (.bl (ts.all (jW ss.length)),g)
theorem Oq (hw:lX w):AU (aA false 2 2 (AR w)):=λss a g b k=>by
 refine bM (σ':=[some (.tup ss),some (.tup a)]) rfl ?_ rfl
 have f:az a.length=true:=aF (by omega)
 have i:=cz (t:=gN 1) (c:=aO) (e:=av w (aa (af 1) (aa (fC (.int 0)) (aa (aq (bK cf (· - ·)) (av cZ (aa (af 2) aj)) (fC (.int 1))) aj)))) (h:=λo=>D.bl (jW ss.length o)) (λσ=>∃o,σ = [none,o,some (.tup ss)]) a [none,none,some (.tup ss)] g ⟨_,rfl⟩ (by
  rintro d hm σ ⟨o,rfl⟩
  refine⟨[none,some d,some (.tup ss)],by simp,by simp,?_,⟨_,rfl⟩⟩
  simp[hw d _ _ g (b d hm),jW])
 have j:bq [none,none,some 0] [some (D.tup ss),some (D.tup a)]= [none,none,some (D.tup ss)]:=rfl
 simp[AR,j,i,f,cp]
theorem zt (ks:List Nat):aP (kD ks)=true/\bW (kD ks)=0:=jm λd hd=>by
 obtain⟨k,_,rfl⟩:=aaJ.mp hd
 exact⟨_,rfl⟩
theorem Rk (i:Nat)(ks:List Nat):((kD ks).any λy=>aJ y (.int i))=ks.contains i:=by
 induction ks with
 |nil=>rfl
 |cons k ks ih =>
  simp only[kD,aaX,abM,List.contains_cons]at ih ⊢
  rw[ih,ic]
  have:(decide ((k:Int)=(i:Int)))=(i == k):=by
   by_cases h:k=i
   . subst h;simp
   . have b:¬i=k:=λe=>h e.symm
     have a:¬(k:Int)=(i:Int):=by omega
     simp[a,b]
  rw[this]
theorem xp (i:Nat)(ks:List Nat)(g:G):kS (.int i) (.tup (kD ks)) g=some (ks.contains i):=by
 obtain⟨a,b⟩:=zt ks
 show wq (.int i) (kD ks)=_
 unfold wq
 rw[Rk]
 simp[flat,a,b]
noncomputable def xq (xs:List Rt)(ks:List Nat):Bool:=xs.zipIdx.all λy=>y.1.1.e.isNone||ks.contains y.2
theorem sZ (xs:List Rt):cU (xs.map rt)=xs.zipIdx.map λy=>.tup [.int (y.2:Nat),rt y.1]:=by
 simp[cU,List.zipIdx_map,abF]
def s_ (p:Int)(f:Fn):Prop:=∀xs ks g,(∀x∈xs,bG p x)->xs.length<=100->f [.tup (xs.map rt),.tup (kD ks)] g=some (.bl (xq xs ks),g)
theorem gQ {α:Type}{f h:α->D}{t:FG}{c:FT}{e:FE}{cB:α->Bool}(I:Sg->Prop):∀(xs:List α) (σ:Sg) (g:G),I σ->(∀x∈xs,∀σ,I σ->∃σ1,t (f x) σ g=some (σ1,g)/\c σ1 g=some (cB x,g)/\(cB x=true->e σ1 g=some (h x,g))/\I σ1)->bV t c e (xs.map f) σ g=some ((xs.filter cB).map h,g)
 | [],_,_,_,_=>rfl
 |d::ds,σ,g,hi,hh=>by
  obtain⟨σ1,b,a,j,i⟩:=hh d aaO σ hi
  have ih:=gQ I ds σ1 g i λx k=>hh x (aaR _ k)
  cases hc:cB d with
  |true =>
   rw[hc]at a
   simp only[aaX,bV,b,a,j hc,aax,if_true,ih,abC,hc]
  |false =>
   rw[hc]at a
   simp only[aaX,bV,b,a,aax,aaF,if_false,ih,abC,hc]
theorem Fl {p:Int}:s_ p (aA false 2 2 sX):=λxs ks g q o=>by
 refine bM (σ':=[some (.tup (xs.map rt)),some (.tup (kD ks))]) rfl ?_ rfl
 have n:az (cU (xs.map rt)).length=true:=aF (by simp[cU];omega)
 have j:=gQ (f:=λy:Rt×Nat=>.tup [.int (y.2:Nat),rt y.1]) (t:=gT 2 (aw (gN 1) (aw (gN 2) aV))) (c:=aN (aq dI (aq aI (af 2) (fC (.int 3))) (fC .ay))) (e:=aq eO (af 1) (af 3)) (cB:=λy=>y.1.1.e.isSome) (h:=λy=>D.bl (ks.contains y.2)) (λσ=>∃a b,σ = [none,a,b,some (.tup (kD ks))]) xs.zipIdx [none,none,none,some (.tup (kD ks))] g ⟨_,_,rfl⟩ (by
  rintro⟨y,i⟩ hm σ ⟨a,b,rfl⟩
  refine⟨[none,some (.int i),some (rt y),some (.tup (kD ks))],by simp,?_,λ_=>by simp[xp],⟨_,_,rfl⟩⟩
  cases he:y.1.e<;>simp[rt,xb,he,eD,isLit,dH])
 rw[<- sZ]at j
 have k:bq [none,none,none,some 1] [some (D.tup (xs.map rt)),some (D.tup (kD ks))]= [none,none,none,some (D.tup (kD ks))]:=rfl
 have l:((xs.zipIdx.filter λy=>y.1.1.e.isSome).map λy=>ks.contains y.2).all id=xq xs ks:=by
  unfold xq
  rw[acs,aiy]
  congr 1
  funext y
  cases y.1.1.e<;>simp
 simp only[sX]
 simp[k,j,n,cp]
 rw[<- l]
 simp[acs,abF]
noncomputable def gw (x y:Rt):Bool:=Pd.rJ (rt x) (rt y)
theorem Ot (x y:Rt):gw x y=match x.1.e with|some e=>decide (e<=y.1.b)|none=>false:=by
 have a:eI (rt x)=x.1.e:=by cases he:x.1.e<;>simp[rt,eI,he,eD]
 have c:bI (rt y)=y.1.b:=rfl
 unfold gw Pd.rJ
 rw[a,c]
 try (cases x.1.e<;>first|rfl| (exact decide_eq_decide.mpr Iff.rfl))
theorem Kd (h:k<xs.length):(xs.map rt)[k]? = some (rt (aB xs k)):=by
 simp[aB,h]
theorem cW (h:k<xs.length):aB xs k∈xs:=by simp[aB,h]
end Od
namespace Od
open PySem L3 L2 RI Pd PyProof.Rows
noncomputable def toN:D->Nat
 |.int i=>i.toNat
 |_=>0
theorem xt (ks:List Nat):dB (kD ks)=some (ks.map λ(k:Nat)=>(k:Int)):=by
 induction ks with
 |nil=>rfl
 |cons k ks ih=>simp only[kD,aaX]at ih ⊢;simp[dB,ih]
theorem nW:∀a b:List Int,b6 (a.map D.int) (b.map D.int)=decide (a=b)
 | [],[]=>by simp[b6]
 | [],_::_=>by simp[b6]
 |_::_,[]=>by simp[b6]
 |x::xs,y::ys=>by
  simp only[aaX,b6,nW xs ys,ic]
  by_cases h:x=y<;>by_cases h2:xs=ys<;>simp[h,h2]
theorem uu (ds:List Int):dB (ds.map D.int)=some ds:=by
 induction ds with
 |nil=>rfl
 |cons d ds ih=>simp[dB,ih]
end Od
namespace Od
open PySem L3 L2 RI Pd
theorem jq {α:Type}{f h:α->D}{t:FG}{c:FT}{e:FE}{cB:α->Bool}{nn:Nat}{g:G}{xs:List α}(hg:g[nn]? = some (xs.map f))(I:Sg->Prop)(hh:∀x∈xs,∀σ,I σ->∃σ1,t (f x) σ g=some (σ1,g)/\c σ1 g=some (cB x,g)/\(cB x=true->e σ1 g=some (h x,g))/\I σ1):
  ∀(k:Nat) (σ:Sg),k<=xs.length->I σ->d6 nn xs.length t c e k σ g=some (((xs.drop (xs.length-k)).filter cB).map h,g)
 | 0,σ,_,_=>by simp[d6,hg]
 |k+1,σ,hk,hi=>by
  have a:xs.length-(k+1)<xs.length:=by omega
  obtain⟨σ1,n,l,i,j⟩:=hh (xs[xs.length-(k+1)]) (ace a) σ hi
  have ih:=jq hg I hh k σ1 (by omega) j
  rw[acD a,show xs.length-(k+1)+1=xs.length-k by omega]
  have b:(xs.map f)[xs.length-(k+1)]? = some (f xs[xs.length-(k+1)]):=by simp[a]
  simp only[d6,hg,aax,aaM,if_true,b,n,l]
  cases hc:cB xs[xs.length-(k+1)]with
  |true=>simp only[if_true,i hc,aax,ih,abC,hc,aaX]
  |false=>simp only[aaF,if_false,ih,abC,hc]
noncomputable def mv:FS:=sr 5 6 (aa (aq cL (aL aH (aa (fC (.int 0)) aj)) (af 0)) (aa (aL mkRef aj) aj))
noncomputable def xu (fB:Row->D)(rws:List Row):List Rt:=rws.map λr=>(r,fB r)
end Od
namespace Sd
open PySem L3 L2 RI Pd Od
abbrev aC:=Nat×List D
noncomputable def early (xs:List Rt)(k:Nat):List Nat:=(aaz xs.length).filter λo=>gw (aB xs o) (aB xs k)
noncomputable def cx (xs:List Rt)(r:aC)(k:Nat):Bool:=!r.1.testBit k&&(((early xs k).all λo=>r.1.testBit o)&&rS (aB xs k) r.2)
noncomputable def bO (xs:List Rt)(r:aC)(k:Nat):aC:=(r.1 ||| 1 <<< k,fQ r.2 (aB xs k).1.dd)
theorem oP:(bO xs r k).1.testBit i=(r.1.testBit i||decide (i=k)):=by
 unfold bO
 rw[Nat.testBit_or,adP,adx]
 congr 1
 exact decide_eq_decide.mpr eq_comm
noncomputable def iX (xs:List Rt)(b:Nat):Bool:=xs.zipIdx.all λy=>y.1.1.e.isNone||b.testBit y.2
theorem qg {α:Type}:∀{V W:List α},V.Nodup->(∀v∈V,v∈W)->V.length<=W.length
 | [],_,_,_=>abd _
 |v::V,W,hn,h=>by
  rw[ab_]at hn
  obtain⟨a,b,rfl⟩:=ahl (h v (by simp))
  have:=qg (V:=V) (W:=a++b) hn.2 λw hw=>by
   have:=h w (by simp[hw])
   rcases aaE.mp this with h1|h1
   . simp[h1]
   . rcases aaD.mp h1 with rfl|h1
     . exact absurd hw hn.1
     . simp[h1]
  simp at this ⊢
  omega
noncomputable def md:Nat->List (List Nat)
 | 0=>[[]]
 |n+1=>(md n).map (· ++ [0])++((md n).map (· ++ [1])++(md n).map (· ++ [2]))
theorem Fm (n:Nat):(md n).length=3 ^ n:=by
 induction n with
 |zero=>rfl
 |succ n ih=>simp[md,ih,Nat.pow_succ];omega
theorem xw (T:Nat->Nat)(h:∀i,T i<3):∀n,(aaz n).map T∈md n
 | 0=>by simp[md]
 |n+1=>by
  rw[af2,aeb,ahn]
  have ih:=xw T h n
  have:=h n
  simp only[md,aaE,aaJ]
  have a:T n=0\/T n=1\/T n=2:=by omega
  rcases a with e|e|e
  . exact .inl ⟨_,ih,by rw[e]⟩
  . exact .inr (.inl ⟨_,ih,by rw[e]⟩)
  . exact .inr (.inr ⟨_,ih,by rw[e]⟩)
noncomputable def bT:Nat->(Nat->Nat)->Nat
 | 0,_=>0
 |n+1,T=>bT n T ||| (if T n=0 then 0 else 1 <<< n)
theorem nX (T:Nat->Nat)(i:Nat):∀n,(bT n T).testBit i=(decide (i<n)&&decide (T i≠0))
 | 0=>by simp[bT]
 |n+1=>by
  simp only[bT]
  rw[Nat.testBit_or,nX T i n]
  by_cases e:i=n
  . subst e
    by_cases h:T i=0<;>simp[h,adP,adx]
  . have a:(decide (i<n+1))=decide (i<n):=decide_eq_decide.mpr (by omega)
    rw[a]
    have b:¬n=i:=λz=>e z.symm
    by_cases h:T n=0<;>simp[h,adP,adx,b]
noncomputable def gy (x:Rt):Option Nat:=match x.1.dd with
 |.tup [.str _,.int c,_]=>some c.toNat
 |_=>none
noncomputable def Ou (x:Rt):D:=match x.1.dd with
 |.tup [.str _,.int _,v]=>v
 |_=>.ay
theorem Fo (h:f_ p x.1.dd)(hl:(st.length:Int)=p):fQ st x.1.dd=match gy x with|some c=>st.set c (Ou x)|none=>st:=by
 rcases h with e|⟨c,v,e,c0,c1,_⟩
 . simp[gy,e,fQ]
 . have a:c.toNat<st.length:=by omega
   simp only[gy,Ou,e,fQ]
   rw[List.set_eq_take_append_cons_drop,if_pos a]
noncomputable def hJ (xs:List Rt)(T:Nat->Nat)(k i:Nat):Nat:=if i=k then(if(gy (aB xs k)).isSome then 2 else 1)else if T i=2/\gy (aB xs i)=gy (aB xs k)then 1 else T i
theorem xx:∀n,(∀i<n,T i=U i)->bT n T=bT n U
 | 0,_=>rfl
 |n+1,h=>by simp only[bT];rw[xx n λi a=>h i (by omega),h n (by omega)]
theorem qh (a b:Nat):ach (a:Int) (b:Int)=((a &&& b:Nat):Int):=by
 have c:decide ((0:Int)<=(a:Int))=true:=by simp
 have e:decide ((0:Int)<=(b:Int))=true:=by simp
 unfold ach
 rw[c,e]
 simp
theorem Ke (a b:Nat):ad5 (a:Int) (b:Int)=((a ||| b:Nat):Int):=by
 have e:∀x:Nat,(acB (acB (x:Int))).toNat=x:=λx=>by unfold acB;omega
 have c:∀x:Nat,decide ((0:Int)<=acB (x:Int))=false:=λx=>by unfold acB;simp;omega
 unfold ad5
 have:ach (acB (a:Int)) (acB (b:Int))=acB (((a ||| b:Nat):Nat):Int):=by
  unfold ach
  rw[c,c,e,e]
 rw[this]
 unfold acB
 omega
noncomputable def bF (n:Nat)(f:Nat->Bool):Nat:=bT n λi=>if f i then 1 else 0
theorem nY (f:Nat->Bool)(i n:Nat):(bF n f).testBit i=(decide (i<n)&&f i):=by
 unfold bF
 rw[nX]
 cases f i<;>simp
theorem HG (f:Nat->Bool)(n:Nat):bF n f<2 ^ n:=aee _ λi a=>by
 rw[nY]
 have:¬i<n:=by omega
 simp[this]
theorem me (f:Nat->Bool):∀n,((((aaz n).filter f).map λk=>(2:Nat) ^ k).sum)=bF n f
 | 0=>rfl
 |n+1=>by
  rw[af2,List.filter_append,aeb,List.sum_append,me f n]
  have a:=HG f n
  have e:bF (n+1) f=bF n f ||| (if f n then 1 <<< n else 0):=by
   unfold bF
   simp only[bT]
   by_cases tJ:f n=true<;>simp[tJ]
  rw[e]
  cases hf:f n with
  |false=>simp[hf]
  |true =>
   have:=Nat.two_pow_add_eq_or_of_lt a 1
   simp only[Nat.mul_one]at this
   rw[adP]
   simp[hf]
   rw[ag8,this,Nat.or_comm]
theorem zu (b k:Nat):(b &&& 2 ^ k=0)↔ b.testBit k=false:=by
 constructor
 . intro h
   have:=congrArg (λx=>x.testBit k) h
   simpa[aeV,adx]using this
 . intro h
   refine acJ λi=>?_
   rw[aeV,adx]
   by_cases e:k=i
   . subst e;simp[h]
   . simp[e]
theorem Kf (a b:Nat):(b &&& a=a)↔ ∀i,a.testBit i=true->b.testBit i=true:=by
 constructor
 . intro h i c
   rw[<- h,aeV]at c
   simp at c
   exact c.1
 . intro h
   refine acJ λi=>?_
   rw[aeV]
   cases c:a.testBit i with
   |false=>simp
   |true=>simp[h i c]
theorem CW (f:Nat->Bool)(b n:Nat):(b &&& bF n f=bF n f)↔ ((aaz n).filter f).all (λi=>b.testBit i)=true:=by
 rw[Kf,aaQ]
 constructor
 . intro h i a
   obtain⟨e,c⟩:=aa3.mp a
   exact h i (by rw[nY];simp[aaL.mp e,c])
 . intro h i a
   rw[nY]at a
   simp at a
   exact h i (aa3.mpr ⟨aaL.mpr a.1,a.2⟩)
end Sd
namespace Od
open PySem L3 L2 RI Pd
theorem ko {Q:F×Sg×G->Prop}(h:wp (f1 σ g) λr=>r.1 = .nx/\wp (f2 r.2.1 r.2.2) Q):wp (aD f1 f2 σ g) Q:=by
 obtain⟨⟨r,c,g1⟩,e,b,a⟩:=h
 dsimp only at b a
 subst b
 rw[il,e]
 exact a
theorem Kg (h:k<n):kG n (k:Int)=some k:=by
 unfold kG
 have a:(0:Int)<=(k:Int):=by omega
 have b:(k:Int)<(n:Int):=by omega
 simp[a,b]
theorem Ov {g:G}{m k:Nat}{xs:List D}{v:D}(hm:g[m]? = some xs)(hk:k<xs.length):putD (.ref m) (.int k) v g=some (g.set m (xs.set k v)):=by
 unfold putD
 simp only[hm,Kg hk]
noncomputable def SV (take:Fn):FS:=aM (av take (aa (af 0) (aa (av cZ (aa (af 3) aj)) aj))) (gN 5)
noncomputable def Ow:FS:=aM (aq aI (af 3) (af 5)) (gT 5 (aw (gN 6) (aw (gN 7) (aw (gN 8) (aw (gN 9) (aw (gN 10) aV))))))
noncomputable def SX (take:Fn):FS:=aM (av take (aa (af 0) (aa (af 1) aj))) (gN 11)
noncomputable def Ox:FE:=fN bU (nB (af 3)) [none,none] (gN 1) (aN (aq dI (aq aI (af 1) (fC (.int 4))) (fC .ay))) (aq aI (af 1) (fC (.int 4)))
noncomputable def SY (val:Fn):FS:=aM (aq aQ (aq aQ (fZ (af 10) fg (dA (af 11))) (aL aH (aa (av val (aa (af 0) aj)) aj))) (fZ (af 10) (dA (aq aQ (af 11) (fC (.int 1)))) fg)) (gN 13)
noncomputable def S_ (pick:Fn):FS:=aM (aL aH (aa (af 6) (aa (af 7) (aa (af 8) (aa (af 9) (aa (av pick (aa (af 0) (aa (aL cS (aa (af 13) (aa (av pick (aa (af 0) (aa (af 12) aj))) aj))) aj))) aj)))))) (jP (af 3) (af 5))
noncomputable def Fp (take pick val:Fn):FS:=aD (SV take) (aD Ow (cA (aN (aq dI (af 10) (fC .ay))) (aD (SX take) (aD (aM Ox (gN 12)) (aD (SY val) (S_ pick)))) bp))
noncomputable def Oy:FS:=aU (av fJ (aa (af 3) aj))
noncomputable def rT (take pick val:Fn):FS:=aD (aM (av qP (aa (af 2) aj)) (gN 3)) (aD (e_ (m8 (aa (aq cL (av pick (aa (af 0) (aa (aL cS (aa (fC (.int 0)) (aa (fC (.int 1)) (aa (fC (.int 1)) (aa (fC (.int 2)) (aa (fC (.int 3)) aj)))))) aj))) (av nh (aa (aq kC (af 3) (aL cS aj)) aj))) aj)) (gN 4) (Fp take pick val)) Oy)
theorem bG.fB (h:bG p x):x.2 = .ay \/ ∃st,x.2 = .tup st/\St p st/\(cH x.1.dd&&x.1.e.isSome)=true:=by
 have a:=h.t
 split at a
 . rename_i b
   unfold fX at a
   split at a
   . rename_i st e
     simp only[aav,decide_eq_true_eq,aaQ]at a
     exact .inr ⟨st,e,a,b⟩
   . cases a
 . exact .inl a
noncomputable def oQ (ys:List Rt):List D:=(ys.filter λy=>!iR y.2).map (·.2)
theorem Oz (hy:∀y∈ys,bG p y)(hl:ys.length<=100)(hg:g[m]? = some (ys.map rt))(h3:σ[3]? = some (some (.ref m))):Ox σ g=some (.lst (oQ ys),g):=by
 have b:az ys.length=true:=aF (by omega)
 have a:=jq (f:=rt) (t:=gN 1) (c:=aN (aq dI (aq aI (af 1) (fC (.int 4))) (fC .ay))) (cB:=λy=>!iR y.2) (e:=aq aI (af 1) (fC (.int 4))) (h:=λy=>y.2) (xs:=ys) hg (λσ=>∃o,σ = [none,o]) (by
  rintro y hm σ ⟨o,rfl⟩
  refine⟨[none,some (rt y)],by simp,?_,λ_=>by simp[rt,sU],⟨_,rfl⟩⟩
  rcases bG.fB (hy y hm)with e|⟨st,e,_⟩
  . simp[rt,sU,e,isLit,dH,iR]
  . simp[rt,sU,e,isLit,dH,iR]) ys.length [none,none] (aaC _) ⟨_,rfl⟩
 rw[ac1,adj]at a
 have i:bq [none,none] σ = [none,none]:=rfl
 unfold Ox
 simp only[nC,sD,cJ,h3,aax,hg,aaM,b,if_true,i,a]
 rfl
theorem OA (hy:∀y∈ys,bG p y)(hd:d∈oQ ys):∃st,d = .tup st/\St p st:=by
 obtain⟨y,c,rfl⟩:=aaJ.mp hd
 obtain⟨b,a⟩:=aa3.mp c
 rcases bG.fB (hy y b)with e|⟨st,e,h4,_⟩
 . rw[e]at a;cases a
 . exact⟨st,e,h4⟩
theorem Fq {ys:List Rt}{k:Nat}{d:D}(hk:k<ys.length):(ys.set k ((aB ys k).1,d)).map (·.1)=ys.map (·.1):=by
 rw[List.map_set]
 refine acR (by simp) λi a b=>?_
 by_cases hi:k=i
 . subst hi;simp[aB,hk]
 . rw[List.getElem_set_ne hi]
def OB (n:Nat)(p:Int)(xs:List Rt)(B:Int)(g:G)(i:Nat)(σ:Sg)(gg:G):Prop:=i<=3->∃(ys:List Rt) (o4 o5 o6 o7 o8 o9 eu dW fY mG:Option D),σ = [some (.ref n),some (.int p),some (.tup (xs.map rt)),some (.ref g.length),o4,o5,o6,o7,o8,o9,eu,dW,fY,mG]/\Mk g gg n (B+10+10*i) (ys.map rt)/\(∀y∈ys,bG p y)/\ys.map (·.1)=xs.map (·.1)
set_option maxHeartbeats 4000000 in
theorem OC {take pick val:Fn}(ht:dy take)(hp:fO pick)(hv:eh val){n:Nat}{g gg:G}{B p:Int}{xs ys:List Rt}{o4 o5 o6 o7 o8 o9 eu dW fY mG:Option D}{Q:F×Sg×G->Prop}(hB:B+10<2 ^ 40)(p0:0<p)(mE:p<=100)(m:Mk g gg n B (ys.map rt))(hy:∀y∈ys,bG p y)(hl:ys.length<=100)(h0:0<ys.length)
   (q:∀(CY:List Rt) g' o4 o5 o6 o7 o8 o9 eu dW fY mG,Mk g g' n (B+6) (CY.map rt)->(∀y∈CY,bG p y)->CY.map (·.1)=ys.map (·.1)->Q (.nx,[some (.ref n),some (.int p),some (.tup (xs.map rt)),some (.ref g.length),o4,o5,o6,o7,o8,o9,eu,dW,fY,mG],g')):
   wp (Fp take pick val [some (.ref n),some (.int p),some (.tup (xs.map rt)),some (.ref g.length),o4,o5,o6,o7,o8,o9,eu,dW,fY,mG] gg) Q:=by
 unfold Fp
 refine ko ?_
 have a0:=m.at_
 unfold SV
 simp[a0,bD]
 refine ht.w (by omega) (by omega) (by omega) m.hd λr g2 r0 r1 h2 f2=>?_
 have i:=m.step h2 f2
 have a2:=i.at_
 obtain⟨k,rfl⟩:∃k:Nat,r=k:=⟨r.toNat,by omega⟩
 have f:k<ys.length:=by omega
 have gk:=gv (Kd f)
 have o:=hy _ (cW f)
 simp
 have eB:Ow [some (.ref n),some (.int p),some (.tup (xs.map rt)),some (.ref g.length),o4,some (.int k),o6,o7,o8,o9,eu,dW,fY,mG] g2=some (.nx,[some (.ref n),some (.int p),some (.tup (xs.map rt)),some (.ref g.length),o4,some (.int k),some (.int (aB ys k).1.h),some (aB ys k).1.dd,some (.int (aB ys k).1.b),some (eD (aB ys k).1.e),some (aB ys k).2,dW,fY,mG],g2):=by
   simp[Ow,kN,bD,a2,gk,rt]
 refine⟨_,eB,?_⟩
 rcases bG.fB o with e|⟨st,e,ck,OD⟩
 . simp[e,isLit,dH]
   exact q ys g2 _ _ _ _ _ _ _ _ _ _ (i.mono (by omega)) hy rfl
 . simp[e,isLit,dH,SX]
   refine ht.w (by omega) p0 (by omega) i.hd λc g3 c0 c1 h3 f3=>?_
   have j:=i.step h3 f3
   have bt:=Oz (σ:=[some (.ref n),some (.int p),some (.tup (xs.map rt)),some (.ref g.length),o4,some (.int k),some (.int (aB ys k).1.h),some (aB ys k).1.dd,some (.int (aB ys k).1.b),some (eD (aB ys k).1.e),some (.tup st),some (.int c),fY,mG]) hy hl j.at_ rfl
   simp
   refine⟨_,bt,?_⟩
   have vI:=ck.1
   obtain⟨cn,rfl⟩:∃cn:Nat,c=cn:=⟨c.toNat,by omega⟩
   have s:cn<st.length:=by omega
   have s1:∀g,eK (.tup st) none (some (cn:Int)) g=some (.tup (st.take cn),g):=λg=>iM (uP s)
   have s2:∀g,eK (.tup st) (some ((cn:Int)+1)) none g=some (.tup (st.drop (cn+1)),g):=λg=>iM (oA s)
   have y1:az (min cn st.length+1)=true:=aF (by omega)
   have y2:az (min cn st.length+1+(st.length-(cn+1)))=true:=aF (by omega)
   simp[SY,s1]
   refine hv.w (by omega) j.hd λv g4 v0 h4 f4=>?_
   have l:=j.step h4 f4
   have iW:St p (st.take cn++v::st.drop (cn+1)):=⟨by simp;omega,λx a=>by
     rcases aaE.mp a with a|a
     . exact ck.2 x (abH a)
     . rcases aaD.mp a with rfl|a
       . exact jx (.inl v0)
       . exact ck.2 x (adf a)⟩
   simp[s2,y1,y2,S_]
   have tn:oQ ys ≠ []:=λz=>by
     have:st.map id=st:=by simp
     have hm:D.tup st∈oQ ys:=aaJ.mpr ⟨aB ys k,aa3.mpr ⟨cW f,by rw[e];rfl⟩,e⟩
     rw[z]at hm
     cases hm
   have tl:(oQ ys).length<1000:=by
     unfold oQ
     rw[aaM]
     have:=abh (λy:Rt=>!iR y.2) ys
     omega
   refine hp.w (by omega) tn tl l.hd λd g5 hd h5 f5=>?_
   have m5:=l.step h5 f5
   obtain⟨RD,rfl,Vy⟩:=OA hy hd
   simp
   refine hp.w (by omega) (by simp) (by simp) m5.hd λd g6 hd h6 f6=>?_
   have u:=m5.step h6 f6
   obtain⟨pf,rfl,Vz⟩:∃pf,d = .tup pf/\St p pf:=by
     rcases aaD.mp hd with rfl|hd
     . exact⟨_,rfl,iW⟩
     . simp at hd;subst hd;exact⟨_,rfl,Vy⟩
   have pa:=Ov (v:=rt ((aB ys k).1,.tup pf)) u.at_ (k:=k) (by simpa using f)
   have Ze:putD (.ref g.length) (.int k) (.tup [.int (aB ys k).1.h,(aB ys k).1.dd,.int (aB ys k).1.b,eD (aB ys k).1.e,.tup pf]) g6=_:=pa
   simp[Ze]
   have m7:=u.put (ys:=(ys.map rt).set k (rt ((aB ys k).1,.tup pf)))
   rw[<- List.map_set]at m7 ⊢
   refine q (ys.set k ((aB ys k).1,.tup pf)) _ _ _ _ _ _ _ _ _ _ _ (m7.mono (by omega)) (λy Zf=>?_) (Fq f)
   rcases List.mem_or_eq_of_mem_set Zf with h|rfl
   . exact hy y h
   . exact⟨o.r,by rw[if_pos OD];exact St.B Vz⟩
theorem bG.Rl (h:bG p x):L3.flat (rt x)=true/\dep (rt x)<=6:=by
 obtain⟨b,f⟩:=h.r.dd.flat
 obtain⟨a,c⟩:=bG.AS h
 have he:L3.flat (eD x.1.e)=true/\dep (eD x.1.e)=0:=by cases x.1.e<;>exact⟨rfl,rfl⟩
 constructor
 . simp[rt,L3.flat,L3.aP,b,he.1,a]
 . simp[rt,dep,bW,he.2];omega
theorem Fs {p:Int}{xs:List Rt}(h:∀x∈xs,bG p x):L3.aP (xs.map rt)=true/\bW (xs.map rt)<=6:=qf λd hd=>by
 obtain⟨x,a,rfl⟩:=aaJ.mp hd
 exact bG.Rl (h x a)
theorem bG.bx (h:bG p x)(n:Nat):L3.bx n (rt x)=true:=by
 have b:=h.r.dd.bx n
 have c:L3.bx n (eD x.1.e)=true:=by cases x.1.e<;>rfl
 have f:L3.bx n x.2=true:=by
  have a:=h.t
  split at a
  . exact(rO a).2 n
  . rw[a];rfl
 simp[rt,L3.bx,aX,b,c,f]
theorem Kh {p:Int}{xs:List Rt}(h:∀x∈xs,bG p x)(n:Nat):aX n (xs.map rt)=true:=cF λd hd=>by
 obtain⟨x,a,rfl⟩:=aaJ.mp hd
 exact bG.bx (h x a) n
theorem Ki (hg:g[m]? = some xs)(h1:L3.aP xs=true)(h2:bW xs<=50):kC (.ref m) (.lst []) g=some (.bl (!xs.isEmpty),g):=by
 have b:dr (.ref m) g = .lst xs:=by simp[dr,hg]
 have a:dr (.lst []) g = .lst []:=rfl
 have e:aJ (.lst xs) (.lst [])=xs.isEmpty:=by cases xs<;>simp[aJ,b6]
 unfold kC
 rw[b,a,e,if_pos]
 simp[L3.flat,h1,aP,dep]
 omega
set_option maxHeartbeats 4000000 in
theorem OE {take pick val:Fn}(ht:dy take)(hp:fO pick)(hv:eh val){n:Nat}{g:G}{B p:Int}{xs:List Rt}{Q:D×G->Prop}(hB:B+100<2 ^ 40)(p0:0<p)(mE:p<=100)(hx:∀x∈xs,bG p x)(hl:xs.length<=100)(hd:Hd g n B)(hc:Clean g)
   (q:∀(ys:List Rt) g',(∀y∈ys,bG p y)->ys.map (·.1)=xs.map (·.1)->Hd g' n (B+50)->Fr n g g'->Q (.tup (ys.map rt),g')):
   wp (aA false 14 3 (rT take pick val) [.ref n,.int p,.tup (xs.map rt)] g) Q:=by
 refine gM rfl ?_
 unfold rT
 have hz:az xs.length=true:=aF (by omega)
 simp[qP,bD,hz]
 refine lY ?_
 simp
 have m0:Mk g (g ++ [xs.map rt]) n B (xs.map rt):=Mk.init hd
 refine hp.w (by omega) (by simp) (by simp) m0.hd λc g2 mr b f2=>?_
 have m2:=m0.step b f2
 obtain⟨c,rfl,c0,c3⟩:∃i:Int,c = .int i/\0<=i/\i<=3:=by
   simp only[aaD,ad0,or_false]at mr
   rcases mr with rfl|rfl|rfl|rfl|rfl<;>exact⟨_,rfl,by decide,by decide⟩
 obtain⟨Og,SU⟩:=Fs hx
 have nn:=Ki m2.at_ Og (by omega)
 have em:(xs.map rt).isEmpty=xs.isEmpty:=by cases xs<;>rfl
 rw[em]at nn
 simp[nn]
 have fin:∀(σ:Sg) (a:G) (k:Nat),k<=3->OB n p xs B g k σ a->wp (Oy σ a) λr=>match r.1 with
   |.rt d=>L3.bx g.length d=true/\(∀x,x∈List.take g.length r.2.2->aX g.length x=true)/\g.length<=r.2.2.length/\Q (d,r.2.2.take g.length)
   |.nx=>(∀x,x∈List.take g.length r.2.2->aX g.length x=true)/\g.length<=r.2.2.length/\Q (.ay,r.2.2.take g.length)
   |_=>False:=λσ a k hk hI=>by
   obtain⟨ys,o4,o5,h,u,v,o9,l,o,fY,s,rfl,m,f,e⟩:=hI hk
   have a0:=m.at_
   have el:ys.length=xs.length:=by simpa using congrArg afc e
   have y1:az ys.length=true:=by rw[el];exact hz
   obtain⟨h1,b⟩:=m.fin
   have ae:=m.len
   have cl:=(hc.fr b h1).all g.length
   refine⟨(.rt (.tup (ys.map rt)),[some (.ref n),some (.int p),some (.tup (xs.map rt)),some (.ref g.length),o4,o5,h,u,v,o9,l,o,fY,s],a),?_,?_⟩
   . simp[Oy,fJ,bD,a0,y1]
   . exact⟨by simpa[L3.bx]using Kh f g.length,λx yf=>aaQ.mp cl x yf,by show g.length<=a.length;omega,q ys _ f e (h1.mono (by omega)) b⟩
 have Zg:OB n p xs B g 0 [some (.ref n),some (.int p),some (.tup (xs.map rt)),some (.ref g.length),none,none,none,none,none,none,none,none,none,none] g2:=λ_=>⟨xs,_,_,_,_,_,_,_,_,_,_,rfl,m2.mono (by omega),hx,rfl⟩
 have Zh:cT c (if xs = []then 0 else 1)=true:=gO (by omega) (by omega)
 simp[Zh]
 have jb:0<=(c*if xs = []then 0 else 1)/\(c*if xs = []then 0 else 1)<=3:=by split<;>omega
 refine⟨by omega,by omega,?_⟩
 refine ip (λi σ a=>OB n p xs B g i σ a) _ 0 _ _ Zg ?_ ?_
 . intro j d σ a ug hI
   obtain⟨hj,rfl⟩:=gI ug
   have SM:xs ≠ []:=λz=>by rw[if_pos z]at hj;simp at hj
   have ab:j<3:=by omega
   obtain⟨ys,o4,o5,h,u,v,o9,l,o,fY,s,rfl,m,f,e⟩:=hI (by omega)
   rw[ac0]at *
   simp
   have el:ys.length=xs.length:=by simpa using congrArg afc e
   refine OC ht hp hv (by omega) p0 mE m f (by omega) (by rw[el];exact aeZ.mpr SM) λCY g' o4 o5 h u v o9 l o fY s m' LH e'=>?_
   exact λ_=>⟨CY,_,_,_,_,_,_,_,_,_,_,rfl,m'.mono (by omega),LH,e'.trans e⟩
 . intro σ a hI
   rw[gP,ac0]at hI
   simp
   exact fin σ a _ (by omega) hI
end Od
namespace Sd
open PySem L3 L2 RI Pd Od
noncomputable def nZ:FS:=aU (av oC (aa (bQ bU (cv (af 0)) [none,none] (gN 1) aO (aq (bK dX (λi j=>i*2 ^ j.toNat)) (fC (.int 1)) (af 1))) aj))
noncomputable def ql (bits:Fn):FS:=aU (av bits (aa (bQ bU (jg (af 0)) [none,none,none] (gT 2 (aw (gN 1) (aw (gN 2) aV))) (aN (aq dI (aq aI (af 2) (fC (.int 3))) (fC .ay))) (af 1)) aj))
theorem xy {k:Nat}(h:k<=1000):dX 1 (k:Int)=true:=by
 show(adD k 1000000&&adD (1:Int).natAbs 18446744073709551615)=true
 rw[Nat.ble_eq.mpr (by omega:k<=1000000)]
 decide
theorem xA (ks:List Nat):(ks.map λk=>((2 ^ k:Nat):Int)).sum=(((ks.map λk=>2 ^ k).sum:Nat):Int):=by
 induction ks with
 |nil=>rfl
 |cons k ks ih=>simp only[aaX,List.sum_cons,ih];omega
def n0 (f:Fn):Prop:=∀ks g,(∀k∈ks,k<=1000)->ks.length<=1000->f [.lst (kD ks)] g=some (.int (((ks.map λk=>2 ^ k).sum:Nat):Int),g)
theorem Kj:n0 (aA false 1 1 nZ):=λb g o u=>by
 refine bM (σ':=[some (.lst (kD b))]) rfl ?_ rfl
 have n:az b.length=true:=aF (by omega)
 have r:(kD b).length=b.length:=by simp[kD]
 have p:=c_ (f:=λ(i:Nat)=>D.int i) (t:=gN 1) (c:=aO) (e:=aq (bK dX (λi j=>i*2 ^ j.toNat)) (fC (.int 1)) (af 1)) (h:=λ(i:Nat)=>D.int ((2 ^ i:Nat):Int)) (λσ=>∃a,σ = [none,a]) b [none,none] g ⟨_,rfl⟩ (by
  rintro i hm σ ⟨a,rfl⟩
  refine⟨[none,some (.int i)],by simp,by simp,?_,⟨_,rfl⟩⟩
  have:=xy (o i hm)
  simp[bK,this])
 have l:bV (gN 1) aO (aq (bK dX (λi j=>i*2 ^ j.toNat)) (fC (.int 1)) (af 1)) (kD b) [none,none] g=some ((b.map λk=>((2 ^ k:Nat):Int)).map D.int,g):=by rw[acI];exact p
 have s:∀σ:Sg,bq [none,none] σ = [none,none]:=λ_=>rfl
 have q:=uu (b.map λk=>((2 ^ k:Nat):Int))
 rw[<- xA]
 generalize (b.map λk=>((2 ^ k:Nat):Int))=ns at *
 simp[nZ,s,l,r,n,q]
theorem AW {f:Rt->Bool}(xs:List Rt):(xs.zipIdx.filter λy=>f y.1).map (·.2)=(aaz xs.length).filter λi=>f (aB xs i):=by
 have:xs.zipIdx=(aaz xs.length).map λi=>(aB xs i,i):=by
  refine acR (by simp) λi a c=>?_
  have b:i<xs.length:=by simpa using a
  simp[aB,b]
 rw[this,List.filter_map,acI]
 simp[abF]
noncomputable def n4 (xs:List Rt):Nat:=bF xs.length λi=>(aB xs i).1.e.isSome
def AX (f:Fn):Prop:=∀xs g,xs.length<=100->f [.tup (xs.map rt)] g=some (.int (n4 xs),g)
theorem OF {b:Fn}(hb:n0 b):AX (aA false 1 1 (ql b)):=λxs g s=>by
 refine bM (σ':=[some (.tup (xs.map rt))]) rfl ?_ rfl
 have o:az (cU (xs.map rt)).length=true:=aF (by simp[cU];omega)
 have j:=gQ (f:=λy:Rt×Nat=>.tup [.int (y.2:Nat),rt y.1]) (t:=gT 2 (aw (gN 1) (aw (gN 2) aV))) (c:=aN (aq dI (aq aI (af 2) (fC (.int 3))) (fC .ay))) (e:=af 1) (cB:=λy=>y.1.1.e.isSome) (h:=λy=>D.int (y.2:Nat)) (λσ=>∃a b,σ = [none,a,b]) xs.zipIdx [none,none,none] g ⟨_,_,rfl⟩ (by
  rintro⟨y,i⟩ hm σ ⟨a,b,rfl⟩
  refine⟨[none,some (.int i),some (rt y)],by simp,?_,λ_=>by simp,⟨_,_,rfl⟩⟩
  cases he:y.1.e<;>simp[rt,xb,he,eD,isLit,dH])
 rw[<- sZ]at j
 have q:∀σ:Sg,bq [none,none,none] σ = [none,none,none]:=λ_=>rfl
 have n:(xs.zipIdx.filter λy=>y.1.1.e.isSome).map (λy=>D.int (y.2:Nat))=kD ((aaz xs.length).filter λi=>(aB xs i).1.e.isSome):=by
  rw[<- AW (f:=λx=>x.1.e.isSome)]
  simp[kD,abF]
 rw[n]at j
 have l:=hb ((aaz xs.length).filter λi=>(aB xs i).1.e.isSome) g (λk p=>by
  have:=aaL.mp (aa3.mp p).1
  omega) (by have:=abh (λi=>(aB xs i).1.e.isSome) (aaz xs.length);simp at this;omega)
 rw[me]at l
 generalize kD ((aaz xs.length).filter λi=>(aB xs i).1.e.isSome)=r at *
 simp[ql,q,j,o,l,n4]
theorem Kk (xs:List Rt)(b:Nat):(b &&& n4 xs=n4 xs)↔ iX xs b=true:=by
 unfold n4
 rw[CW]
 unfold iX
 have:xs.zipIdx=(aaz xs.length).map λi=>(aB xs i,i):=by
  refine acR (by simp) λi c f=>?_
  have a:i<xs.length:=by simpa using c
  simp[aB,a]
 rw[this,aiy,acs]
 have e:(λi=>!(aB xs i).1.e.isSome||b.testBit i)=((λy:Rt×Nat=>y.1.1.e.isNone||b.testBit y.2) ∘ λi=>(aB xs i,i)):=by
  funext i
  cases h:(aB xs i).1.e<;>simp[h]
 rw[e]
noncomputable def rD (r:aC):D:=.tup [.int (r.1:Nat),.tup r.2]
noncomputable def gD (xs:List Rt)(i:Nat):D:=.tup [.int (i:Nat),.int ((bF xs.length λo=>gw (aB xs o) (aB xs i):Nat):Int),rt (aB xs i)]
noncomputable def gE (xs:List Rt):List D:=(aaz xs.length).map (gD xs)
noncomputable def HH (ahead:Fn):FS:=aM (bQ bU (jg (af 0)) [none,none,none,some 3] (gT 2 (aw (gN 1) (aw (gN 2) aV))) (cK (av ahead (aa (af 2) (aa (af 3) aj)))) (af 1)) (gN 4)
noncomputable def HI (bits:Fn):FS:=fu (dw isRef cV (af 1) (aa (aL aH (aa (af 2) (aa (av bits (aa (af 4) aj)) (aa (af 3) aj)))) aj))
noncomputable def n5 (ahead bits:Fn):FS:=aD (aM (aL mkRef aj) (gN 1)) (aD (e_ (jg (af 0)) (gT 2 (aw (gN 2) (aw (gN 3) aV))) (aD (HH ahead) (HI bits))) (aU (af 1)))
theorem CZ (xs:List Rt):xs.zipIdx=(aaz xs.length).map λi=>(aB xs i,i):=by
 refine acR (by simp) λi a c=>?_
 have b:i<xs.length:=by simpa using a
 simp[aB,b]
theorem oR (xs:List Rt):cU (xs.map rt)=(aaz xs.length).map λi=>.tup [.int (i:Nat),rt (aB xs i)]:=by
 rw[sZ,CZ,acI]
 rfl
theorem OG (ha:kY p ah)(hx:∀x∈xs,bG p x)(hl:xs.length<=100)(hk:k<xs.length):
  HH ah [some (.tup (xs.map rt)),o1,o2,some (rt (aB xs k)),o4] g=some (.nx,[some (.tup (xs.map rt)),o1,o2,some (rt (aB xs k)),some (.lst (kD (early xs k)))],g):=by
 have n:az (cU (xs.map rt)).length=true:=aF (by simp[cU];omega)
 have j:=gQ (f:=λi:Nat=>.tup [.int (i:Nat),rt (aB xs i)]) (t:=gT 2 (aw (gN 1) (aw (gN 2) aV))) (c:=cK (av ah (aa (af 2) (aa (af 3) aj)))) (e:=af 1) (cB:=λi=>gw (aB xs i) (aB xs k)) (h:=λ(i:Nat)=>D.int i) (λσ=>∃a b,σ = [none,a,b,some (rt (aB xs k))]) (aaz xs.length) [none,none,none,some (rt (aB xs k))] g ⟨_,_,rfl⟩ (by
  rintro i hm σ ⟨a,b,rfl⟩
  have:=ha (rt (aB xs i)) (rt (aB xs k)) g (hx _ (cW (aaL.mp hm))).row (hx _ (cW hk)).row
  refine⟨[none,some (.int i),some (rt (aB xs i)),some (rt (aB xs k))],by simp,?_,λ_=>by simp,⟨_,_,rfl⟩⟩
  simp[this,gw])
 rw[<- oR]at j
 have o:∀a b c:Option D,bq [none,none,none,some 3] [a,b,c,some (rt (aB xs k)),o4]= [none,none,none,some (rt (aB xs k))]:=λ_ _ _=>rfl
 have l:bV (gT 2 (aw (gN 1) (aw (gN 2) aV))) (cK (av ah (aa (af 2) (aa (af 3) aj)))) (af 1) (cU (xs.map rt)) [none,none,none,some (rt (aB xs k))] g=some (kD (early xs k),g):=j
 simp[HH,o,l,n]
theorem HJ (ha:kY p ah)(hb:n0 bi)(hx:∀x∈xs,bG p x)(hl:xs.length<=100):∀(rest:List Nat) (acc:List D) (o2 o3 o4:Option D),(∀k∈rest,k<xs.length)->acc.length+rest.length<=200 ->
  ∃σ',σ'[1]? = some (some (.ref g.length))/\forL (gT 2 (aw (gN 2) (aw (gN 3) aV))) (aD (HH ah) (HI bi)) (rest.map λi=>.tup [.int (i:Nat),rt (aB xs i)]) [some (.tup (xs.map rt)),some (.ref g.length),o2,o3,o4] (g ++ [acc])=some (.nx,σ',g ++ [acc++rest.map (gD xs)])
 | [],acc,o2,o3,o4,_,_=>⟨[some (.tup (xs.map rt)),some (.ref g.length),o2,o3,o4],rfl,by simp[forL]⟩
 |k::rest,acc,o2,o3,o4,h,hs=>by
  have c:=h k (by simp)
  have n:=OG ha (g:=g ++ [acc]) (o1:=some (.ref g.length)) (o2:=some (.int k)) (o4:=o4) hx hl c
  have q:(early xs k).length<=100:=by
   have:=abh (λo=>gw (aB xs o) (aB xs k)) (aaz xs.length)
   simp at this
   unfold early
   omega
  have b:=hb (early xs k) (g ++ [acc]) (λj a=>by
   have:=aaL.mp (aa3.mp a).1
   omega) (by omega)
  have l:((early xs k).map λk=>2 ^ k).sum=bF xs.length λo=>gw (aB xs o) (aB xs k):=me _ _
  rw[l]at b
  have f:az (acc.length+1)=true:=aF (by simp at hs;omega)
  obtain⟨σ',s1,ih⟩:=HJ ha hb (g:=g) hx hl rest (acc ++ [gD xs k]) (some (.int k)) (some (rt (aB xs k))) (some (.lst (kD (early xs k)))) (λj a=>h j (by simp[a])) (by simp at hs ⊢;omega)
  refine⟨σ',s1,?_⟩
  have e:HI bi [some (.tup (xs.map rt)),some (.ref g.length),some (.int k),some (rt (aB xs k)),some (.lst (kD (early xs k)))] (g ++ [acc])=some (.nx,[some (.tup (xs.map rt)),some (.ref g.length),some (.int k),some (rt (aB xs k)),some (.lst (kD (early xs k)))],g ++ [acc ++ [gD xs k]]):=by
   simp[HI,b,f,gD]
  rw[show acc++(k::rest).map (gD xs)=(acc ++ [gD xs k])++rest.map (gD xs) by simp,<- ih]
  simp[forL,n,e]
def xB (p:Int)(f:Fn):Prop:=∀xs g,(∀x∈xs,bG p x)->xs.length<=100->Clean g->f [.tup (xs.map rt)] g=some (.lst (gE xs),g)
theorem Kl (ha:kY p ah)(hb:n0 bi):xB p (aA false 5 1 (n5 ah bi)):=λxs g b h i=>by
 have key:wp (aA false 5 1 (n5 ah bi) [.tup (xs.map rt)] g) λr=>r=(.lst (gE xs),g):=by
  refine oO rfl ?_
  obtain⟨c,s1,e⟩:=HJ ha hb (g:=g) b h (aaz xs.length) [] none none none (λk a=>aaL.mp a) (by simp;omega)
  rw[<- oR,acH]at e
  have f:n5 ah bi [some (.tup (xs.map rt)),none,none,none,none] g=some (.rt (.ref g.length),c,g ++ [gE xs]):=by
   simp[n5,e,s1,gE]
  refine⟨_,f,g.length,gE xs,rfl,aaC _,by simp,cF λd hd=>?_,by simpa using i.all _,by simp⟩
  obtain⟨k,a,rfl⟩:=aaJ.mp hd
  have:=bG.bx (b _ (cW (aaL.mp a))) g.length
  simp[gD,bx,aX,this]
 obtain⟨r,e,rfl⟩:=key
 exact e
noncomputable def C0:FS:=aM (aq (bK dX (λi j=>i*2 ^ j.toNat)) (fC (.int 1)) (af 4)) (gN 7)
noncomputable def xC (fits:Fn):FT:=jI (aN (aq oEq (aq (bK cf ach) (af 1) (af 7)) (fC (.int 0)))) (jI (aN (aq oEq (aq (bK cf ach) (af 1) (af 5)) (af 5))) (cK (av fits (aa (af 6) (aa (af 2) aj)))))
noncomputable def C1 (behind:Fn):FS:=fu (dw isRef cV (af 3) (aa (aL aH (aa (af 4) (aa (aL aH (aa (aq (bK cf ad5) (af 1) (af 7)) (aa (av behind (aa (af 6) (aa (af 2) aj))) aj))) aj))) aj))
noncomputable def kZ (fits behind:Fn):FS:=aD (aM (aL mkRef aj) (gN 3)) (aD (e_ (cv (af 0)) (gT 3 (aw (gN 4) (aw (gN 5) (aw (gN 6) aV)))) (aD C0 (cA (xC fits) (C1 behind) bp))) (aU (af 3)))
noncomputable def mH (xs:List Rt)(r:aC)(k:Nat):D:=.tup [.int (k:Nat),rD (bO xs r k)]
noncomputable def rV (xs:List Rt)(r:aC):List D:=((aaz xs.length).filter (cx xs r)).map (mH xs r)
noncomputable abbrev S8 (xs:List Rt)(r:aC)(m:Nat)(o4 o5 o6 o7:Option D):Sg:=[some (.lst (gE xs)),some (.int (r.1:Nat)),some (.tup r.2),some (.ref m),o4,o5,o6,o7]
theorem OH {xs:List Rt}{r:aC}{m k:Nat}{g:G}{o5 o6 o7:Option D}(hk:k<=1000):C0 (S8 xs r m (some (.int k)) o5 o6 o7) g=some (.nx,S8 xs r m (some (.int k)) o5 o6 (some (.int ((2 ^ k:Nat):Int))),g):=by
 have:=xy hk
 simp[C0,bK,this]
theorem OI {fi:Fn}{p:Int}(hf:nV p fi){xs:List Rt}{r:aC}{m k:Nat}{g:G}(hx:∀x∈xs,bG p x)(hs:St p r.2)(hk:k<xs.length):
  xC fi (S8 xs r m (some (.int k)) (some (.int ((bF xs.length λo=>gw (aB xs o) (aB xs k):Nat):Int))) (some (rt (aB xs k))) (some (.int ((2 ^ k:Nat):Int)))) g=some (cx xs r k,g):=by
 have j:=hf (aB xs k) r.2 g (hx _ (cW hk)) hs
 have a1:=qh r.1 (2 ^ k)
 have a2:=qh r.1 (bF xs.length λo=>gw (aB xs o) (aB xs k))
 have l:decide (((r.1 &&& 2 ^ k:Nat):Int)=0)= !r.1.testBit k:=by
  cases h:r.1.testBit k with
  |false=>have:=(zu r.1 k).mpr h;rw[this];rfl
  |true =>
   simp only[ad6,decide_eq_false_iff_not]
   intro z
   have e:r.1 &&& 2 ^ k=0:=by omega
   rw[(zu r.1 k).mp e]at h
   cases h
 have b:decide (((r.1 &&& (bF xs.length λo=>gw (aB xs o) (aB xs k)):Nat):Int)=((bF xs.length λo=>gw (aB xs o) (aB xs k):Nat):Int))=((early xs k).all λo=>r.1.testBit o):=by
  have:=CW (λo=>gw (aB xs o) (aB xs k)) r.1 xs.length
  cases h:((early xs k).all λo=>r.1.testBit o)with
  |true =>
   have:=this.mpr h
   rw[this];simp
  |false =>
   simp only[decide_eq_false_iff_not]
   intro z
   have e:r.1 &&& (bF xs.length λo=>gw (aB xs o) (aB xs k))=bF xs.length λo=>gw (aB xs o) (aB xs k):=by omega
   rw[show(early xs k).all (λo=>r.1.testBit o)=true from this.mp e]at h
   cases h
 generalize (bF xs.length λo=>gw (aB xs o) (aB xs k))=c at *
 have a:oEq (.int ((r.1 &&& 2 ^ k:Nat):Int)) (.int 0) g=some (.bl (!r.1.testBit k),g):=by
  unfold oEq
  rw[ic,l]
  simp[flat,dep]
 have v:oEq (.int ((r.1 &&& c:Nat):Int)) (.int (c:Int)) g=some (.bl ((early xs k).all λo=>r.1.testBit o),g):=by
  unfold oEq
  rw[ic,b]
  simp[flat,dep]
 unfold cx
 generalize ((early xs k).all λo=>r.1.testBit o)=n at *
 generalize (r.1 &&& c)=q at *
 generalize (r.1 &&& 2 ^ k)=s at *
 generalize 2 ^ k=u at *
 cases i:r.1.testBit k with
 |true=>rw[i]at a;simp[xC,bK,cf,a1,a]
 |false =>
  rw[i]at a
  cases n with
  |false =>
   have f:=of_decide_eq_false b
   simp[xC,bK,cf,a1,a,a2,f]
  |true =>
   have f:=of_decide_eq_true b
   cases h3:rS (aB xs k) r.2<;>rw[h3]at j<;>simp[xC,bK,cf,a1,a,a2,f,j]
theorem AY {fi be:Fn}{p:Int}(hf:nV p fi)(hb:ma p be){xs:List Rt}{r:aC}{g:G}(hx:∀x∈xs,bG p x)(hl:xs.length<=100)(hs:St p r.2):∀(rest:List Nat) (acc:List D) (o4 o5 o6 o7:Option D),(∀k∈rest,k<xs.length)->acc.length+rest.length<=200 ->
  ∃σ',σ'[3]? = some (some (.ref g.length))/\forL (gT 3 (aw (gN 4) (aw (gN 5) (aw (gN 6) aV)))) (aD C0 (cA (xC fi) (C1 be) bp)) (rest.map (gD xs)) (S8 xs r g.length o4 o5 o6 o7) (g ++ [acc])=some (.nx,σ',g ++ [acc++(rest.filter (cx xs r)).map (mH xs r)])
 | [],acc,o4,o5,o6,o7,_,_=>⟨S8 xs r g.length o4 o5 o6 o7,rfl,by simp[forL]⟩
 |k::rest,acc,o4,o5,o6,o7,h,hsz=>by
  have c:=h k (by simp)
  have i:=OH (xs:=xs) (r:=r) (m:=g.length) (g:=g ++ [acc]) (o5:=some (.int ((bF xs.length λo=>gw (aB xs o) (aB xs k):Nat):Int))) (o6:=some (rt (aB xs k))) (o7:=o7) (show k<=1000 by omega)
  have a:=OI hf (m:=g.length) (g:=g ++ [acc]) hx hs c
  have u:=hb (aB xs k) r.2 (g ++ [acc]) (hx _ (cW c)) hs
  have q:az (acc.length+1)=true:=aF (by simp at hsz;omega)
  have s:=Ke r.1 (2 ^ k)
  have f:gT 3 (aw (gN 4) (aw (gN 5) (aw (gN 6) aV))) (gD xs k) (S8 xs r g.length o4 o5 o6 o7) (g ++ [acc])=some (S8 xs r g.length (some (.int k)) (some (.int ((bF xs.length λo=>gw (aB xs o) (aB xs k):Nat):Int))) (some (rt (aB xs k))) o7,g ++ [acc]):=by
   simp[gD]
  generalize v:(bF xs.length λo=>gw (aB xs o) (aB xs k))=bb at *
  cases hc:cx xs r k with
  |false =>
   rw[hc]at a
   obtain⟨σ',s1,ih⟩:=AY hf hb (g:=g) hx hl hs rest acc (some (.int k)) (some (.int (bb:Int))) (some (rt (aB xs k))) (some (.int ((2 ^ k:Nat):Int))) (λj b=>h j (by simp[b])) (by simp at hsz;omega)
   refine⟨σ',s1,?_⟩
   rw[abC,hc,if_neg (by simp),<- ih,aaX]
   simp only[forL,f,aax,il,i,qS,a]
   simp
  |true =>
   rw[hc]at a
   obtain⟨σ',s1,ih⟩:=AY hf hb (g:=g) hx hl hs rest (acc ++ [mH xs r k]) (some (.int k)) (some (.int (bb:Int))) (some (rt (aB xs k))) (some (.int ((2 ^ k:Nat):Int))) (λj b=>h j (by simp[b])) (by simp at hsz ⊢;omega)
   refine⟨σ',s1,?_⟩
   have e:C1 be (S8 xs r g.length (some (.int k)) (some (.int (bb:Int))) (some (rt (aB xs k))) (some (.int ((2 ^ k:Nat):Int)))) (g ++ [acc])=some (.nx,S8 xs r g.length (some (.int k)) (some (.int (bb:Int))) (some (rt (aB xs k))) (some (.int ((2 ^ k:Nat):Int))),g ++ [acc ++ [mH xs r k]]):=by
    generalize n:2 ^ k=tk at *
    have l:mH xs r k = .tup [.int (k:Nat),.tup [.int ((r.1 ||| tk:Nat):Int),.tup (fQ r.2 (aB xs k).1.dd)]]:=by
     simp[mH,rD,bO,adP,n]
    rw[l]
    simp[C1,bK,cf,s,u,q]
   rw[abC,hc,if_pos rfl,show acc++(k::rest.filter (cx xs r)).map (mH xs r)=(acc ++ [mH xs r k])++(rest.filter (cx xs r)).map (mH xs r) by simp,<- ih,aaX]
   simp only[forL,f,aax,il,i,qS,a,e]
   simp[e]
def oS (p:Int)(f:Fn):Prop:=∀xs r g,(∀x∈xs,bG p x)->xs.length<=100->St p r.2->Clean g->f [.lst (gE xs),.int (r.1:Nat),.tup r.2] g=some (.lst (rV xs r),g)
theorem xD (h:St p st)(n:Nat):bx n (.tup st)=true:=(rO (St.B h)).2 n
theorem Ft (hf:nV p fi)(hb:ma p be):oS p (aA false 8 3 (kZ fi be)):=λxs r g c o h i=>by
 have key:wp (aA false 8 3 (kZ fi be) [.lst (gE xs),.int (r.1:Nat),.tup r.2] g) λq=>q=(.lst (rV xs r),g):=by
  refine oO rfl ?_
  obtain⟨b,s1,e⟩:=AY hf hb (g:=g) c o h (aaz xs.length) [] none none none none (λk a=>aaL.mp a) (by simp;omega)
  rw[acH]at e
  have j:forL (gT 3 (aw (gN 4) (aw (gN 5) (aw (gN 6) aV)))) (aD C0 (cA (xC fi) (C1 be) bp)) (gE xs) [some (.lst (gE xs)),some (.int (r.1:Nat)),some (.tup r.2),some (.ref g.length),none,none,none,none] (g ++ [[]])=some (.nx,b,g ++ [rV xs r]):=e
  have n:kZ fi be [some (.lst (gE xs)),some (.int (r.1:Nat)),some (.tup r.2),none,none,none,none,none] g=some (.rt (.ref g.length),b,g ++ [rV xs r]):=by
   simp[kZ,j,s1]
  refine⟨_,n,g.length,rV xs r,rfl,aaC _,by simp,cF λd hd=>?_,by simpa using i.all _,by simp⟩
  obtain⟨k,a,rfl⟩:=aaJ.mp hd
  have l:=aaL.mp (aa3.mp a).1
  have f:=xD (St.put h (c _ (cW l)).r.dd) g.length
  simp[bx]at f
  simp[mH,rD,bO,bx,aX,f]
 obtain⟨q,e,rfl⟩:=key
 exact e
theorem td (h:jU d=true):∃i:Int,d = .int i:=by
 unfold jU within at h
 split at h
 . exact⟨_,rfl⟩
 . cases h
theorem oT {P:D->Prop}(h:∀d e,P d->P e->(aJ d e=true ↔ d=e)):∀(xs ys:List D),(∀x∈xs,P x)->(∀y∈ys,P y)->(b6 xs ys=true ↔ xs=ys)
 | [],[],_,_=>by simp[b6]
 | [],_::_,_,_=>by simp[b6]
 |_::_,[],_,_=>by simp[b6]
 |x::xs,y::ys,h1,h2=>by
  have ih:=oT h xs ys (λz a=>h1 z (by simp[a])) (λz a=>h2 z (by simp[a]))
  have h0:=h x y (h1 x (by simp)) (h2 y (by simp))
  show(aJ x y&&b6 xs ys)=true ↔ _
  rw[aav,h0,ih,aiu]
theorem k_:aJ (.tup xs) (.tup ys)=b6 xs ys:=by simp only[aJ]
theorem OK:aJ (.int i) (.tup ys)=false:=by simp[aJ]
theorem OL:aJ (.tup ys) (.int i)=false:=by simp[aJ]
theorem iE (h:isVal (n+1) d=true):(∃i:Int,d = .int i) \/ ∃xs,d = .tup xs /\ ∀x∈xs,isVal n x=true:=by
 cases d with
 |tup xs =>
  simp only[isVal,aav,aaQ]at h
  exact .inr ⟨xs,rfl,h.2⟩
 |int i=>exact .inl ⟨i,rfl⟩
 |_=>simp[isVal,jU,within]at h
theorem tf:∀(n:Nat) (d e:D),isVal n d=true->isVal n e=true->(aJ d e=true ↔ d=e)
 | 0,d,e,h1,h2=>by
  obtain⟨i,rfl⟩:=td h1
  obtain⟨j,rfl⟩:=td h2
  rw[ic];simp
 |n+1,d,e,h1,h2=>by
  rcases iE h1 with⟨i,rfl⟩|⟨xs,rfl,hx⟩<;>rcases iE h2 with⟨j,rfl⟩|⟨ys,rfl,hy⟩
  . rw[ic];simp
  . rw[OK];simp
  . rw[OL];simp
  . rw[k_,oT (P:=λd=>isVal n d=true) (λd e=>tf n d e) xs ys hx hy];simp
theorem tu:∀(n m:Nat) (d:D),isVal n d=true->n<=m->a_ (m+1) d=true
 | 0,m,d,h,_=>by obtain⟨i,rfl⟩:=td h;simp[a_]
 |n+1,m,d,h,hm=>by
  rcases iE h with⟨i,rfl⟩|⟨xs,rfl,hx⟩
  . simp[a_]
  . obtain⟨b,rfl⟩:∃b,m=b+1:=⟨m-1,by omega⟩
    have:∀a:List D,(∀y∈a,isVal n y=true)->cX (b+1) a=true:=λa=>by
     induction a with
     |nil=>intro _;simp[cX]
     |cons y a ih=>intro c;simp[cX,tu n b y (c y (by simp)) (by omega),ih λz e=>c z (by simp[e])]
    simpa[a_]using this xs hx
def Rm (p:Int)(r:aC):Prop:=St p r.2
theorem u6 (hr:Rm p r)(hs:Rm p s):aJ (rD r) (rD s)=true ↔ r=s:=by
 obtain⟨b,st⟩:=r
 obtain⟨c,a⟩:=s
 have h:=oT (P:=λd=>isVal 3 d=true) (λd e=>tf 3 d e) st a hr.2 hs.2
 have i:aJ (rD (b,st)) (rD (c,a))=(decide ((b:Int)=(c:Int))&&b6 st a):=by
   show aJ (.tup [.int (b:Nat),.tup st]) (.tup [.int (c:Nat),.tup a])=_
   rw[k_]
   show(aJ (.int (b:Nat)) (.int (c:Nat))&&(aJ (.tup st) (.tup a)&&b6 [] []))=_
   rw[ic,k_]
   simp[b6]
 rw[i,aav,h,decide_eq_true_eq,Prod.mk.injEq]
 constructor
 . rintro⟨j,f⟩;exact⟨by omega,f⟩
 . rintro⟨rfl,rfl⟩;exact⟨rfl,rfl⟩
theorem xF (hr:Rm p r):a_ 6 (rD r)=true:=by
 have:∀a:List D,(∀y∈a,isVal 3 y=true)->cX 4 a=true:=λa=>by
  induction a with
  |nil=>intro _;simp[cX]
  |cons y a ih=>intro b;simp[cX,tu 3 3 y (b y (by simp)) (by omega),ih λz c=>b z (by simp[c])]
 simp[rD,a_,cX,this r.2 hr.2]
noncomputable def dR:List (aC×D)->List D
 | []=>[]
 |e::r=>rD e.1::e.2::dR r
theorem OM (es:List (aC×D)):(dR es).length=2*es.length:=by
 induction es with
 |nil=>rfl
 |cons e es ih=>simp[dR,ih];omega
theorem Km (es:List (aC×D)):aW (dR es)=es.map λe=>rD e.1:=by
 induction es with
 |nil=>rfl
 |cons e es ih=>simp[dR,aW,ih]
theorem oU:∀{es:List (aC×D)} {r:aC},(∀e∈es,Rm p e.1)->Rm p r->(∀e∈es,e.1≠r)->aS (dR es) (rD r)=none /\ ∀v,bH (dR es) (rD r) v=dR (es ++ [(r,v)])
 | [],r,_,_,_=>⟨rfl,λ_=>rfl⟩
 |e::es,r,h1,h2,h3=>by
  obtain⟨b,c⟩:=oU (es:=es) (r:=r) (λx a=>h1 x (by simp[a])) h2 (λx a=>h3 x (by simp[a]))
  have:aJ (rD e.1) (rD r)=false:=by
    cases hq:aJ (rD e.1) (rD r)with
    |false=>rfl
    |true=>exact absurd ((u6 (h1 e (by simp)) h2).mp hq) (h3 e (by simp))
  constructor
  . simp only[dR,aS,this,aaF,if_false,b]
  . intro v
    simp only[dR,bH,this,aaF,if_false,c,aeA]
theorem xG:∀{es:List (aC×D)} {r:aC} {v:D},(∀e∈es,Rm p e.1)->(es.map (·.1)).Nodup->(r,v)∈es->aS (dR es) (rD r)=some v
 |e::es,r,v,h1,hn,hm=>by
  rw[aaX,ab_]at hn
  simp only[dR,aS]
  by_cases hq:e.1=r
  . subst hq
    rw[if_pos ((u6 (h1 e (by simp)) (h1 e (by simp))).mpr rfl)]
    rcases aaD.mp hm with he|hm
    . rw[<- he]
    . exact absurd (aaJ.mpr ⟨_,hm,rfl⟩) hn.1
  . have a:(r,v)∈es:=by
      rcases aaD.mp hm with rfl|hm
      . exact absurd rfl hq
      . exact hm
    rw[if_neg (λz=>hq ((u6 (h1 e (by simp)) (h1 _ (by simp[a]:(r,v)∈e::es))).mp z))]
    exact xG (λx b=>h1 x (by simp[b])) hn.2 a
noncomputable def first (p:Int):aC:=(0,zs p)
noncomputable def keys (es:List (aC×D)):List aC:=es.map (·.1)
theorem ON (h:Rm p r)(n:Nat):bx n (rD r)=true:=by
 have a:=xD h n
 simp[bx]at a
 simp[rD,bx,aX,a]
theorem OO (h:d∈dR es):∃e∈es,d=rD e.1\/d=e.2:=by
 induction es with
 |nil=>cases h
 |cons e es ih =>
  simp only[dR,aaD]at h
  rcases h with rfl|rfl|h
  . exact⟨e,by simp,.inl rfl⟩
  . exact⟨e,by simp,.inr rfl⟩
  . obtain⟨c,a,b⟩:=ih h
    exact⟨c,by simp[a],b⟩
theorem OP (hc:Clean g)(ha:∀n,aX n a=true)(hb:∀n,aX n b=true):Clean (g ++ [a,b]):=λxs c n=>by
 rcases aaE.mp c with h|h
 . exact hc xs h n
 . simp at h
   rcases h with rfl|rfl
   . exact ha n
   . exact hb n
noncomputable def aK (n b:Nat):List Nat:=(aaz n).filter λi=>b.testBit i
noncomputable def ao (xs:List Rt)(r:aC):D:=.tup [.tup (kD (aK xs.length r.1)),.tup r.2]
theorem jy (h:Rm p r):flat (ao xs r)=true/\dep (ao xs r)<=6 /\ ∀n,bx n (ao xs r)=true:=by
 obtain⟨j,i⟩:=zt (aK xs.length r.1)
 obtain⟨f,e⟩:=St.flat h
 have b:aP r.2=true:=by simpa[flat]using f
 have o:bW r.2<=3:=by simp[dep]at e;omega
 refine⟨by simp[ao,flat,aP,j,b],by simp[ao,dep,bW,i];omega,λn=>?_⟩
 have a:=xD h n
 simp[bx]at a
 have c:aX n (kD (aK xs.length r.1))=true:=cF λx l=>by
  obtain⟨k,_,rfl⟩:=aaJ.mp l
  rfl
 simp[ao,bx,aX,a,c]
noncomputable def jr (t a:Fn):FS:=aD (cA (kI (dq (cK (av t (aa (af 1) (aa (fC (.int 0)) (aa (av cZ (aa (af 0) aj)) aj)))))) (dq (cK (av a (aa (af 0) (aa (af 1) aj)))))) (aU (fC (.bl false))) bp) (aU (av fL (aa (bQ bU (vN (aa (fC (.int 1)) (aa (av cZ (aa (af 1) aj)) aj))) [none,none,some 1] (gN 1) aO (aq oLt (aq aI (af 2) (aq (bK cf (· - ·)) (af 1) (fC (.int 1)))) (aq aI (af 2) (af 1)))) aj)))
theorem Ko {ks:List Nat}{n:Nat}(hp:ks.Pairwise (· < ·))(hk:∀k∈ks,k<n):ks.length<=n:=by
 have:=qg (V:=ks) (W:=aaz n) (hp.imp λh=>aaN h) (λk h=>aaL.mpr (hk k h))
 simpa using this
noncomputable def oV (t v:Fn)(e:FE):FS:=aD (cA (dq (cK (av t (aa (af 2) (aa (af 0) (aa (af 0) aj)))))) (aU (fC (.bl false))) bp) (aU (av fL (aa (bQ bU (cv (af 2)) [none,none,some 1] (gN 1) aO (se (av v (aa (af 1) aj)) (av kf (aa (bQ bU (cv (af 2)) [none,none,some 1] (gN 1) aO e) aj)))) aj)))
noncomputable def jX (t r s:Fn):FS:=aD (cA (dq (cK (av t (aa (af 3) (aa (fC (.int 2)) (aa (fC (.int 2)) aj)))))) (aU (fC (.bl false))) bp) (aU (eG (av r (aa (af 1) (aa (aq aI (af 3) (fC (.int 0))) aj))) (av s (aa (af 0) (aa (af 2) (aa (aq aI (af 3) (fC (.int 1))) aj))))))
def oW (f:Fn):Prop:=∀ks g,(∀k∈ks,k<=1000)->ks.length<=1000->f [.tup (kD ks)] g=some (.int (((ks.map λk=>2 ^ k).sum:Nat):Int),g)
theorem Fu:oW (aA false 1 1 nZ):=λb g o u=>by
 refine bM (σ':=[some (.tup (kD b))]) rfl ?_ rfl
 have n:az b.length=true:=aF (by omega)
 have r:(kD b).length=b.length:=by simp[kD]
 have p:=c_ (f:=λ(i:Nat)=>D.int i) (t:=gN 1) (c:=aO) (e:=aq (bK dX (λi j=>i*2 ^ j.toNat)) (fC (.int 1)) (af 1)) (h:=λ(i:Nat)=>D.int ((2 ^ i:Nat):Int)) (λσ=>∃a,σ = [none,a]) b [none,none] g ⟨_,rfl⟩ (by
  rintro i hm σ ⟨a,rfl⟩
  refine⟨[none,some (.int i)],by simp,by simp,?_,⟨_,rfl⟩⟩
  have:=xy (o i hm)
  simp[bK,this])
 have l:bV (gN 1) aO (aq (bK dX (λi j=>i*2 ^ j.toNat)) (fC (.int 1)) (af 1)) (kD b) [none,none] g=some ((b.map λk=>((2 ^ k:Nat):Int)).map D.int,g):=by rw[acI];exact p
 have s:∀σ:Sg,bq [none,none] σ = [none,none]:=λ_=>rfl
 have q:=uu (b.map λk=>((2 ^ k:Nat):Int))
 rw[<- xA]
 generalize (b.map λk=>((2 ^ k:Nat):Int))=ns at *
 simp[nZ,s,l,r,n,q]
theorem Fv (h:b<2 ^ n):((aK n b).map λk=>(2:Nat) ^ k).sum=b:=by
 unfold aK
 rw[me]
 refine acJ λi=>?_
 rw[nY]
 by_cases hi:i<n
 . simp[hi]
 . have:b.testBit i=false:=acV (aa0 h (adg (by omega) (by omega)))
   simp[hi,this]
theorem C2 (n b:Nat):(aK n b).Pairwise (· < ·):=(aew).filter _
noncomputable def HK:FT:=aN (aq oEq (aq (bK cf ach) (af 4) (af 3)) (af 3))
noncomputable def OQ (leads:Fn):FE:=av fL (aa (bQ bU (cv (av leads (aa (af 2) (aa (af 4) (aa (af 5) aj))))) [none,none,none,some 1] (gT 2 (aw (gN 1) (aw (gN 2) aV))) aO (aq eO (af 2) (af 3))) aj)
noncomputable def zv (leads:Fn):FS:=aD (cA HK (aU (fC (.bl false))) bp) (cA (dq (cK (OQ leads))) (aU (fC (.bl false))) bp)
noncomputable def u7 (plan ended leads:Fn):FS:=aD (aM (av plan (aa (af 0) aj)) (gN 2)) (aD (aM (av ended (aa (af 0) aj)) (gN 3)) (aD (lQ (sH (af 1)) (gT 2 (aw (gN 4) (aw (gN 5) aV))) (zv leads)) (aU (fC (.bl true)))))
noncomputable def inR (rs:List aC)(v:aC):Bool:=@decide (v∈rs) (afW _)
theorem fU:inR rs v=true ↔ v∈rs:=by unfold inR;exact @decide_eq_true_iff _ (afW _)
theorem la (h:v ∉ rs):inR rs v=false:=by
 cases hq:inR rs v with
 |false=>rfl
 |true=>exact absurd (fU.mp hq) h
noncomputable def dC (xs:List Rt)(rs:List aC)(r:aC):Bool:=!iX xs r.1&&((aaz xs.length).filter (cx xs r)).all λk=>inR rs (bO xs r k)
def AZ (xs:List Rt)(p:Int)(f:Fn):Prop:=∀es g m,(∀e∈es,Rm p e.1)->(es.map (·.1)).Nodup->g[m]? = some (dR es)->Clean g->f [.tup (xs.map rt),.aG m] g=some (.bl ((keys es).all (dC xs (keys es))),g)
noncomputable abbrev S6 (xs:List Rt)(m:Nat)(c4 c5:Option D):Sg:=[some (.tup (xs.map rt)),some (.aG m),some (.lst (gE xs)),some (.int (n4 xs:Nat)),c4,c5]
theorem OR (hx:∀x∈xs,bG p x)(hn:xs.length<=100)(hle:oS p le)(nU:∀e∈es,Rm p e.1)(uv:(es.map (·.1)).Nodup)(hm:g[m]? = some (dR es))(hc:Clean g)(hr:r∈keys es):
  zv le (S6 xs m (some (.int (r.1:Nat))) (some (.tup r.2))) g=some (if dC xs (keys es) r=true then .nx else .rt (.bl false),S6 xs m (some (.int (r.1:Nat))) (some (.tup r.2)),g):=by
 obtain⟨er,Zk,VA⟩:=aaJ.mp hr
 have v:Rm p r:=by rw[<- VA];exact nU er Zk
 have l:=qh r.1 (n4 xs)
 have ev:HK (S6 xs m (some (.int (r.1:Nat))) (some (.tup r.2))) g=some (iX xs r.1,g):=by
  have s:=Kk xs r.1
  generalize u:n4 xs=en at *
  cases h:iX xs r.1 with
  |true =>
   have n:=s.mpr h
   rw[n]at l
   simp[HK,bK,cf,l,u]
  |false =>
   have n:¬(r.1 &&& en)=en:=λz=>by rw[s.mp z]at h;cases h
   have e3:¬(((r.1 &&& en:Nat):Int)=(en:Int)):=by omega
   generalize (r.1 &&& en)=ae at *
   simp[HK,bK,cf,l,u,e3]
 cases j:iX xs r.1 with
 |true =>
  rw[j]at ev
  have:dC xs (keys es) r=false:=by simp[dC,j]
  unfold zv
  simp[ev,this]
 |false =>
  rw[j]at ev
  have ld:=hle xs r g hx hn v hc
  have hl:((aaz xs.length).filter (cx xs r)).length<=xs.length:=by
   have:=abh (cx xs r) (aaz xs.length)
   simpa using this
  have hz:az (rV xs r).length=true:=aF (by simp[rV];omega)
  have c1:=c_ (f:=mH xs r) (t:=gT 2 (aw (gN 1) (aw (gN 2) aV))) (c:=aO) (e:=aq eO (af 2) (af 3)) (h:=λk=>D.bl (inR (keys es) (bO xs r k))) (λσ=>∃a b,σ = [none,a,b,some (.aG m)]) ((aaz xs.length).filter (cx xs r)) [none,none,none,some (.aG m)] g ⟨_,_,rfl⟩ (by
   rintro k o σ ⟨a,b,rfl⟩
   rw[aa3,aaL]at o
   have q:Rm p (bO xs r k):=St.put v (hx _ (cW o.1)).r.dd
   have y:=xF q
   refine⟨[none,some (.int k),some (rD (bO xs r k)),some (.aG m)],by simp[mH],by simp,?_,⟨_,_,rfl⟩⟩
   by_cases cM:bO xs r k∈keys es
   . obtain⟨e,he,Zl⟩:=aaJ.mp cM
     have i:aS (dR es) (rD (bO xs r k))=some e.2:=xG nU uv (by rw[<- Zl];exact he)
     simp[y,i,hm,fU.mpr cM]
   . obtain⟨i,_⟩:=oU (p:=p) nU q (λe he z=>cM (aaJ.mpr ⟨e,he,z⟩))
     simp[y,i,hm,la cM])
  have c2:bV (gT 2 (aw (gN 1) (aw (gN 2) aV))) aO (aq eO (af 2) (af 3)) (rV xs r) [none,none,none,some (.aG m)] g=some (((aaz xs.length).filter (cx xs r)).map λk=>D.bl (inR (keys es) (bO xs r k)),g):=c1
  have bm:=cp (λk:Nat=>inR (keys es) (bO xs r k)) ((aaz xs.length).filter (cx xs r))
  have sb:bq [none,none,none,some 1] (S6 xs m (some (.int (r.1:Nat))) (some (.tup r.2)))= [none,none,none,some (.aG m)]:=rfl
  have gd:dC xs (keys es) r=(((aaz xs.length).filter (cx xs r)).map λk=>inR (keys es) (bO xs r k)).all id:=by
   unfold dC
   rw[j,acs]
   rfl
  have cc:OQ le (S6 xs m (some (.int (r.1:Nat))) (some (.tup r.2))) g=some (.bl (dC xs (keys es) r),g):=by
   rw[gd]
   unfold OQ
   generalize ((aaz xs.length).filter (cx xs r)).map (λk=>D.bl (inR (keys es) (bO xs r k)))=CC at *
   generalize ((aaz xs.length).filter (cx xs r)).map (λk=>inR (keys es) (bO xs r k))=BB at *
   generalize rV xs r=LL at *
   simp[ld,hz,sb,c2,bm]
  unfold zv
  cases i:dC xs (keys es) r<;>rw[i]at cc<;>simp[ev,cc]
theorem OS (hx:∀x∈xs,bG p x)(hn:xs.length<=100)(hp:xB p pl)(he:AX en)(hle:oS p le):AZ xs p (aA false 6 2 (u7 pl en le)):=λes g m nU v hm i=>by
 have f:aW (dR es)=(keys es).map rD:=by rw[Km];simp[keys]
 have e1:=hp xs g hx hn i
 have s:=he xs g hn
 have lp:∀(k:Nat) (c e:Option D),k<=(keys es).length->∃a b,g0 m (keys es).length (gT 2 (aw (gN 4) (aw (gN 5) aV))) (zv le) k (S6 xs m c e) g=some (if((keys es).drop ((keys es).length-k)).all (dC xs (keys es))=true then .nx else .rt (.bl false),S6 xs m a b,g):=λk=>by
  induction k with
  |zero=>intro c e _;exact⟨c,e,by simp[g0,hm,f]⟩
  |succ k ih =>
   intro c e q
   have h:(keys es).length-(k+1)<(keys es).length:=by omega
   have u:(keys es)[(keys es).length-(k+1)]∈keys es:=ace h
   have o:=acD h
   rw[show(keys es).length-(k+1)+1=(keys es).length-k by omega]at o
   generalize pJ:(keys es)[(keys es).length-(k+1)]=r at *
   have l:((keys es).map rD)[(keys es).length-(k+1)]? = some (rD r):=by simp[h,pJ]
   have j:gT 2 (aw (gN 4) (aw (gN 5) aV)) (rD r) (S6 xs m c e) g=some (S6 xs m (some (.int (r.1:Nat))) (some (.tup r.2)),g):=by simp[rD]
   have bd:=OR hx hn hle nU v hm i u
   rw[o,acu]
   cases hg:dC xs (keys es) r with
   |true =>
    rw[hg]at bd
    obtain⟨a,b,ih⟩:=ih (some (.int (r.1:Nat))) (some (.tup r.2)) (by omega)
    refine⟨a,b,?_⟩
    rw[acM,<- ih]
    simp only[g0,hm,f,abo,aax,aaM,if_true,l,j,bd]
   |false =>
    rw[hg]at bd
    refine⟨some (.int (r.1:Nat)),some (.tup r.2),?_⟩
    simp only[g0,hm,f,abo,aax,aaM,if_true,l,j,bd]
    simp
 obtain⟨a,b,n⟩:=lp (keys es).length none none (aaC _)
 rw[ac1,adj]at n
 refine bM (σ':=S6 xs m a b) rfl ?_ rfl
 have kl:(aW (dR es)).length=(keys es).length:=by rw[f];simp
 have z:sH (af 1) (S6 xs m none none) g=some (m,(keys es).length,g):=by simp[hm,kl]
 have y:lQ (sH (af 1)) (gT 2 (aw (gN 4) (aw (gN 5) aV))) (zv le) (S6 xs m none none) g=some (if(keys es).all (dC xs (keys es))=true then .nx else .rt (.bl false),S6 xs m a b,g):=by
  rw[EF,z]
  exact n
 show u7 pl en le [some (.tup (xs.map rt)),some (.aG m),none,none,none,none] g=_
 unfold u7
 generalize (keys es).all (dC xs (keys es))=bb at *
 cases bb<;>simp[e1,s,y]
noncomputable def OT:FE:=bQ bU (cv (af 1)) [none,none] (gN 1) (aN (aq oEq (aq aI (aq aI (af 1) (fC (.int 1))) (fC (.int 0))) (fC (.str "put")))) (aq aI (aq aI (af 1) (fC (.int 1))) (fC (.int 2)))
noncomputable def OU (room:Fn):FE:=av fL (aa (bQ bU (cv (af 2)) [none,none,some 0,some 1,some 3] (gN 1) aO (av room (aa (af 2) (aa (af 3) (aa (af 4) (aa (af 1) aj)))))) aj)
noncomputable def C3 (bits:Fn):FS:=aM (fC (.bl true)) (jP (af 4) (aL aH (aa (av bits (aa (aq aI (af 5) (fC (.int 0))) aj)) (aa (aq aI (af 5) (fC (.int 1))) aj))))
noncomputable def OW (zeros n8:Fn):FS:=aU (eG (aq eO (aL aH (aa (fC (.int 0)) (aa (av zeros (aa (af 0) aj)) aj))) (af 4)) (av n8 (aa (af 1) (aa (af 4) aj))))
noncomputable def mf (bits zeros room n8:Fn):FS:=aD (aM OT (gN 3)) (aD (cA (kI (dq (cK (fK .tuple (af 2)))) (dq (cK (OU room)))) (aU (fC (.bl false))) bp) (aD (aM lP (gN 4)) (aD (e_ (cv (af 2)) (gN 5) (C3 bits)) (OW zeros n8))))
noncomputable def HL (x:Rt):D:=match x.1.dd with
 |.tup [_,_,v]=>v
 |_=>.ay
noncomputable def dT (rs:List aC):List (aC×D):=rs.map λr=>(r,D.bl true)
theorem zw (rs:List aC):(dT rs).map (·.1)=rs:=by simp[dT,abF]
noncomputable def eZ (xs:List Rt)(p:Int)(rs:List aC):Bool:=inR rs (first p)&&rs.all (dC xs rs)
noncomputable def n9 (w t:Fn)(r:FS):FS:=aD (cA (dq (cK (fK .tuple (af 1)))) (aU (eG (av w (aa (af 0) aj)) (aq oEq (af 0) (af 1)))) bp) (aD (cA (dq (cK (av t (aa (af 0) (aa (av cZ (aa (af 1) aj)) (aa (av cZ (aa (af 1) aj)) aj)))))) (aU (fC (.bl false))) bp) r)
def A0 (f:Fn):Prop:=∀v g,isVal 3 v=true->f [.ay,v] g=some (.bl false,g)
theorem Fw (hw:oM w)(ht:dM t):A0 (aA false 2 2 (n9 w t r)):=λv g c=>by
 refine bM (σ':=[some .ay,some v]) rfl ?_ rfl
 have b:=hw .ay g rfl
 show n9 w t r [some .ay,some v] g=_
 rcases iE c with⟨j,rfl⟩|⟨ys,rfl,hy⟩
 . simp[n9,cG,b,isWhole]
 . have a:=ht .ay ys.length ys.length g rfl
   simp[n9,cG,bD,a,bX]
noncomputable abbrev tv (s:Fn):FE:=av s (aa (af 2) (aa (af 1) aj))
def Fx (p:Int)(f:Fn):Prop:=∀vs d g,(∀v∈vs,isVal 3 v=true)->vs.length<=1000->nf d=true->(∀b,d = .tup b->∀x∈b,isVal 3 x=true\/x = .ay)->f [.int p,.lst vs,d] g=some (.bl (fX p d),g)
theorem Kp (hp:p<=100)(ht:dM t)(hv:u4 v)(hs:A0 s):Fx p (aA false 3 3 (oV t v (tv s))):=λa d g Zm k hd q=>by
 refine bM (σ':=[some (.int p),some (.lst a),some d]) rfl ?_ rfl
 have b:=ht d p p g (gC hd)
 show oV t v (tv s) [some (.int p),some (.lst a),some d] g=_
 cases d with
 |tup xs =>
  by_cases h:(xs.length:Int)=p
  . have i:bX (.tup xs) p p=true:=by simp[bX,h]
    rw[i]at b
    have r:az xs.length=true:=aF (by omega)
    have Zn:az a.length=true:=aF k
    have y:=cz (t:=gN 1) (c:=aO) (e:=se (av v (aa (af 1) aj)) (av kf (aa (bQ bU (cv (af 2)) [none,none,some 1] (gN 1) aO (tv s)) aj))) (h:=λd=>D.bl (isVal 3 d)) (λσ=>∃o,σ = [none,o,some (.lst a)]) xs [none,none,some (.lst a)] g ⟨_,rfl⟩ (by
     rintro d hm σ ⟨o,rfl⟩
     refine⟨[none,some d,some (.lst a)],by simp,by simp,?_,⟨_,rfl⟩⟩
     have z:=eY hd d hm
     have f:=hv d g z
     cases hq:isVal 3 d with
     |true=>rw[hq]at f;simp[f]
     |false =>
      rw[hq]at f
      have n:d = .ay:=by
       rcases q xs rfl d hm with h|h
       . rw[h]at hq;cases hq
       . exact h
      subst n
      have u:=cz (t:=gN 1) (c:=aO) (e:=tv s) (h:=λ_=>D.bl false) (λσ=>∃o,σ = [none,o,some .ay]) a [none,none,some .ay] g ⟨_,rfl⟩ (by
       rintro v l σ ⟨o,rfl⟩
       refine⟨[none,some v,some .ay],by simp,by simp,?_,⟨_,rfl⟩⟩
       have:=hs v g (Zm v l)
       simp[tv,this])
      have bm:=cp (λ_:D=>false) a
      have no:(a.map λ_:D=>false).any id=false:=by simp
      have j:bq [none,none,some 1] ([none,some .ay,some (.lst a)]:Sg)= [none,none,some .ay]:=rfl
      generalize (a.map λ_:D=>D.bl false)=cc at *
      generalize (a.map λ_:D=>false)=bb at *
      simp[f,j,u,bm,Zn,no,kf,fw])
    have j:bq [none,none,some 1] ([some (.int p),some (.lst a),some (.tup xs)]:Sg)= [none,none,some (.lst a)]:=rfl
    have bm:=cp (λd:D=>isVal 3 d) xs
    simp[oV,b,j,y,bm,fX,h,r]
  . have i:bX (.tup xs) p p=false:=by
     simp only[bX,ac4,decide_eq_false_iff_not];omega
    rw[i]at b
    simp[oV,b,fX,h]
 |fn x=>cases hd
 |_=>simp[oV,b,bX,fX]
noncomputable def iY:D->Nat
 |.int i=>i.toNat
 |_=>0
noncomputable def gh (n:Nat):D->Bool
 |.tup ts=>ts.all (jW n)&&decide ((ts.map iY).Pairwise (· < ·))
 |_=>false
theorem lb:∀{ts:List D},ts.all (jW n)=true->ts=kD (ts.map iY) /\ ∀k∈ts.map iY,k<n
 | [],_=>⟨rfl,by simp⟩
 |t::ts,h=>by
  rw[acu,aav]at h
  obtain⟨e,c⟩:=lb h.2
  cases t with
  |int i =>
   have b:0<=i/\i<=(n:Int)-1:=by simpa[jW,within]using h.1
   refine⟨?_,?_⟩
   . have:kD ((D.int i::ts).map iY)=D.int ((i.toNat:Nat):Int)::kD (ts.map iY):=rfl
     rw[this,<- e,agU b.1]
   . intro k a
     rcases aaD.mp a with rfl|a
     . show i.toNat<n;omega
     . exact c k a
  |_=>cases h.1
theorem A1 {ks:List Nat}(h:∀i (hi:i+1<ks.length),ks[i]< ks[i+1]):ks.Pairwise (· < ·):=by
 rw[ad_]
 intro i j hi b c
 induction j with
 |zero=>omega
 |succ j ih =>
  have a:=h j b
  by_cases e:i=j
  . subst e;exact a
  . exact aeR (ih (by omega) (by omega)) a
def Fy (f:Fn):Prop:=∀(ss:List D) (d:D) g,nf d=true->(∀ts,d = .tup ts->ts.length<=1000)->ss.length<=100->f [.tup ss,d] g=some (.bl (gh ss.length d),g)
theorem Kq {t a:Fn}(ht:dM t)(ha:AU a):Fy (aA false 2 2 (jr t a)):=λss d g hd jT hl=>by
 have j:=ht d 0 (ss.length:Int) g (gC hd)
 have no:bX d 0 (ss.length:Int)=false->gh ss.length d=false->aA false 2 2 (jr t a) [.tup ss,d] g=some (.bl (gh ss.length d),g):=λr z=>by
  rw[r]at j
  rw[z]
  refine bM (σ':=[some (.tup ss),some d]) rfl ?_ rfl
  show jr t a [some (.tup ss),some d] g=_
  simp[jr,j]
 cases d with
 |tup ts =>
  have yV:=jT ts rfl
  by_cases hz:ts.length<=ss.length
  . cases dP:ts.all (jW ss.length)with
    |true =>
     obtain⟨hk,bR⟩:=lb dP
     generalize pA:ts.map iY=b at *
     subst hk
     have s:(kD b).length=b.length:=by simp[kD]
     rw[s]at hz
     refine bM (σ':=[some (.tup ss),some (.tup (kD b))]) rfl ?_ rfl
     have t1:bX (.tup (kD b)) 0 (ss.length:Int)=true:=by simp[bX,s];omega
     rw[t1]at j
     have n:=ha ss (kD b) g (λx u=>by obtain⟨k,_,rfl⟩:=aaJ.mp u;rfl) (by rw[s];omega)
     rw[dP]at n
     have ir:vN (aa (fC (.int 1)) (aa (av cZ (aa (af 1) aj)) aj)) [some (.tup ss),some (.tup (kD b))] g=some (et 1 (b.length-1),g):=by
      obtain⟨q,e,h⟩:wp (vN (aa (fC (.int 1)) (aa (av cZ (aa (af 1) aj)) aj)) [some (.tup ss),some (.tup (kD b))] g) λq=>q=(et 1 (b.length-1),g):=by
        refine Ri ?_
        have en:((b.length:Int)-1).toNat=b.length-1:=by omega
        simp only[gH,lJ,pW,cJ,jv,aax]
        simp[bD,s]
        exact⟨1,b.length,⟨rfl,rfl⟩,⟨by omega,by omega⟩,⟨by omega,by omega⟩,by rw[en]⟩
      rw[e,h]
     have mF:az (et 1 (b.length-1)).length=true:=aF (by rw[gP];omega)
     have c1:=c_ (f:=λ(i:Nat)=>D.int (1+(i:Int))) (t:=gN 1) (c:=aO) (e:=aq oLt (aq aI (af 2) (aq (bK cf (· - ·)) (af 1) (fC (.int 1)))) (aq aI (af 2) (af 1))) (h:=λi=>D.bl (decide (b.getD i 0<b.getD (i+1) 0))) (λσ=>∃o,σ = [none,o,some (.tup (kD b))]) (aaz (b.length-1)) [none,none,some (.tup (kD b))] g ⟨_,rfl⟩ (by
      rintro i hm σ ⟨o,rfl⟩
      have p:=aaL.mp hm
      refine⟨[none,some (.int (1+(i:Int))),some (.tup (kD b))],by simp,by simp,?_,⟨_,rfl⟩⟩
      have h0:i<b.length:=by omega
      have r:i+1<b.length:=by omega
      have a1:dU (kD b) ((1:Int)+(i:Int)-1)=some (.int (b[i]:Nat)):=by
        rw[show(1:Int)+(i:Int)-1=((i:Nat):Int) by omega]
        exact gv (by simp[kD,h0])
      have a2:dU (kD b) ((1:Int)+(i:Int))=some (.int (b[i+1]:Nat)):=by
        rw[show(1:Int)+(i:Int)=((i+1:Nat):Int) by omega]
        exact gv (by simp[kD,r])
      simp[bK,cf,a1,a2,h0,r])
     have y:bV (gN 1) aO (aq oLt (aq aI (af 2) (aq (bK cf (· - ·)) (af 1) (fC (.int 1)))) (aq aI (af 2) (af 1))) (et 1 (b.length-1)) [none,none,some (.tup (kD b))] g=some ((aaz (b.length-1)).map λi=>D.bl (decide (b.getD i 0<b.getD (i+1) 0)),g):=c1
     have sb:bq [none,none,some 1] [some (D.tup ss),some (D.tup (kD b))]= [none,none,some (.tup (kD b))]:=rfl
     have bm:=cp (λi:Nat=>decide (b.getD i 0<b.getD (i+1) 0)) (aaz (b.length-1))
     have v:gh ss.length (.tup (kD b))=((aaz (b.length-1)).map λi=>decide (b.getD i 0<b.getD (i+1) 0)).all id:=by
      simp only[gh,dP,pA,acM]
      rw[aed,decide_eq_true_iff,acs,aaQ]
      constructor
      . intro hp i p
        have p:=aaL.mp p
        have:=ad_.mp hp i (i+1) (by omega) (by omega) (by omega)
        simpa[show i<b.length by omega,show i+1<b.length by omega]using this
      . intro l
        refine A1 λi p=>?_
        have:=l i (aaL.mpr (by omega))
        simpa[show i<b.length by omega,p]using this
     rw[v]
     show jr t a [some (.tup ss),some (.tup (kD b))] g=_
     unfold jr
     generalize kD b=kk at *
     generalize ((aaz (b.length-1)).map λi=>D.bl (decide (b.getD i 0<b.getD (i+1) 0)))=cc at *
     generalize ((aaz (b.length-1)).map λi=>decide (b.getD i 0<b.getD (i+1) 0))=bb at *
     simp[j,n,ir,mF,sb,y,bm]
    |false =>
     refine bM (σ':=[some (.tup ss),some (.tup ts)]) rfl ?_ rfl
     have t1:bX (.tup ts) 0 (ss.length:Int)=true:=by simp[bX];omega
     rw[t1]at j
     have n:=ha ss ts g (λx u=>gC (eY hd x u)) yV
     rw[dP]at n
     have v:gh ss.length (.tup ts)=false:=by simp only[gh,dP,adR]
     rw[v]
     show jr t a [some (.tup ss),some (.tup ts)] g=_
     unfold jr
     simp[j,n]
  . refine no (by simp only[bX,ac4,decide_eq_false_iff_not];omega) ?_
    cases l:gh ss.length (.tup ts)with
    |false=>rfl
    |true =>
     simp only[gh,aav,decide_eq_true_eq]at l
     have:=Ko l.2 (lb l.1).2
     rw[aaM]at this
     omega
 |fn x=>cases hd
 |_=>exact no rfl rfl
noncomputable def cy (n:Nat)(p:Int):D->Bool
 |.tup [a,b]=>gh n a&&fX p b
 |_=>false
theorem C5 {xs:List D}(h:xs.length=2):∃a b,xs = [a,b]:=by
 cases xs with
 |nil=>cases h
 |cons a xs=>cases xs with
  |nil=>cases h
  |cons b xs=>cases xs with
   |nil=>exact⟨a,b,rfl⟩
   |cons c xs=>simp at h
theorem zx {xs:List D}(h:xs.length≠2):cy n p (.tup xs)=false:=by
 unfold cy
 split
 . rename_i e
   injection e with e
   subst e
   exact absurd rfl h
 . rfl
structure zy (d:D):Prop where
 nf:nf d=true
 ln:∀a b,d = .tup [.tup a,b]->a.length<=18
 vl:∀a b,d = .tup [a,.tup b]->(∀x∈b,isVal 3 x=true\/x = .ay) \/ ∀n,gh n a=false
def A3 (p:Int)(f:Fn):Prop:=∀(ss vs:List D) (d:D) g,ss.length<=100->(∀v∈vs,isVal 3 v=true)->vs.length<=1000->zy d->f [.int p,.tup ss,.lst vs,d] g=some (.bl (cy ss.length p d),g)
theorem Fz (ht:dM t)(hr:Fy r)(hs:Fx p s):A3 p (aA false 4 4 (jX t r s)):=λss i d g v u k hd=>by
 refine bM (σ':=[some (.int p),some (.tup ss),some (.lst i),some d]) rfl ?_ rfl
 have f:=ht d 2 2 g (gC hd.nf)
 show jX t r s [some (.int p),some (.tup ss),some (.lst i),some d] g=_
 have no:bX d 2 2=false->cy ss.length p d=false->jX t r s [some (.int p),some (.tup ss),some (.lst i),some d] g=some (.rt (.bl (cy ss.length p d)),[some (.int p),some (.tup ss),some (.lst i),some d],g):=λc l=>by
  rw[c]at f
  rw[l]
  simp[jX,f]
 cases d with
 |tup xs =>
  by_cases vI:xs.length=2
  . obtain⟨a,b,rfl⟩:=C5 vI
    have o:=eY hd.nf a (by simp)
    have q:=eY hd.nf b (by simp)
    have j:=hr ss a g o (λn e=>by subst e;have:=hd.ln n b rfl;omega) v
    have t1:bX (.tup [a,b]) 2 2=true:=by simp[bX]
    rw[t1]at f
    cases h:gh ss.length a with
    |false=>rw[h]at j;simp[jX,f,dz,fP,j,cy,h]
    |true =>
     have y:=hs i b g u k q λst e=>by
      subst e
      rcases hd.vl a st rfl with c|c
      . exact c
      . rw[c]at h;cases h
     rw[h]at j
     simp[jX,f,dz,fP,j,y,cy,h]
  . refine no ?_ (zx vI)
    simp only[bX,ac4,decide_eq_false_iff_not]
    omega
 |fn x=>cases hd.nf
 |_=>exact no rfl rfl
theorem pK {f:Nat->Bool}{k:Nat}:∀{l:List Nat},l.Nodup->k∈l->f k=false->(l.filter λi=>f i||decide (i=k)).Perm (l.filter f ++ [k])
 |a::l,hn,hm,hf=>by
  rw[ab_]at hn
  by_cases e:a=k
  . subst e
    have j:(l.filter λi=>f i||decide (i=a))=l.filter f:=by
      refine ahM λi b=>?_
      have:¬i=a:=λz=>hn.1 (z ▸ b)
      simp[this]
    rw[abC,abC,j]
    simp only[hf,decide_true,Bool.or_true,if_true,aaF,if_false]
    exact(List.perm_append_comm (l₁:=[a])).trans (agl _)
  . have c:k∈l:=by
      rcases aaD.mp hm with h|h
      . exact absurd h.symm e
      . exact h
    have ih:=pK hn.2 c hf
    rw[abC,abC]
    simp only[e,decide_false,adB]
    split
    . exact ih.cons a
    . exact ih
theorem C6 {xs:List Rt}{r:aC}{k:Nat}:aK xs.length (bO xs r k).1=(aaz xs.length).filter λi=>r.1.testBit i||decide (i=k):=by
 unfold aK
 refine ahM λi _=>?_
 rw[oP]
theorem FC {xs:List Rt}{r:aC}{k:Nat}(hk:k<xs.length)(hb:r.1.testBit k=false):abk ((aK xs.length r.1 ++ [k]).map λ(i:Nat)=>(i:Int))=(aK xs.length (bO xs r k).1).map λ(i:Nat)=>(i:Int):=by
 refine(aeC ?_ ?_).symm
 . rw[C6]
   exact(pK adY (aaL.mpr hk) hb).map _
 . rw[adO]
   refine List.Pairwise.imp (R:=λa b:Nat=>a<b) (λh=>by omega) ?_
   exact List.Pairwise.filter _ aew
theorem oX (ks:List Nat):(ks.map λ(i:Nat)=>(i:Int)).map D.int=kD ks:=by rw[acI];rfl
theorem C7 {xs:List Rt}{r:aC}{k:Nat}{g:G}(hl:xs.length<=50)(hk:k<xs.length)(hb:r.1.testBit k=false):iP [.tup (kD (aK xs.length r.1 ++ [k]))] g=some (.lst (kD (aK xs.length (bO xs r k).1)),g):=by
 show uX (kD (aK xs.length r.1 ++ [k])) g=_
 have hlen:(aK xs.length r.1).length<=xs.length:=by
  have:=abh (λi=>r.1.testBit i) (aaz xs.length)
  simpa[aK]using this
 have a:((aK xs.length r.1 ++ [k]).map λ(i:Nat)=>(i:Int)).length<64:=by simp;omega
 unfold uX
 rw[xt,aax,if_pos a,FC hk hb,oX]
theorem lg {n b k:Nat}(hk:k<n):(aK n b).contains k=b.testBit k:=by
 unfold aK
 cases h:b.testBit k with
 |true=>simpa using ⟨hk,h⟩
 |false=>simp[h]
noncomputable def OY:FE:=bQ bU (jg (af 0)) [none,none,none,some 5] (gT 2 (aw (gN 1) (aw (gN 2) aV))) (jI (aN (aq dI (aq aI (af 2) (fC (.int 3))) (fC .ay))) (aN (aq oLe (aq aI (af 2) (fC (.int 3))) (aq aI (af 3) (fC (.int 2)))))) (af 1)
noncomputable def HM:FT:=kI (aN (aq eO (af 4) (af 1))) (dq (cK (av fL (aa (bQ bU (cv (af 6)) [none,none,some 1] (gN 1) aO (aq eO (af 1) (af 2))) aj))))
noncomputable def OZ:FS:=fu (dw isRef cV (af 3) (aa (aL aH (aa (aq aQ (af 1) (aL aH (aa (af 4) aj))) (aa (aq aQ (aq aQ (fZ (af 2) fg (dA (aq aI (aq aI (af 5) (fC (.int 1))) (fC (.int 1))))) (aL aH (aa (aq aI (aq aI (af 5) (fC (.int 1))) (fC (.int 2))) aj))) (fZ (af 2) (dA (aq aQ (aq aI (aq aI (af 5) (fC (.int 1))) (fC (.int 1))) (fC (.int 1)))) fg)) aj))) aj))
noncomputable def O0:FS:=fu (dw isRef cV (af 3) (aa (aL aH (aa (aq aQ (af 1) (aL aH (aa (af 4) aj))) (aa (af 2) aj))) aj))
noncomputable def O1:FS:=aM OY (gN 6)
noncomputable def C8:FS:=cA HM Eg bp
noncomputable def C9:FT:=aN (aq oEq (aq aI (aq aI (af 5) (fC (.int 1))) (fC (.int 0))) (fC (.str "put")))
noncomputable def O2:FT:=aN (aq oEq (aq aI (af 5) (fC (.int 4))) (af 2))
noncomputable def uw:FS:=aD O1 (aD C8 (cA C9 OZ (cA O2 O0 bp)))
noncomputable def O3:FE:=fN bU (nB (af 3)) [none,none,none] (gT 2 (aw (gN 1) (aw (gN 2) aV))) aO (aL aH (aa (av fJ (aa (av iP (aa (af 1) aj)) aj)) (aa (af 2) aj)))
noncomputable def xH:FS:=aD (aM (aL mkRef aj) (gN 3)) (aD (e_ (jg (af 0)) (gT 2 (aw (gN 4) (aw (gN 5) aV))) uw) (aU O3))
noncomputable abbrev S7 (xs:List Rt)(r:aC)(m:Nat)(o4 o5 o6:Option D):Sg:=[some (.tup (xs.map rt)),some (.tup (kD (aK xs.length r.1))),some (.tup r.2),some (.ref m),o4,o5,o6]
theorem O4 {xs:List Rt}{r:aC}{m k:Nat}{g:G}{o4 o6:Option D}(hl:xs.length<=100)(hk:k<xs.length):OY (S7 xs r m o4 (some (rt (aB xs k))) o6) g=some (.lst (kD (early xs k)),g):=by
 have n:az (cU (xs.map rt)).length=true:=aF (by simp[cU];omega)
 have j:=gQ (f:=λi:Nat=>.tup [.int (i:Nat),rt (aB xs i)]) (t:=gT 2 (aw (gN 1) (aw (gN 2) aV))) (c:=jI (aN (aq dI (aq aI (af 2) (fC (.int 3))) (fC .ay))) (aN (aq oLe (aq aI (af 2) (fC (.int 3))) (aq aI (af 3) (fC (.int 2)))))) (e:=af 1) (cB:=λi=>gw (aB xs i) (aB xs k)) (h:=λ(i:Nat)=>D.int i) (λσ=>∃a b,σ = [none,a,b,some (rt (aB xs k))]) (aaz xs.length) [none,none,none,some (rt (aB xs k))] g ⟨_,_,rfl⟩ (by
  rintro i hm σ ⟨a,b,rfl⟩
  refine⟨[none,some (.int i),some (rt (aB xs i)),some (rt (aB xs k))],by simp,?_,λ_=>by simp,⟨_,_,rfl⟩⟩
  rw[Ot]
  cases he:(aB xs i).1.e<;>simp[rt,xb,qc,he,eD,isLit,dH])
 rw[<- oR]at j
 have o:bq [none,none,none,some 5] (S7 xs r m o4 (some (rt (aB xs k))) o6)= [none,none,none,some (rt (aB xs k))]:=rfl
 have l:bV (gT 2 (aw (gN 1) (aw (gN 2) aV))) (jI (aN (aq dI (aq aI (af 2) (fC (.int 3))) (fC .ay))) (aN (aq oLe (aq aI (af 2) (fC (.int 3))) (aq aI (af 3) (fC (.int 2)))))) (af 1) (cU (xs.map rt)) [none,none,none,some (rt (aB xs k))] g=some (kD (early xs k),g):=j
 simp[OY,o,l,n]
theorem O5 {xs:List Rt}{r:aC}{m k:Nat}{g:G}{o5:Option D}(hl:xs.length<=100)(hk:k<xs.length):HM (S7 xs r m (some (.int k)) o5 (some (.lst (kD (early xs k))))) g=some (!(!r.1.testBit k&&(early xs k).all λo=>r.1.testBit o),g):=by
 have s:(early xs k).length<=100:=by
  have:=abh (λo=>gw (aB xs o) (aB xs k)) (aaz xs.length)
  simp at this
  unfold early
  omega
 have p:az (kD (early xs k)).length=true:=aF (by simp[kD];omega)
 have b:=xp k (aK xs.length r.1) g
 rw[lg hk]at b
 have q:=c_ (f:=λ(i:Nat)=>D.int i) (t:=gN 1) (c:=aO) (e:=aq eO (af 1) (af 2)) (h:=λi=>D.bl (r.1.testBit i)) (λσ=>∃a,σ = [none,a,some (.tup (kD (aK xs.length r.1)))]) (early xs k) [none,none,some (.tup (kD (aK xs.length r.1)))] g ⟨_,rfl⟩ (by
  rintro i hm σ ⟨a,rfl⟩
  have l:=aaL.mp (aa3.mp hm).1
  have ii:=xp i (aK xs.length r.1) g
  rw[lg l]at ii
  exact⟨[none,some (.int i),some (.tup (kD (aK xs.length r.1)))],by simp,by simp,by simp[ii],⟨_,rfl⟩⟩)
 have j:bV (gN 1) aO (aq eO (af 1) (af 2)) (kD (early xs k)) [none,none,some (.tup (kD (aK xs.length r.1)))] g=_:=q
 have n:bq [none,none,some 1] (S7 xs r m (some (.int k)) o5 (some (.lst (kD (early xs k)))))= [none,none,some (.tup (kD (aK xs.length r.1)))]:=rfl
 cases h1:r.1.testBit k with
 |true=>rw[h1]at b;simp[HM,b]
 |false =>
  rw[h1]at b
  cases h2:(early xs k).all (λo=>r.1.testBit o)<;>simp[HM,b,n,j,p,cp,acs,abF,h2]
noncomputable def raw (xs:List Rt)(r:aC)(k:Nat):D:=.tup [.tup (kD (aK xs.length r.1 ++ [k])),.tup (fQ r.2 (aB xs k).1.dd)]
theorem mh (n b:Nat):(aK n b).length<=n:=by
 have:=abh (λi=>b.testBit i) (aaz n)
 simpa[aK]using this
theorem O6 {p:Int}{xs:List Rt}{r:aC}{k:Nat}{g:G}{acc:List D}{o6:Option D}(hx:∀x∈xs,bG p x)(hp:p<=100)(hl:xs.length<=50)(hs:St p r.2)(hk:k<xs.length)(ha:acc.length<=500):
  ∃F':F,(F' = .nx\/F' = .ct)/\uw (S7 xs r g.length (some (.int k)) (some (rt (aB xs k))) o6) (g ++ [acc])=some (F',S7 xs r g.length (some (.int k)) (some (rt (aB xs k))) (some (.lst (kD (early xs k)))),g ++ [acc++if cx xs r k then [raw xs r k]else []]):=by
 have y:=hx _ (cW hk)
 have e1:=O4 (r:=r) (m:=g.length) (g:=g ++ [acc]) (o4:=some (.int k)) (o6:=o6) (by omega) hk
 have f:=O5 (r:=r) (m:=g.length) (g:=g ++ [acc]) (o5:=some (rt (aB xs k))) (show xs.length<=100 by omega) hk
 have as:O1 (S7 xs r g.length (some (.int k)) (some (rt (aB xs k))) o6) (g ++ [acc])=some (.nx,S7 xs r g.length (some (.int k)) (some (rt (aB xs k))) (some (.lst (kD (early xs k)))),g ++ [acc]):=by
  simp[O1,e1]
 obtain⟨f1,f2⟩:=bG.AS y
 obtain⟨s,f4⟩:=St.flat hs
 have HF:dep (aB xs k).2<=60:=by omega
 have f5:aP r.2=true:=by simpa[L3.flat]using s
 have vI:=hs.1
 have bl:=mh xs.length r.1
 have q:az (acc.length+1)=true:=aF (by omega)
 have j:az ((kD (aK xs.length r.1)).length+1)=true:=aF (by simp[kD];omega)
 have l:kD (aK xs.length r.1) ++ [D.int (k:Nat)]=kD (aK xs.length r.1 ++ [k]):=by simp[kD]
 have ad:aQ (.tup (kD (aK xs.length r.1))) (.tup [.int (k:Nat)]) (g ++ [acc])=some (.tup (kD (aK xs.length r.1 ++ [k])),g ++ [acc]):=by
  rw[<- l]
  simp[j]
 cases hc:(!r.1.testBit k&&(early xs k).all λo=>r.1.testBit o)with
 |false =>
  rw[hc]at f
  have n:cx xs r k=false:=by
    unfold cx
    rw[<- agn,hc];rfl
  refine⟨.ct,.inr rfl,?_⟩
  have b:C8 (S7 xs r g.length (some (.int k)) (some (rt (aB xs k))) (some (.lst (kD (early xs k))))) (g ++ [acc])=some (.ct,S7 xs r g.length (some (.int k)) (some (rt (aB xs k))) (some (.lst (kD (early xs k)))),g ++ [acc]):=by
    simp[C8,f]
    rfl
  simp[uw,as,b,n]
 |true =>
  rw[hc]at f
  have n:cx xs r k=rS (aB xs k) r.2:=by
    unfold cx
    rw[<- agn,hc];rfl
  refine⟨.nx,.inl rfl,?_⟩
  rw[n]
  have b:C8 (S7 xs r g.length (some (.int k)) (some (rt (aB xs k))) (some (.lst (kD (early xs k))))) (g ++ [acc])=some (.nx,S7 xs r g.length (some (.int k)) (some (rt (aB xs k))) (some (.lst (kD (early xs k)))),g ++ [acc]):=by
    simp[C8,f]
  generalize early xs k=a at *
  rcases y.r.dd with hd|⟨c,v,hd,c0,c1,hv⟩
  . have i:cH (aB xs k).1.dd=true:=by rw[hd];rfl
    have t1:C9 (S7 xs r g.length (some (.int k)) (some (rt (aB xs k))) (some (.lst (kD a)))) (g ++ [acc])=some (false,g ++ [acc]):=by
     simp[C9,rt,fP,dz,hd,Pd.eq_str,flat,dep,zr]
    have e:O2 (S7 xs r g.length (some (.int k)) (some (rt (aB xs k))) (some (.lst (kD a)))) (g ++ [acc])=some (aJ (aB xs k).2 (.tup r.2),g ++ [acc]):=by
     have oe:oEq (aB xs k).2 (.tup r.2) (g ++ [acc])=some (.bl (aJ (aB xs k).2 (.tup r.2)),g ++ [acc]):=by unfold oEq;rw[if_pos];simp[f1,HF,s]
     simp[O2,rt,sU,oe]
    have ps:fQ r.2 (aB xs k).1.dd=r.2:=by rw[hd];rfl
    have h:rS (aB xs k) r.2=aJ (aB xs k).2 (.tup r.2):=by simp[rS,i]
    rw[h]
    cases he:aJ (aB xs k).2 (.tup r.2)with
    |false =>
     rw[he]at e
     simp[uw,as,b,t1,e]
    |true =>
     rw[he]at e
     have bL:O0 (S7 xs r g.length (some (.int k)) (some (rt (aB xs k))) (some (.lst (kD a)))) (g ++ [acc])=some (.nx,S7 xs r g.length (some (.int k)) (some (rt (aB xs k))) (some (.lst (kD a))),g ++ [acc ++ [raw xs r k]]):=by
      unfold raw
      rw[ps]
      simp only[O0,Ew,zo,cJ,gH,jv,M1,jK,abg,abb,aax]
      simp[aH,l,j,q]
     simp[uw,as,b,t1,e,bL]
  . have i:cH (aB xs k).1.dd=false:=by rw[hd];simp[cH,xm]
    have h:rS (aB xs k) r.2=true:=by simp[rS,i]
    rw[h]
    have t1:C9 (S7 xs r g.length (some (.int k)) (some (rt (aB xs k))) (some (.lst (kD a)))) (g ++ [acc])=some (true,g ++ [acc]):=by
     simp[C9,rt,fP,dz,hd,Pd.eq_str,flat,dep]
    obtain⟨pL,rfl⟩:∃pL:Nat,c=pL:=⟨c.toNat,by omega⟩
    have u:pL < r.2.length:=by omega
    have s1:eK (.tup r.2) none (some (pL:Int)) (g ++ [acc])=some (.tup (r.2.take pL),g ++ [acc]):=iM (uP u)
    have s2:eK (.tup r.2) (some ((pL:Int)+1)) none (g ++ [acc])=some (.tup (r.2.drop (pL+1)),g ++ [acc]):=iM (oA u)
    have y1:az (min pL r.2.length+1)=true:=aF (by omega)
    have y2:az (min pL r.2.length+1+(r.2.length-(pL+1)))=true:=aF (by omega)
    have z:OZ (S7 xs r g.length (some (.int k)) (some (rt (aB xs k))) (some (.lst (kD a)))) (g ++ [acc])=some (.nx,S7 xs r g.length (some (.int k)) (some (rt (aB xs k))) (some (.lst (kD a))),g ++ [acc ++ [raw xs r k]]):=by
     unfold raw
     rw[hd]
     simp[OZ,rt,hd,dz,fP,qc,fQ,s1,s2,y1,y2,l,j,q]
    simp[uw,as,b,t1,z]
theorem C_ {p:Int}{xs:List Rt}{r:aC}{g:G}(hx:∀x∈xs,bG p x)(hp:p<=100)(hl:xs.length<=50)(hs:St p r.2):∀(rest:List Nat) (acc:List D) (o4 o5 o6:Option D),(∀k∈rest,k<xs.length)->acc.length+rest.length<=400 ->
  ∃O9 O_ Pa,forL (gT 2 (aw (gN 4) (aw (gN 5) aV))) uw (rest.map λi=>.tup [.int (i:Nat),rt (aB xs i)]) (S7 xs r g.length o4 o5 o6) (g ++ [acc])=some (.nx,S7 xs r g.length O9 O_ Pa,g ++ [acc++(rest.filter (cx xs r)).map (raw xs r)])
 | [],acc,o4,o5,o6,_,_=>⟨o4,o5,o6,by simp[forL]⟩
 |k::rest,acc,o4,o5,o6,h,hz=>by
  have a:=h k (by simp)
  obtain⟨n,f,l⟩:=O6 (g:=g) (acc:=acc) (o6:=o6) hx hp hl hs a (by omega)
  have c:gT 2 (aw (gN 4) (aw (gN 5) aV)) (.tup [.int (k:Nat),rt (aB xs k)]) (S7 xs r g.length o4 o5 o6) (g ++ [acc])=some (S7 xs r g.length (some (.int k)) (some (rt (aB xs k))) o6,g ++ [acc]):=by simp
  have b:(acc++if cx xs r k then [raw xs r k]else []).length+rest.length<=400:=by
   simp at hz ⊢
   split<;>simp<;>omega
  obtain⟨O9,O_,Pa,ih⟩:=C_ (g:=g) hx hp hl hs rest (acc++if cx xs r k then [raw xs r k]else []) (some (.int k)) (some (rt (aB xs k))) (some (.lst (kD (early xs k)))) (λj e=>h j (by simp[e])) b
  refine⟨O9,O_,Pa,?_⟩
  have el:acc++((k::rest).filter (cx xs r)).map (raw xs r)=(acc++if cx xs r k then [raw xs r k]else [])++(rest.filter (cx xs r)).map (raw xs r):=by
   rw[abC]
   split<;>simp
  rw[el,<- ih,aaX]
  rcases f with rfl|rfl<;>simp only[forL,c,aax,l]
noncomputable def pM (xs:List Rt)(r:aC):List D:=((aaz xs.length).filter (cx xs r)).map λk=>ao xs (bO xs r k)
def n_ (p:Int)(f:Fn):Prop:=∀xs r g,(∀x∈xs,bG p x)->xs.length<=50->St p r.2->Clean g->f [.tup (xs.map rt),.tup (kD (aK xs.length r.1)),.tup r.2] g=some (.lst (pM xs r),g)
theorem Pb {xs:List Rt}{r:aC}{g:G}{ks:List Nat}{o4 o5 o6:Option D}(hl:xs.length<=50)(pA:ks.length<=100)(h:∀k∈ks,k<xs.length/\cx xs r k=true):O3 (S7 xs r g.length o4 o5 o6) (g ++ [ks.map (raw xs r)])=some (.lst (ks.map λk=>ao xs (bO xs r k)),g ++ [ks.map (raw xs r)]):=by
 have i:(g ++ [ks.map (raw xs r)])[g.length]? = some (ks.map (raw xs r)):=by simp
 have n:az ks.length=true:=aF (by omega)
 have l:=jq (f:=raw xs r) (t:=gT 2 (aw (gN 1) (aw (gN 2) aV))) (c:=aO) (cB:=λ_=>true) (e:=aL aH (aa (av fJ (aa (av iP (aa (af 1) aj)) aj)) (aa (af 2) aj))) (h:=λk=>ao xs (bO xs r k)) (xs:=ks) i (λσ=>∃a b,σ = [none,a,b]) (by
  rintro k hm σ ⟨a,b,rfl⟩
  obtain⟨s,j⟩:=h k hm
  have v:r.1.testBit k=false:=by
   simp only[cx,aav,abc]at j
   exact j.1
  have x:=C7 (g:=g ++ [ks.map (raw xs r)]) hl s v
  have z:=mh xs.length (bO xs r k).1
  have p:az (kD (aK xs.length (bO xs r k).1)).length=true:=aF (by simp[kD];omega)
  refine⟨[none,some (.tup (kD (aK xs.length r.1 ++ [k]))),some (.tup (fQ r.2 (aB xs k).1.dd))],by simp[raw],by simp,λ_=>?_,⟨_,_,rfl⟩⟩
  have o:ao xs (bO xs r k)= .tup [.tup (kD (aK xs.length (bO xs r k).1)),.tup (fQ r.2 (aB xs k).1.dd)]:=rfl
  rw[o]
  generalize kD (aK xs.length (bO xs r k).1)=kk at *
  simp[x,fJ,bD,p]) ks.length [none,none,none] (aaC _) ⟨_,_,rfl⟩
 have q:ks.filter (λ_=>true)=ks:=by simp
 rw[ac1,adj,q]at l
 have y:bq [none,none,none] (S7 xs r g.length o4 o5 o6)= [none,none,none]:=rfl
 have u:af 3 (S7 xs r g.length o4 o5 o6) (g ++ [ks.map (raw xs r)])=some (.ref g.length,g ++ [ks.map (raw xs r)]):=rfl
 unfold O3
 simp only[nC,sD,u,aax,i,aaM,n,if_true,y,l]
 rfl
theorem Ro {p:Int}(hp:p<=100):n_ p (aA false 7 3 xH):=λxs r g b f c i=>by
 have key:wp (aA false 7 3 xH [.tup (xs.map rt),.tup (kD (aK xs.length r.1)),.tup r.2] g) λq=>q=(.lst (pM xs r),g):=by
  refine gM rfl ?_
  obtain⟨o4,o5,o6,e⟩:=C_ (r:=r) (g:=g) b hp f c (aaz xs.length) [] none none none (λk a=>aaL.mp a) (by simp;omega)
  rw[<- oR,acH]at e
  have o:((aaz xs.length).filter (cx xs r)).length<=100:=by
   have:=abh (cx xs r) (aaz xs.length)
   simp at this
   omega
  have h:=Pb (r:=r) (g:=g) (ks:=(aaz xs.length).filter (cx xs r)) (o4:=o4) (o5:=o5) (o6:=o6) f o (λk a=>⟨aaL.mp (aa3.mp a).1,(aa3.mp a).2⟩)
  have u:xH [some (.tup (xs.map rt)),some (.tup (kD (aK xs.length r.1))),some (.tup r.2),none,none,none,none] g=some (.rt (.lst (pM xs r)),S7 xs r g.length o4 o5 o6,g ++ [((aaz xs.length).filter (cx xs r)).map (raw xs r)]):=by
   have l:forL (gT 2 (aw (gN 4) (aw (gN 5) aV))) uw (cU (xs.map rt)) [some (.tup (xs.map rt)),some (.tup (kD (aK xs.length r.1))),some (.tup r.2),some (.ref g.length),none,none,none] (g ++ [[]])=_:=e
   simp[xH,l,h]
   rfl
  have j:∀n,aX n (pM xs r)=true:=λn=>cF λd hd=>by
   obtain⟨k,a,rfl⟩:=aaJ.mp hd
   have s:=aaL.mp (aa3.mp a).1
   exact(jy (p:=p) (r:=bO xs r k) (St.put c (b _ (cW s)).r.dd)).2.2 n
  refine⟨_,u,by simpa[bx]using j g.length,by simpa using i.all _,by simp,by simp⟩
 obtain⟨q,e,rfl⟩:=key
 exact e
def Rn (xs:List Rt)(p:Int)(r:aC):Prop:=St p r.2/\r.1<2 ^ xs.length
theorem Dd {n b c:Nat}(hb:b<2 ^ n)(hc:c<2 ^ n)(h:aK n b=aK n c):b=c:=by
 refine acJ λi=>?_
 by_cases hi:i<n
 . rw[<- lg hi,<- lg hi,h]
 . have a:2 ^ n<=2 ^ i:=adg (by omega) (by omega)
   rw[acV (by omega),acV (by omega)]
theorem Pc {a b:List Nat}:b6 (kD a) (kD b)=true ↔ a=b:=by
 rw[<- oX,<- oX,nW,decide_eq_true_eq]
 constructor
 . intro h
   have:=congrArg (List.map aeG) h
   simpa[acI,abF]using this
 . rintro rfl;rfl
theorem oY {xs:List Rt}{p:Int}{r s:aC}(hr:Rn xs p r)(hs:Rn xs p s):aJ (ao xs r) (ao xs s)=true ↔ r=s:=by
 have c:=oT (P:=λd=>isVal 3 d=true) (λd e=>tf 3 d e) r.2 s.2 hr.1.2 hs.1.2
 have f:aJ (ao xs r) (ao xs s)=(b6 (kD (aK xs.length r.1)) (kD (aK xs.length s.1))&&b6 r.2 s.2):=by
   show aJ (.tup [.tup (kD (aK xs.length r.1)),.tup r.2]) (.tup [.tup (kD (aK xs.length s.1)),.tup s.2])=_
   rw[k_]
   show(aJ (.tup _) (.tup _)&&(aJ (.tup r.2) (.tup s.2)&&b6 [] []))=_
   rw[k_,k_]
   simp[b6]
 rw[f,aav,c,Pc]
 constructor
 . rintro⟨b,a⟩;exact Prod.ext (Dd hr.2 hs.2 b) a
 . rintro rfl;exact⟨rfl,rfl⟩
theorem mn {xs:List Rt}{p:Int}{r:aC}(hr:Rn xs p r):a_ 6 (ao xs r)=true:=by
 have h:∀a:List D,(∀y∈a,isVal 3 y=true)->cX 4 a=true:=λa=>by
  induction a with
  |nil=>intro _;simp[cX]
  |cons y a ih=>intro c;simp[cX,tu 3 3 y (c y (by simp)) (by omega),ih λz f=>c z (by simp[f])]
 have e:∀b:List Nat,cX 4 (kD b)=true:=λb=>by
  induction b with
  |nil=>simp[cX,kD]
  |cons k b ih=>simp only[kD,aaX]at ih ⊢;simp[cX,ih,a_]
 simp[ao,a_,cX,h r.2 hr.1.2,e]
noncomputable def dN (xs:List Rt):List aC->List D
 | []=>[]
 |r::W=>ao xs r :: .bl true::dN xs W
theorem De (xs:List Rt)(W:List aC):(dN xs W).length=2*W.length:=by
 induction W with
 |nil=>rfl
 |cons r W ih=>simp[dN,ih];omega
theorem u9 {xs:List Rt}{p:Int}{r:aC}(hr:Rn xs p r):∀{W:List aC},(∀v∈W,Rn xs p v)->(r∈W->(aS (dN xs W) (ao xs r)).isSome=true)/\(r ∉ W->(aS (dN xs W) (ao xs r)).isSome=false/\bH (dN xs W) (ao xs r) (.bl true)=dN xs (W ++ [r]))
 | [],_=>⟨(λh=>by cases h),λ_=>⟨rfl,rfl⟩⟩
 |v::W,h=>by
  obtain⟨f,c⟩:=u9 hr (W:=W) λw hw=>h w (by simp[hw])
  have he:=oY (h v (by simp)) hr
  by_cases hv:v=r
  . subst hv
    refine⟨λ_=>by simp only[dN,aS];rw[if_pos (he.mpr rfl)];rfl,λz=>absurd (by simp) z⟩
  . have a:aJ (ao xs v) (ao xs r)=false:=by
      cases hq:aJ (ao xs v) (ao xs r)with
      |false=>rfl
      |true=>exact absurd (he.mp hq) hv
    refine⟨λz=>?_,λz=>?_⟩
    . simp only[dN,aS,a,aaF,if_false]
      refine f ?_
      rcases aaD.mp z with z|z
      . exact absurd z.symm hv
      . exact z
    . obtain⟨b,e⟩:=c λq=>z (by simp[q])
      refine⟨by simp only[dN,aS,a,aaF,if_false];exact b,?_⟩
      simp only[dN,bH,a,aaF,if_false,e,aeA]
noncomputable def roomOf (xs:List Rt):D->aC
 |.tup [.tup ts,.tup st]=>(bF xs.length λi=>(ts.map iY).contains i,st)
 |_=>(0,[])
theorem Pe {a b:List Nat}(ha:a.Pairwise (· < ·))(hb:b.Pairwise (· < ·))(h:∀k,k∈a ↔ k∈b):a=b:=by
 have nd:∀{l:List Nat},l.Pairwise (· < ·)->l.Nodup:=λh=>h.imp λh=>aaN h
 have c:a.Perm b:=(afs (nd ha) (nd hb)).mpr h
 exact List.Perm.eq_of_pairwise (λx y _ _ f e=>by omega) ha hb c
theorem bits_of {n:Nat}{ks:List Nat}(hp:ks.Pairwise (· < ·))(hk:∀k∈ks,k<n):aK n (bF n λi=>ks.contains i)=ks:=by
 refine Pe (C2 _ _) hp λk=>?_
 unfold aK
 rw[aa3,aaL,nY]
 constructor
 . rintro⟨b,a⟩
   simpa[b]using a
 . intro h
   exact⟨hk k h,by simpa[hk k h]using h⟩
theorem Kr (h:cy xs.length p d=true):ao xs (roomOf xs d)=d/\Rn xs p (roomOf xs d):=by
 unfold cy at h
 split at h
 . rename_i a b
   rw[aav]at h
   obtain⟨e,c⟩:=h
   cases a with
   |tup ts =>
    cases b with
    |tup st =>
     simp only[gh,aav,decide_eq_true_eq]at e
     simp only[fX,aav,decide_eq_true_eq,aaQ]at c
     obtain⟨j,f⟩:=lb e.1
     refine⟨?_,⟨c.1,c.2⟩,HG _ _⟩
     show D.tup [.tup (kD (aK xs.length (bF xs.length λi=>(ts.map iY).contains i))),.tup st]=_
     rw[bits_of e.2 f,<- j]
    |_=>cases c
   |_=>cases e
 . cases h
theorem oa:∀{ds:List D},ds.all (cy xs.length p)=true->(ds.map (roomOf xs)).map (ao xs)=ds /\ ∀r∈ds.map (roomOf xs),Rn xs p r
 | [],_=>⟨rfl,by simp⟩
 |d::ds,h=>by
  rw[acu,aav]at h
  obtain⟨f,b⟩:=oa h.2
  obtain⟨e,c⟩:=Kr h.1
  refine⟨by rw[aaX,aaX,e,f],λr a=>?_⟩
  rcases aaD.mp a with rfl|a
  . exact c
  . exact b r a
noncomputable def gz (xs:List Rt)(p:Int):D->Bool
 |.tup ds=>ds.all (cy xs.length p)&&eZ xs p (ds.map (roomOf xs))
 |_=>false
theorem og (h:∀r,r∈rs ↔ r∈qs):inR rs=inR qs:=by
 funext v
 cases hq:inR qs v with
 |true=>exact fU.mpr ((h v).mpr (fU.mp hq))
 |false=>exact la λhm=>by rw[fU.mpr ((h v).mp hm)]at hq;cases hq
theorem all_congr {α:Type}{f:α->Bool}{rs qs:List α}(h:∀r,r∈rs ↔ r∈qs):rs.all f=qs.all f:=by
 rw[aed,aaQ,aaQ]
 exact⟨λH r a=>H r ((h r).mpr a),λH r a=>H r ((h r).mp a)⟩
theorem xI {rs qs:List aC}(h:∀r,r∈rs ↔ r∈qs):eZ xs p rs=eZ xs p qs:=by
 have e:dC xs rs=dC xs qs:=by
  funext r
  unfold dC
  rw[og h]
 unfold eZ
 rw[og h,e,all_congr h]
theorem Ks {p:Int}{xs:List Rt}{g:G}{c2 c3 c4 c5:Option D}(hx:∀x∈xs,bG p x)(hn:xs.length<=100):∃vs,OT [some (.int p),some (.tup (xs.map rt)),c2,c3,c4,c5] g=some (.lst vs,g)/\(∀v∈vs,isVal 3 v=true)/\vs.length<=1000:=by
 have l:az xs.length=true:=aF (by omega)
 have n:=gQ (f:=rt) (t:=gN 1) (c:=aN (aq oEq (aq aI (aq aI (af 1) (fC (.int 1))) (fC (.int 0))) (fC (.str "put")))) (e:=aq aI (aq aI (af 1) (fC (.int 1))) (fC (.int 2))) (cB:=λx=>!(cH x.1.dd)) (h:=HL) (λσ=>∃a,σ = [none,a]) xs [none,none] g ⟨_,rfl⟩ (by
   rintro x hm σ ⟨a,rfl⟩
   refine⟨[none,some (rt x)],by simp,?_,λi=>?_,⟨_,rfl⟩⟩
   . rcases (hx x hm).r.dd with e|⟨q,v,e,_⟩
     . simp[rt,fP,e,dz,cH,zr]
     . simp[rt,fP,e,dz,cH,xm]
   . rcases (hx x hm).r.dd with e|⟨q,v,e,_⟩
     . rw[e]at i;simp[cH]at i
     . simp[rt,fP,e,qc,HL])
 refine⟨(xs.filter λx=>!(cH x.1.dd)).map HL,?_,λv j=>?_,?_⟩
 . have o:∀σ:Sg,bq [none,none] σ = [none,none]:=λ_=>rfl
   unfold OT
   simp[l,o,n]
 . obtain⟨x,hm,rfl⟩:=aaJ.mp j
   obtain⟨k,b⟩:=aa3.mp hm
   rcases (hx x k).r.dd with e|⟨q,v,e,_,_,h3⟩
   . rw[e]at b;simp[cH]at b
   . unfold HL
     rw[e]
     exact jx h3
 . have:=abh (λx:Rt=>!(cH x.1.dd)) xs
   rw[aaM]
   omega
theorem zz:∀{rs:List aC} {r:aC},(∀s∈rs,Rm p s)->Rm p r->r∈rs->bH (dR (dT rs)) (rD r) (.bl true)=dR (dT rs)
 |s::rs,r,h,hr,hm=>by
  have he:=u6 (h s (by simp)) hr
  show(if aJ (rD s) (rD r)=true then rD s :: .bl true::dR (dT rs)else rD s :: .bl true::bH (dR (dT rs)) (rD r) (.bl true))=rD s :: .bl true::dR (dT rs)
  by_cases hs:s=r
  . rw[if_pos (he.mpr hs)]
  . rw[if_neg λz=>hs (he.mp z),zz (λq a=>h q (by simp[a])) hr (by
     rcases aaD.mp hm with h|h
     . exact absurd h.symm hs
     . exact h)]
theorem zA (hb:oW bits)(hn:xs.length<=100):∀(rest done:List aC) (c5:Option D),(∀r∈done++rest,Rm p r/\r.1<2 ^ xs.length)->done.Nodup->(done++rest).length<=900000 ->
  ∃xJ acc,acc.Nodup/\(∀r,r∈acc ↔ r∈done++rest)/\forL (gN 5) (C3 bits) (rest.map (ao xs)) [some (.int p),some (.tup (xs.map rt)),c2,c3,some (.aG g.length),c5] (g ++ [dR (dT done)])=some (.nx,[some (.int p),some (.tup (xs.map rt)),c2,c3,some (.aG g.length),xJ],g ++ [dR (dT acc)])
 | [],done,c5,_,uv,_=>⟨c5,done,uv,λr=>by simp,by simp[forL]⟩
 |r::rest,done,c5,h,uv,hl=>by
  obtain⟨l,bR⟩:=h r (by simp)
  have y:=xF l
  have u:∀s∈done,Rm p s:=λs j=>(h s (by simp[j])).1
  have x:=hb (aK xs.length r.1) (g ++ [dR (dT done)]) (λk hk=>by have:=aaL.mp (aa3.mp hk).1;omega) (by
   have:=abh (λi=>r.1.testBit i) (aaz xs.length)
   simp at this
   simp only[aK]
   omega)
  rw[Fv bR]at x
  have j:kh (dR (dT done))=true:=by
   unfold kh az
   refine decide_eq_true ?_
   rw[OM]
   simp[dT]at hl ⊢
   omega
  obtain⟨c,hD,n,v⟩:∃c,c.Nodup/\(∀q,q∈c++rest ↔ q∈done++r::rest)/\bH (dR (dT done)) (rD r) (.bl true)=dR (dT c)/\c.length<=done.length+1:=by
   by_cases hm:r∈done
   . refine⟨done,uv,λq=>?_,zz u l hm,by omega⟩
     simp only[aaE,aaD]
     constructor
     . rintro(h|h)
       . exact .inl h
       . exact .inr (.inr h)
     . rintro(h|h|h)
       . exact .inl h
       . subst h;exact .inl hm
       . exact .inr h
   . have VB:∀e∈dT done,e.1≠r:=λe he z=>by
       obtain⟨q,f,rfl⟩:=aaJ.mp he
       exact hm (z ▸ f)
     obtain⟨hg,hp⟩:=oU (p:=p) (es:=dT done) (r:=r) (λe he=>by
       obtain⟨q,f,rfl⟩:=aaJ.mp he
       exact u q f) l VB
     refine⟨done ++ [r],?_,λq=>by simp,?_,by simp⟩
     . rw[ack]
       exact⟨uv,by simp,λa ha b hb z=>by simp at hb;subst hb;subst z;exact hm ha⟩
     . rw[hp (.bl true)]
       simp[dT]
  have rd:rD r = .tup [.int (r.1:Nat),.tup r.2]:=rfl
  have bd:C3 bits [some (.int p),some (.tup (xs.map rt)),c2,c3,some (.aG g.length),some (ao xs r)] (g ++ [dR (dT done)])=some (.nx,[some (.int p),some (.tup (xs.map rt)),c2,c3,some (.aG g.length),some (ao xs r)],g ++ [dR (dT c)]):=by
   have o:=v.1
   rw[rd]at y o
   simp[C3,ao,dz,fP,x,y,j,o,af4]
  obtain⟨xJ,acc,i1,i2,ih⟩:=zA hb hn (g:=g) (c2:=c2) (c3:=c3) rest c (some (ao xs r)) (λq f=>h q ((n q).mp f)) hD (by
   have:=v.2
   simp at hl ⊢
   omega)
  refine⟨xJ,acc,i1,λq=>(i2 q).trans (n q),?_⟩
  rw[<- ih,aaX]
  simp only[forL,qU,aax]
  simp[bd]
def Td (p:Int)(f:Fn):Prop:=∀xs d g,(∀x∈xs,bG p x)->xs.length<=100->nf d=true->(∀ds,d = .tup ds->ds.length<=900000 /\ ∀e∈ds,zy e)->Clean g->f [.int p,.tup (xs.map rt),d] g=some (.bl (gz xs p d),g)
set_option maxHeartbeats 2000000 in
theorem Pf {bi z room n8:Fn}{p:Int}(p0:0<=p)(hb:oW bi)(hz:sY p z)(hr:A3 p room)(hl:∀xs,(∀x∈xs,bG p x)->xs.length<=100->AZ xs p n8):Td p (aA false 6 3 (mf bi z room n8)):=λxs d g hx l hd j5 y=>by
 have key:wp (aA false 6 3 (mf bi z room n8) [.int p,.tup (xs.map rt),d] g) λq=>q=(.bl (gz xs p d),g):=by
  refine gM rfl ?_
  show wp (mf bi z room n8 [some (.int p),some (.tup (xs.map rt)),some d,none,none,none] g) _
  obtain⟨b,u,hv,C4⟩:=Ks (p:=p) (g:=g) (c2:=some d) (c3:=none) (c4:=none) (c5:=none) hx l
  obtain⟨i,gx,e⟩:∃i gx,mf bi z room n8 [some (.int p),some (.tup (xs.map rt)),some d,none,none,none] g=some (.rt (.bl (gz xs p d)),i,g++gx):=by
   have no:cG .tuple d=false->gz xs p d=false->∃i gx,mf bi z room n8 [some (.int p),some (.tup (xs.map rt)),some d,none,none,none] g=some (.rt (.bl (gz xs p d)),i,g++gx):=λo h2=>by
    refine⟨[some (.int p),some (.tup (xs.map rt)),some d,some (.lst b),none,none],[],?_⟩
    rw[ab9,h2]
    unfold mf
    simp[u,o,gC hd]
   cases d with
   |tup ds =>
    obtain⟨jT,jF⟩:=j5 ds rfl
    have HN:az ds.length=true:=by unfold az;exact decide_eq_true (by omega)
    have xl:(xs.map rt).length=xs.length:=aaM _
    have c1:=cz (t:=gN 1) (c:=aO) (e:=av room (aa (af 2) (aa (af 3) (aa (af 4) (aa (af 1) aj))))) (h:=λd=>D.bl (cy xs.length p d)) (λσ=>∃a,σ = [none,a,some (.int p),some (.tup (xs.map rt)),some (.lst b)]) ds [none,none,some (.int p),some (.tup (xs.map rt)),some (.lst b)] g ⟨_,rfl⟩ (by
     rintro d hm σ ⟨a,rfl⟩
     refine⟨[none,some d,some (.int p),some (.tup (xs.map rt)),some (.lst b)],by simp,by simp,?_,⟨_,rfl⟩⟩
     have:=hr (xs.map rt) b d g (by rw[xl];exact l) hv C4 (jF d hm)
     rw[xl]at this
     simp[this])
    have bm:=cp (λd:D=>cy xs.length p d) ds
    have j:OU room [some (.int p),some (.tup (xs.map rt)),some (.tup ds),some (.lst b),none,none] g=some (.bl (ds.all (cy xs.length p)),g):=by
     have sb:bq [none,none,some 0,some 1,some 3] ([some (.int p),some (.tup (xs.map rt)),some (.tup ds),some (.lst b),none,none]:Sg)= [none,none,some (.int p),some (.tup (xs.map rt)),some (.lst b)]:=rfl
     unfold OU
     simp[HN,sb,c1,bm,acs,abF]
    cases ha:ds.all (cy xs.length p)with
    |false =>
     rw[ha]at j
     have:gz xs p (.tup ds)=false:=by simp only[gz,ha,adR]
     rw[this]
     refine⟨[some (.int p),some (.tup (xs.map rt)),some (.tup ds),some (.lst b),none,none],[],?_⟩
     rw[ab9]
     unfold mf
     simp[u,j,cG]
    |true =>
     rw[ha]at j
     have Pg:gz xs p (.tup ds)=eZ xs p (ds.map (roomOf xs)):=by simp only[gz,ha,acM]
     obtain⟨m1,s⟩:=oa ha
     rw[Pg]
     have rl:(ds.map (roomOf xs)).length<=900000:=by rw[aaM];exact jT
     generalize ds.map (roomOf xs)=rs at *
     subst m1
     obtain⟨c5,acc,nd,am,e3⟩:=zA hb l (xs:=xs) (p:=p) (g:=g) (c2:=some (.tup (rs.map (ao xs)))) (c3:=some (.lst b)) rs [] none (λr hm=>⟨(s r (by simpa using hm)).1,(s r (by simpa using hm)).2⟩) (by simp) (by simpa using rl)
     have Te:∀r,r∈acc ↔ r∈rs:=λr=>by rw[am r];simp
     rw[<- xI Te]
     have k:∀e∈dT acc,Rm p e.1:=λe he=>by
      obtain⟨q,f,rfl⟩:=aaJ.mp he
      exact(s q ((Te q).mp f)).1
     have Zp:keys (dT acc)=acc:=zw _
     have Tf:((dT acc).map (·.1)).Nodup:=by rw[zw];exact nd
     have nr:∀n,aX n (dR (dT acc))=true:=λn=>cF λd hd=>by
      obtain⟨e,he,h⟩:=OO hd
      rcases h with rfl|rfl
      . exact ON (k e he) n
      . obtain⟨q,f,rfl⟩:=aaJ.mp he
        rfl
     have cg:Clean (g ++ [dR (dT acc)]):=λys hy n=>by
      rcases aaE.mp hy with h|h
      . exact y ys h n
      . simp at h;subst h;exact nr n
     have hm:(g ++ [dR (dT acc)])[g.length]? = some (dR (dT acc)):=by simp
     have e4:=hl xs hx l (dT acc) (g ++ [dR (dT acc)]) g.length k Tf hm cg
     rw[Zp]at e4
     have e5:=hz (g ++ [dR (dT acc)])
     have fr:Rm p (first p):=St.zs p0
     have kk:=xF fr
     have fd:rD (first p)= .tup [.int 0,.tup (zs p)]:=rfl
     have v:(aS (dR (dT acc)) (rD (first p))).isSome=inR acc (first p):=by
      by_cases cM:first p∈acc
      . rw[xG k Tf (aaJ.mpr ⟨_,cM,rfl⟩),fU.mpr cM];rfl
      . obtain⟨o,_⟩:=oU (p:=p) k fr (λe he z=>cM (by
         obtain⟨q,f,rfl⟩:=aaJ.mp he
         rw[<- z];exact f))
        rw[o,la cM];rfl
     rw[fd]at v kk
     have e6:OW z n8 [some (.int p),some (.tup (xs.map rt)),some (.tup (rs.map (ao xs))),some (.lst b),some (.aG g.length),c5] (g ++ [dR (dT acc)])=some (.rt (.bl (eZ xs p acc)),[some (.int p),some (.tup (xs.map rt)),some (.tup (rs.map (ao xs))),some (.lst b),some (.aG g.length),c5],g ++ [dR (dT acc)]):=by
      unfold OW eZ
      generalize acc.all (dC xs acc)=bb at *
      generalize inR acc (first p)=cc at *
      generalize rs.map (ao xs)=yy at *
      cases cc<;>simp[e5,kk,v,e4]
     have fo:forL (gN 5) (C3 bi) (rs.map (ao xs)) [some (.int p),some (.tup (xs.map rt)),some (.tup (rs.map (ao xs))),some (.lst b),some (.aG g.length),none] (g ++ [[]])=some (.nx,[some (.int p),some (.tup (xs.map rt)),some (.tup (rs.map (ao xs))),some (.lst b),some (.aG g.length),c5],g ++ [dR (dT acc)]):=e3
     refine⟨[some (.int p),some (.tup (xs.map rt)),some (.tup (rs.map (ao xs))),some (.lst b),some (.aG g.length),c5],[dR (dT acc)],?_⟩
     unfold mf
     generalize rs.map (ao xs)=yy at *
     simp[u,j,fo,e6,cG]
   |fn x=>cases hd
   |_=>exact no rfl rfl
  rw[e]
  simp only[b_]
  exact⟨by simp[bx],by simpa using y.all _,by simp,by simp⟩
 obtain⟨q,e,rfl⟩:=key
 exact e
end Sd
namespace Sd
open PySem L3 L2 RI Pd Od SJ
theorem uy (val:Nat->Int):∀(n:Nat) (k:Int),k∈cw val n ↔ ∃i,i<n/\val i=k
 | 0,k=>by simp[cw]
 |n+1,k=>by
  have ih:=uy val n
  unfold cw SJ.pz
  have:k∈(if val n∈cw val n then cw val n else cw val n ++ [val n])↔ k∈cw val n\/k=val n:=by
    split
    . rename_i h
      exact⟨.inl,λa=>by rcases a with a|rfl;exact a;exact h⟩
    . simp
  rw[this,ih]
  constructor
  . rintro(⟨i,b,a⟩|rfl)
    . exact⟨i,by omega,a⟩
    . exact⟨n,by omega,rfl⟩
  . rintro⟨i,b,a⟩
    by_cases e:i=n
    . subst e;exact .inr a.symm
    . exact .inl ⟨i,by omega,a⟩
theorem xM (val:Nat->Int):∀n,(cw val n).Nodup
 | 0=>ae6
 |n+1=>by
  have ih:=xM val n
  unfold cw SJ.pz
  split
  . exact ih
  . rename_i h
    rw[ack]
    exact⟨ih,by simp,λa e b c z=>by simp at c;subst c;subst z;exact h e⟩
theorem FD (ns:List Int)(k:Int):k∈cw (λi=>ns.getD i 0) ns.length ↔ k∈ns:=by
 rw[uy,abG]
 constructor
 . rintro⟨i,a,b⟩
   exact⟨i,a,by simpa[a]using b⟩
 . rintro⟨i,a,b⟩
   exact⟨i,a,by simpa[a]using b⟩
theorem Kt (ns:List Int):ns=abk (cw (λi=>ns.getD i 0) ns.length)↔ ns.Pairwise (· < ·):=by
 have nd:=xM (λi=>ns.getD i 0) ns.length
 have c:=FD ns
 generalize cw (λi=>ns.getD i 0) ns.length=S at *
 constructor
 . intro h
   have b:=agX S
   have a:(abk S).Nodup:=(aej S).nodup_iff.mpr nd
   rw[<- h]at b a
   exact(b.and a).imp λh=>by omega
 . intro h
   have a:ns.Nodup:=h.imp λh=>by omega
   exact aeC ((afs a nd).mpr λk=>(c k).symm) (h.imp λh=>by omega)
theorem zB (i j:Int)(g:G):kC (.int i) (.int j) g=some (.bl (!decide (i=j)),g):=by
 have b:dr (.int i) g = .int i:=rfl
 have a:dr (.int j) g = .int j:=rfl
 unfold kC
 rw[b,a,ic]
 simp[flat,dep]
noncomputable def pN:FT:=kI (dq (cK (fK .tuple (af 2)))) (kI (aN (aq kC (av cZ (aa (af 2) aj)) (fC (.int 2)))) (dq (cK (fK .tuple (aq aI (af 2) (fC (.int 0)))))))
noncomputable def Ph:FE:=av fL (aa (bQ bU (cv (af 3)) [none,none,some 1] (gN 1) aO (eG (fK .int (af 1)) (eG (om (fK .bool (af 1))) (gY oLe oLt (fC (.int 0)) (af 1) (av cZ (aa (af 2) aj)))))) aj)
noncomputable def Pj:FE:=aq oEq (av iV (aa (af 3) aj)) (w5 (af 3))
noncomputable def oh (st:Fn):FS:=aD (cA pN (aU (fC (.bl false))) bp) (aD (aM (aq aI (af 2) (fC (.int 0))) (gN 3)) (aD (cA (dq (cK Ph)) (aU (fC (.bl false))) bp) (aU (eG Pj (av st (aa (af 0) (aa (aq aI (af 2) (fC (.int 1))) aj)))))))
theorem Pl (hf:∀t∈ts,isFn t=false)(hl:ts.length<=18):Ph [some (.int p),some (.tup ss),some d,some (.tup ts)] g=some (.bl (ts.all (jW ss.length)),g):=by
 have l:az ts.length=true:=aF (by omega)
 have n:=cz (t:=gN 1) (c:=aO) (e:=eG (fK .int (af 1)) (eG (om (fK .bool (af 1))) (gY oLe oLt (fC (.int 0)) (af 1) (av cZ (aa (af 2) aj))))) (h:=λt=>D.bl (jW ss.length t)) (λσ=>∃a,σ = [none,a,some (.tup ss)]) ts [none,none,some (.tup ss)] g ⟨_,rfl⟩ (by
  rintro t hm σ ⟨a,rfl⟩
  refine⟨[none,some t,some (.tup ss)],by simp,by simp,?_,⟨_,rfl⟩⟩
  have f:=hf t hm
  by_cases h:∃i,t = .int i
  . obtain⟨i,rfl⟩:=h
    by_cases h0:0<=i
    . have j:(i<(ss.length:Int))↔ i<=(ss.length:Int)-1:=by omega
      simp[cG,bD,jW,within,h0,j]
    . simp[cG,bD,jW,within,h0]
  . have k:jW ss.length t=false:=by cases t<;>first|rfl|exact absurd ⟨_,rfl⟩ h
    have b:cG .int t=false\/cG .bool t=true:=by cases t<;>first|exact .inl rfl|exact .inr rfl|exact absurd ⟨_,rfl⟩ h
    rw[k]
    cases h4:cG .int t with
    |false=>simp[h4,f]
    |true =>
      rcases b with b|b
      . rw[h4]at b;cases b
      . simp[h4,b,f])
 have o:bq [none,none,some 1] ([some (.int p),some (.tup ss),some d,some (.tup ts)]:Sg)= [none,none,some (.tup ss)]:=rfl
 have bm:=cp (λt:D=>jW ss.length t) ts
 unfold Ph
 simp[l,o,n,bm,acs,abF]
theorem Rp (ks:List Nat):(ks.map λ(k:Nat)=>(k:Int)).Pairwise (· < ·)↔ ks.Pairwise (· < ·):=by
 rw[adO]
 exact⟨λh=>h.imp λh=>by omega,λh=>h.imp λh=>by omega⟩
theorem Pm (hl:ks.length<=18):Pj [some (.int p),some (.tup ss),some d,some (.tup (kD ks))] g=some (.bl (decide (ks.Pairwise (· < ·))),g):=by
 have l:(kD ks).length=ks.length:=by simp[kD]
 have c:az (kD ks).length=true:=aF (by omega)
 have e:=xt ks
 have f:=oX ks
 have hle:(ks.map λ(k:Nat)=>(k:Int)).length<=18:=by simpa using hl
 have a:=Kt (ks.map λ(k:Nat)=>(k:Int))
 rw[Rp]at a
 have h:w5 (af 3) [some (.int p),some (.tup ss),some d,some (.tup (kD ks))] g=some (.lst ((abk (cw (λi=>(ks.map λ(k:Nat)=>(k:Int)).getD i 0) (ks.map λ(k:Nat)=>(k:Int)).length)).map .int),g):=by
  rw[JZ]
  simp only[cJ,abg,abb,aax,AK,e]
  rw[if_pos (decide_eq_true hle)]
 have b:av iV (aa (af 3) aj) [some (.int p),some (.tup ss),some d,some (.tup (kD ks))] g=some (.lst ((ks.map λ(k:Nat)=>(k:Int)).map .int),g):=by
  rw[f]
  simp[iV,bD,c]
 generalize (ks.map λ(k:Nat)=>(k:Int))=ns at *
 have f1:=jm (xs:=ns.map D.int) λd hd=>by obtain⟨i,_,rfl⟩:=aaJ.mp hd;exact⟨i,rfl⟩
 generalize abk (cw (λi=>ns.getD i 0) ns.length)=S at *
 have f2:=jm (xs:=S.map D.int) λd hd=>by obtain⟨i,_,rfl⟩:=aaJ.mp hd;exact⟨i,rfl⟩
 have eq:oEq (.lst (ns.map .int)) (.lst (S.map .int)) g=some (.bl (decide (ks.Pairwise (· < ·))),g):=by
  have j:aJ (.lst (ns.map .int)) (.lst (S.map .int))=decide (ks.Pairwise (· < ·)):=by
   simp only[aJ]
   rw[nW]
   exact decide_eq_decide.mpr a
  unfold oEq
  rw[j,if_pos]
  simp[flat,dep,f1.1,f1.2,f2.1]
 unfold Pj
 rw[jK,b,aax,h,aax]
 exact eq
def A5 (p:Int)(f:Fn):Prop:=∀(ss:List D) (d:D) g,zy d->f [.int p,.tup ss,d] g=some (.bl (cy ss.length p d),g)
theorem FF (hs:sV p st):A5 p (aA false 4 3 (oh st)):=λss d g hd=>by
 have no:pN [some (.int p),some (.tup ss),some d,none] g=some (true,g)->cy ss.length p d=false->aA false 4 3 (oh st) [.int p,.tup ss,d] g=some (.bl (cy ss.length p d),g):=λz q=>by
  rw[q]
  refine bM (σ':=[some (.int p),some (.tup ss),some d,none]) rfl ?_ rfl
  show oh st [some (.int p),some (.tup ss),some d,none] g=_
  unfold oh
  simp[z]
 have l:=gC hd.nf
 have r:cG .tuple d=false->pN [some (.int p),some (.tup ss),some d,none] g=some (true,g):=λh=>by simp[pN,h,l]
 have lt:∀xs,d = .tup xs->xs.length≠2->pN [some (.int p),some (.tup ss),some d,none] g=some (true,g):=λxs e h=>by
  subst e
  have h':¬(xs.length:Int)=2:=by omega
  simp[pN,cG,bD,zB,h']
 cases d with
 |tup xs =>
  by_cases hl:xs.length=2
  . obtain⟨a,b,rfl⟩:=C5 hl
    have i:=eY hd.nf a (by simp)
    have hb:=eY hd.nf b (by simp)
    have k:=zB 2 2 g
    have y:cG .tuple a=false->pN [some (.int p),some (.tup ss),some (.tup [a,b]),none] g=some (true,g):=λh=>by
     have it:cG .tuple (.tup [a,b])=true:=rfl
     simp[pN,it,bD,k,dz,h,gC i]
    cases a with
    |tup c =>
     have n:=hd.ln c b rfl
     refine bM (σ':=[some (.int p),some (.tup ss),some (.tup [.tup c,b]),some (.tup c)]) rfl ?_ rfl
     show oh st [some (.int p),some (.tup ss),some (.tup [.tup c,b]),none] g=_
     have o:pN [some (.int p),some (.tup ss),some (.tup [.tup c,b]),none] g=some (false,g):=by
      simp[pN,cG,bD,k,dz]
     have f:=Pl (p:=p) (ss:=ss) (d:=.tup [.tup c,b]) (g:=g) (λt v=>gC (eY i t v)) n
     cases dP:c.all (jW ss.length)with
     |false =>
      rw[dP]at f
      have:cy ss.length p (.tup [.tup c,b])=false:=by simp only[cy,gh,dP,adR]
      rw[this]
      unfold oh
      simp[o,dz,f]
     |true =>
      rw[dP]at f
      obtain⟨u,_⟩:=lb dP
      have OD:(c.map iY).length<=18:=by rw[aaM];exact n
      have e4:=hs b g hb
      have rr:cy ss.length p (.tup [.tup c,b])=(decide ((c.map iY).Pairwise (· < ·))&&fX p b):=by simp only[cy,gh,dP,acM]
      rw[rr]
      have j:=Pm (p:=p) (ss:=ss) (ks:=c.map iY) (d:=.tup [.tup c,b]) (g:=g) OD
      rw[<- u]at j
      unfold oh
      generalize decide ((c.map iY).Pairwise (· < ·))=s at *
      cases s<;>simp[o,dz,fP,f,j,e4]
    |fn x=>cases i
    |_=>exact no (y rfl) rfl
  . exact no (lt xs rfl hl) (zx hl)
 |fn x=>cases l
 |_=>exact no (r rfl) rfl
theorem FH (xs:List Rt)(b:Nat):xq xs (aK xs.length b)=iX xs b:=by
 unfold xq iX
 have:∀l:List (Rt×Nat),(∀y∈l,y.2<xs.length)->(l.all λy=>y.1.1.e.isNone||(aK xs.length b).contains y.2)=l.all λy=>y.1.1.e.isNone||b.testBit y.2:=λl=>by
  induction l with
  |nil=>intro _;rfl
  |cons y l ih =>
   intro h
   simp only[acu]
   rw[lg (h y (by simp)),ih λz a=>h z (by simp[a])]
 exact this _ λy c=>(List.mem_zipIdx' c).1
theorem tw (xs:List Rt)(p:Int):ao xs (first p)= .tup [.tup [],.tup (zs p)]:=by
 have a:aK xs.length 0 = []:=by unfold aK;simp
 simp[ao,first,a,kD]
theorem xN (p0:0<=p):Rn xs p (first p):=⟨St.zs p0,af5 _⟩
theorem A6 {xs:List Rt}{p:Int}{rs:List aC}(h:∀r∈rs,Rn xs p r):aP (rs.map (ao xs))=true/\bW (rs.map (ao xs))<=6:=qf λd hd=>by
 obtain⟨r,a,rfl⟩:=aaJ.mp hd
 have:=jy (xs:=xs) (p:=p) (h r a).1
 exact⟨this.1,this.2.1⟩
theorem Rq {xs:List Rt}{p:Int}{rs:List aC}{v:aC}{g:G}(h:∀r∈rs,Rn xs p r)(hv:Rn xs p v):kS (ao xs v) (.tup (rs.map (ao xs))) g=some (inR rs v):=by
 obtain⟨f1,f2⟩:=A6 h
 have b:=(jy (xs:=xs) (p:=p) hv.1).1
 show wq (ao xs v) (rs.map (ao xs))=_
 have e:((rs.map (ao xs)).any λy=>aJ y (ao xs v))=inR rs v:=by
  rw[List.any_map]
  by_cases hm:v∈rs
  . rw[fU.mpr hm,acQ]
    exact⟨v,hm,(oY hv hv).mpr rfl⟩
  . rw[la hm,ahN]
    intro r a z
    exact hm ((oY (h r a) hv).mp z ▸ a)
 unfold wq
 rw[e,if_pos]
 simp[f1,b]
 omega
noncomputable def uz (xs:List Rt)(r:aC):D:=.tup [ao xs r,.bl true]
theorem zC (hr:Rn xs p r):∀{W:List aC},(∀v∈W,Rn xs p v)->r∈W->bH (dN xs W) (ao xs r) (.bl true)=dN xs W
 |v::W,h,hm=>by
  have he:=oY (h v (by simp)) hr
  by_cases hv:v=r
  . simp only[dN,bH]
    rw[if_pos (he.mpr hv)]
  . simp only[dN,bH]
    rw[if_neg λz=>hv (he.mp z),zC hr (λw hw=>h w (by simp[hw])) (by
     rcases aaD.mp hm with h|h
     . exact absurd h.symm hv
     . exact h)]
theorem HQ (xs:List Rt):∀rs:List aC,jl (rs.map (uz xs))=some (rs.map λr=>(ao xs r,D.bl true))
 | []=>rfl
 |r::rs=>by
  have ih:=HQ xs rs
  have e:AI (uz xs r)=some (ao xs r,D.bl true):=rfl
  simp only[aaX,jl,e,ih,aax,abo]
theorem HR:∀(rest W:List aC),(∀r∈W++rest,Rn xs p r)->W.Nodup->(W++rest).length<=900000 ->
  ∃A,A.Nodup/\(∀r,r∈A ↔ r∈W++rest)/\A.length<=(W++rest).length/\L3.putAll g.length (rest.map λr=>(ao xs r,D.bl true)) (g ++ [dN xs W])=some (g ++ [dN xs A])
 | [],W,_,hn,_=>⟨W,hn,λr=>by simp,by simp,rfl⟩
 |r::rest,W,h,hn,hl=>by
  have c:=h r (by simp)
  have j:∀v∈W,Rn xs p v:=λv hv=>h v (by simp[hv])
  have kk:=mn c
  have y:kh (dN xs W)=true:=by
   unfold kh az
   refine decide_eq_true ?_
   rw[De]
   simp at hl
   omega
  obtain⟨V,x,f,u,Zr⟩:∃V,V.Nodup/\(∀q,q∈V++rest ↔ q∈W++r::rest)/\bH (dN xs W) (ao xs r) (.bl true)=dN xs V/\V.length<=W.length+1:=by
   by_cases hm:r∈W
   . refine⟨W,hn,λq=>?_,zC c j hm,by omega⟩
     simp only[aaE,aaD]
     constructor
     . rintro(h|h)
       . exact .inl h
       . exact .inr (.inr h)
     . rintro(h|h|h)
       . exact .inl h
       . subst h;exact .inl hm
       . exact .inr h
   . refine⟨W ++ [r],?_,λq=>by simp,((u9 c j).2 hm).2,by simp⟩
     rw[ack]
     exact⟨hn,by simp,λa o b i z=>by simp at i;subst i;subst z;exact hm o⟩
  obtain⟨A,a1,a2,k,s⟩:=HR (g:=g) rest V (λq n=>h q ((f q).mp n)) x (by simp at hl ⊢;omega)
  refine⟨A,a1,λq=>(a2 q).trans (f q),by simp at k ⊢;omega,?_⟩
  rw[<- s,aaX]
  have e:iq (.aG g.length) (ao xs r) (.bl true) (g ++ [dN xs W])=some (g ++ [dN xs V]):=by
   have l:(g ++ [dN xs W])[g.length]? = some (dN xs W):=by simp
   simp only[iq,l,aax,kk,y,Bool.and_self,if_true,u]
   simp[af4]
  simp only[L3.putAll,e,aax]
theorem Df {xs:List Rt}{p:Int}{g:G}{rs:List aC}(h:∀r∈rs,Rn xs p r)(hl:rs.length<=900000):∃A,A.Nodup/\(∀r,r∈A ↔ r∈rs)/\A.length<=rs.length/\lU [.lst (rs.map (uz xs))] g=some (.aG g.length,g ++ [dN xs A]):=by
 obtain⟨A,a1,a2,a,c⟩:=HR (xs:=xs) (p:=p) (g:=g) rs [] (λr e=>h r (by simpa using e)) (by simp) (by simpa using hl)
 refine⟨A,a1,λr=>(a2 r).trans (by simp),by simpa using a,?_⟩
 have b:L3.putAll g.length (rs.map λr=>(ao xs r,D.bl true)) (g ++ [[]])=some (g ++ [dN xs A]):=c
 simp only[lU,HQ,aax,b,abo]
theorem HS (h:∀r∈W,Rn xs p r)(hv:Rn xs p v)(hg:g[m]? = some (dN xs W)):kS (ao xs v) (.aG m) g=some (inR W v):=by
 have c:=mn hv
 obtain⟨b,a⟩:=u9 hv h
 simp only[kS,hg,aax,c,if_true]
 by_cases hm:v∈W
 . rw[b hm,fU.mpr hm]
 . rw[(a hm).1,la hm]
theorem A7:∀{W:List aC},(∀v∈W,Rn xs p v)->∀n,aX n (dN xs W)=true
 | [],_,_=>rfl
 |v::W,h,n=>by
  have:=(jy (xs:=xs) (p:=p) (h v (by simp)).1).2.2 n
  have ih:=A7 (W:=W) (λr a=>h r (by simp[a])) n
  simp[dN,aX,this,bx,ih]
noncomputable def Pn (pr:Fn):FE:=av fL (aa (bQ bU (cv (af 2)) [none,none,some 0,some 1] (gN 1) aO (av pr (aa (af 2) (aa (af 3) (aa (af 1) aj))))) aj)
noncomputable def Po:FT:=aN (aq d_ (aL aH (aa (aL aH aj) (aa (aq cL (aL aH (aa (fC (.int 0)) aj)) (af 0)) aj))) (af 2))
noncomputable def Pp (en:Fn):FE:=av kf (aa (bQ bU (cv (af 2)) [none,none,none,some 1] (gT 2 (aw (gN 1) (aw (gN 2) aV))) aO (av en (aa (af 3) (aa (af 1) aj)))) aj)
noncomputable def Pq:FE:=av lU (aa (bQ bU (cv (af 2)) [none,none] (gN 1) aO (aL aH (aa (af 1) (aa (fC (.bl true)) aj)))) aj)
noncomputable def Dg (bh:Fn):FS:=cA (dq (cK (av fL (aa (bQ bU (cv (av bh (aa (af 1) (aa (af 4) (aa (af 5) aj))))) [none,none,some 3] (gN 1) aO (aq eO (af 1) (af 2))) aj)))) (aU (fC (.bl false))) bp
noncomputable def jY (pr en bh:Fn):FS:=aD (cA (kI (dq (cK (fK .tuple (af 2)))) (dq (cK (Pn pr)))) (aU (fC (.bl false))) bp) (aD (cA (kI Po (cK (Pp en))) (aU (fC (.bl false))) bp) (aD (aM Pq (gN 3)) (aD (e_ (cv (af 2)) (gT 2 (aw (gN 4) (aw (gN 5) aV))) (Dg bh)) (aU (fC (.bl true))))))
noncomputable abbrev G6 (p:Int)(xs:List Rt)(d:D)(m:Nat)(c4 c5:Option D):Sg:=[some (.int p),some (.tup (xs.map rt)),some d,some (.aG m),c4,c5]
noncomputable def hX (xs:List Rt)(rs:List aC)(r:aC):Bool:=((aaz xs.length).filter (cx xs r)).all λk=>inR rs (bO xs r k)
theorem Dh (xs:List Rt)(p:Int)(rs:List aC):eZ xs p rs=(inR rs (first p)&&(!(rs.any λr=>iX xs r.1)&&rs.all (hX xs rs))):=by
 unfold eZ
 congr 1
 rw[aed]
 simp only[aaQ,aav,abc,ahN,dC,hX]
 constructor
 . intro h
   exact⟨λr a=>by rw[(h r a).1];simp,λr a=>(h r a).2⟩
 . rintro⟨c,b⟩ r a
   exact⟨by simpa using c r a,b r a⟩
theorem Pr (hb:n_ p bh)(hx:∀x∈xs,bG p x)(hn:xs.length<=50)(hA:∀v∈A,Rn xs p v)(hr:Rn xs p r)(hg:g[m]? = some (dN xs A))(hc:Clean g):
  Dg bh (G6 p xs d m (some (.tup (kD (aK xs.length r.1)))) (some (.tup r.2))) g=some (if hX xs A r=true then .nx else .rt (.bl false),G6 p xs d m (some (.tup (kD (aK xs.length r.1)))) (some (.tup r.2)),g):=by
 have ld:=hb xs r g hx hn hr.1 hc
 have hl:((aaz xs.length).filter (cx xs r)).length<=xs.length:=by
  have:=abh (cx xs r) (aaz xs.length)
  simpa using this
 have o:az (pM xs r).length=true:=aF (by simp[pM];omega)
 have s:=c_ (f:=λk=>ao xs (bO xs r k)) (t:=gN 1) (c:=aO) (e:=aq eO (af 1) (af 2)) (h:=λk=>D.bl (inR A (bO xs r k))) (λσ=>∃a,σ = [none,a,some (.aG m)]) ((aaz xs.length).filter (cx xs r)) [none,none,some (.aG m)] g ⟨_,rfl⟩ (by
  rintro k b σ ⟨a,rfl⟩
  rw[aa3,aaL]at b
  have y:Rn xs p (bO xs r k):=by
   refine⟨St.put hr.1 (hx _ (cW b.1)).r.dd,?_⟩
   refine aee _ λi q=>?_
   rw[oP,acV (aa0 hr.2 (adg (by omega) q))]
   simp
   omega
  have u:eO (ao xs (bO xs r k)) (.aG m) g=some (.bl (inR A (bO xs r k)),g):=by unfold eO;rw[HS hA y hg];rfl
  exact⟨[none,some (ao xs (bO xs r k)),some (.aG m)],by simp,by simp,by
   rw[jK]
   simp only[cJ,abg,abb,aax]
   exact u,⟨_,rfl⟩⟩)
 have j:bV (gN 1) aO (aq eO (af 1) (af 2)) (pM xs r) [none,none,some (.aG m)] g=_:=s
 have bm:=cp (λk:Nat=>inR A (bO xs r k)) ((aaz xs.length).filter (cx xs r))
 have z:bq [none,none,some 3] (G6 p xs d m (some (.tup (kD (aK xs.length r.1)))) (some (.tup r.2)))= [none,none,some (.aG m)]:=rfl
 have l:hX xs A r=(((aaz xs.length).filter (cx xs r)).map λk=>inR A (bO xs r k)).all id:=by
  unfold hX
  rw[acs]
  rfl
 rw[l]
 unfold Dg
 generalize ((aaz xs.length).filter (cx xs r)).map (λk=>D.bl (inR A (bO xs r k)))=CC at *
 generalize ((aaz xs.length).filter (cx xs r)).map (λk=>inR A (bO xs r k))=BB at *
 generalize pM xs r=LL at *
 cases n:BB.all id<;>simp[ld,o,z,j,bm,n]
theorem Th (hb:n_ p bh)(hx:∀x∈xs,bG p x)(hn:xs.length<=50)(hA:∀v∈A,Rn xs p v)(hg:g[m]? = some (dN xs A))(hc:Clean g):∀(rest:List aC) (c4 c5:Option D),(∀r∈rest,Rn xs p r) ->
  ∃Pt xJ,forL (gT 2 (aw (gN 4) (aw (gN 5) aV))) (Dg bh) (rest.map (ao xs)) (G6 p xs d m c4 c5) g=some (if rest.all (hX xs A)=true then .nx else .rt (.bl false),G6 p xs d m Pt xJ,g)
 | [],c4,c5,_=>⟨c4,c5,by simp[forL]⟩
 |r::rest,c4,c5,h=>by
  have bd:=Pr (d:=d) hb hx hn hA (h r (by simp)) hg hc
  have b:gT 2 (aw (gN 4) (aw (gN 5) aV)) (ao xs r) (G6 p xs d m c4 c5) g=some (G6 p xs d m (some (.tup (kD (aK xs.length r.1)))) (some (.tup r.2)),g):=by simp[ao]
  rw[acu]
  cases a:hX xs A r with
  |true =>
   rw[a]at bd
   obtain⟨Pt,xJ,ih⟩:=Th hb hx hn hA hg hc rest (some (.tup (kD (aK xs.length r.1)))) (some (.tup r.2)) (λq a=>h q (by simp[a]))
   refine⟨Pt,xJ,?_⟩
   rw[acM,<- ih,aaX]
   simp only[forL,b,aax,bd,if_true]
  |false =>
   rw[a]at bd
   refine⟨some (.tup (kD (aK xs.length r.1))),some (.tup r.2),?_⟩
   rw[aaX]
   simp only[forL,b,aax,bd]
   simp
def Di (p:Int)(f:Fn):Prop:=∀xs d g,(∀x∈xs,bG p x)->xs.length<=50->nf d=true->(∀ds,d = .tup ds->ds.length<=900000 /\ ∀e∈ds,zy e)->Clean g->f [.int p,.tup (xs.map rt),d] g=some (.bl (gz xs p d),g)
set_option maxHeartbeats 4000000 in
theorem Dj {pr en bh:Fn}{p:Int}(p0:0<=p)(p1:p<=100)(NO:A5 p pr)(qW:s_ p en)(hb:n_ p bh):Di p (aA false 6 3 (jY pr en bh)):=λxs d g z hn hd j5 y=>by
 have key:wp (aA false 6 3 (jY pr en bh) [.int p,.tup (xs.map rt),d] g) λq=>q=(.bl (gz xs p d),g):=by
  refine gM rfl ?_
  show wp (jY pr en bh [some (.int p),some (.tup (xs.map rt)),some d,none,none,none] g) _
  obtain⟨l,gx,e⟩:∃l gx,jY pr en bh [some (.int p),some (.tup (xs.map rt)),some d,none,none,none] g=some (.rt (.bl (gz xs p d)),l,g++gx):=by
   have no:cG .tuple d=false->gz xs p d=false->∃l gx,jY pr en bh [some (.int p),some (.tup (xs.map rt)),some d,none,none,none] g=some (.rt (.bl (gz xs p d)),l,g++gx):=λh1 h2=>by
    refine⟨[some (.int p),some (.tup (xs.map rt)),some d,none,none,none],[],?_⟩
    rw[ab9,h2]
    unfold jY
    simp[h1,gC hd]
   cases d with
   |tup ds =>
    obtain⟨jT,jF⟩:=j5 ds rfl
    have u:az ds.length=true:=by unfold az;exact decide_eq_true (by omega)
    have xl:(xs.map rt).length=xs.length:=aaM _
    have c1:=cz (t:=gN 1) (c:=aO) (e:=av pr (aa (af 2) (aa (af 3) (aa (af 1) aj)))) (h:=λd=>D.bl (cy xs.length p d)) (λσ=>∃a,σ = [none,a,some (.int p),some (.tup (xs.map rt))]) ds [none,none,some (.int p),some (.tup (xs.map rt))] g ⟨_,rfl⟩ (by
     rintro d hm σ ⟨a,rfl⟩
     refine⟨[none,some d,some (.int p),some (.tup (xs.map rt))],by simp,by simp,?_,⟨_,rfl⟩⟩
     have:=NO (xs.map rt) d g (jF d hm)
     rw[xl]at this
     simp[this])
    have bm:=cp (λd:D=>cy xs.length p d) ds
    have i:Pn pr [some (.int p),some (.tup (xs.map rt)),some (.tup ds),none,none,none] g=some (.bl (ds.all (cy xs.length p)),g):=by
     have k:bq [none,none,some 0,some 1] ([some (.int p),some (.tup (xs.map rt)),some (.tup ds),none,none,none]:Sg)= [none,none,some (.int p),some (.tup (xs.map rt))]:=rfl
     unfold Pn
     simp[u,k,c1,bm,acs,abF]
    cases ha:ds.all (cy xs.length p)with
    |false =>
     rw[ha]at i
     have:gz xs p (.tup ds)=false:=by simp only[gz,ha,adR]
     rw[this]
     refine⟨[some (.int p),some (.tup (xs.map rt)),some (.tup ds),none,none,none],[],?_⟩
     rw[ab9]
     unfold jY
     simp[i,cG]
    |true =>
     rw[ha]at i
     have Pg:gz xs p (.tup ds)=eZ xs p (ds.map (roomOf xs)):=by simp only[gz,ha,acM]
     obtain⟨m1,s⟩:=oa ha
     rw[Pg]
     have rl:(ds.map (roomOf xs)).length<=900000:=by rw[aaM];exact jT
     generalize ds.map (roomOf xs)=rs at *
     subst m1
     rw[Dh]
     have mz:cL (.tup [.int 0]) (.int p) g=some (.tup (zs p),g):=by
      rw[Ai (by omega) (by omega) (by simp)]
      simp[zs]
     have iF:=Rq (g:=g) s (xN p0)
     rw[tw]at iF
     have j:Po [some (.int p),some (.tup (xs.map rt)),some (.tup (rs.map (ao xs))),none,none,none] g=some (!inR rs (first p),g):=by
      generalize rs.map (ao xs)=yy at *
      simp[Po,mz,d_,iF]
     have mF:az rs.length=true:=by simpa using u
     have cE:=c_ (f:=ao xs) (t:=gT 2 (aw (gN 1) (aw (gN 2) aV))) (c:=aO) (e:=av en (aa (af 3) (aa (af 1) aj))) (h:=λr=>D.bl (iX xs r.1)) (λσ=>∃a b,σ = [none,a,b,some (.tup (xs.map rt))]) rs [none,none,none,some (.tup (xs.map rt))] g ⟨_,_,rfl⟩ (by
      rintro r hm σ ⟨a,b,rfl⟩
      refine⟨[none,some (.tup (kD (aK xs.length r.1))),some (.tup r.2),some (.tup (xs.map rt))],by simp[ao],by simp,?_,⟨_,_,rfl⟩⟩
      have:=qW xs (aK xs.length r.1) g z (by omega)
      rw[FH]at this
      simp[this])
     have o:Pp en [some (.int p),some (.tup (xs.map rt)),some (.tup (rs.map (ao xs))),none,none,none] g=some (.bl (rs.any λr=>iX xs r.1),g):=by
      have k:bq [none,none,none,some 1] ([some (.int p),some (.tup (xs.map rt)),some (.tup (rs.map (ao xs))),none,none,none]:Sg)= [none,none,none,some (.tup (xs.map rt))]:=rfl
      simp[Pp,k,cE,mF,kf,fw,cp,List.any_map,abF]
     cases hF:inR rs (first p)with
     |false =>
      rw[hF]at j
      refine⟨[some (.int p),some (.tup (xs.map rt)),some (.tup (rs.map (ao xs))),none,none,none],[],?_⟩
      rw[ab9]
      unfold jY
      generalize rs.map (ao xs)=yy at *
      simp[i,cG,j]
     |true =>
      rw[hF]at j
      cases hE:(rs.any λr=>iX xs r.1)with
      |true =>
       rw[hE]at o
       refine⟨[some (.int p),some (.tup (xs.map rt)),some (.tup (rs.map (ao xs))),none,none,none],[],?_⟩
       rw[ab9]
       unfold jY
       generalize rs.map (ao xs)=yy at *
       simp[i,cG,j,o]
      |false =>
       rw[hE]at o
       obtain⟨A,a1,a2,a3,a4⟩:=Df (g:=g) s rl
       have hA:∀v∈A,Rn xs p v:=λv hv=>s v ((a2 v).mp hv)
       have cD:=c_ (f:=ao xs) (t:=gN 1) (c:=aO) (e:=aL aH (aa (af 1) (aa (fC (.bl true)) aj))) (h:=uz xs) (λσ=>∃a,σ = [none,a]) rs [none,none] g ⟨_,rfl⟩ (by
        rintro r hm σ ⟨a,rfl⟩
        exact⟨[none,some (ao xs r)],by simp,by simp,by simp[uz],⟨_,rfl⟩⟩)
       have eD:Pq [some (.int p),some (.tup (xs.map rt)),some (.tup (rs.map (ao xs))),none,none,none] g=some (.aG g.length,g ++ [dN xs A]):=by
        have k:∀σ:Sg,bq [none,none] σ = [none,none]:=λ_=>rfl
        simp[Pq,k,cD,mF,a4]
       have nr:∀n,aX n (dN xs A)=true:=λn=>A7 hA n
       have cg:Clean (g ++ [dN xs A]):=λys hy n=>by
        rcases aaE.mp hy with h|h
        . exact y ys h n
        . simp at h;subst h;exact nr n
       have hg:(g ++ [dN xs A])[g.length]? = some (dN xs A):=by simp
       obtain⟨c4,c5,eL⟩:=Th (d:=.tup (rs.map (ao xs))) hb z hn hA hg cg rs none none s
       have lc:hX xs A=hX xs rs:=by
        funext r
        unfold hX
        rw[og a2]
       rw[lc]at eL
       have Zs:forL (gT 2 (aw (gN 4) (aw (gN 5) aV))) (Dg bh) (rs.map (ao xs)) [some (.int p),some (.tup (xs.map rt)),some (.tup (rs.map (ao xs))),some (.aG g.length),none,none] (g ++ [dN xs A])=_:=eL
       refine⟨[some (.int p),some (.tup (xs.map rt)),some (.tup (rs.map (ao xs))),some (.aG g.length),c4,c5],[dN xs A],?_⟩
       unfold jY
       generalize rs.map (ao xs)=yy at *
       generalize rs.all (hX xs rs)=bb at *
       cases bb<;>simp[i,cG,j,o,eD,Zs]
   |fn x=>cases hd
   |_=>exact no rfl rfl
  rw[e]
  simp only[b_]
  exact⟨by simp[bx],by simpa using y.all _,by simp,by simp⟩
 obtain⟨q,e,rfl⟩:=key
 exact e
end Sd
namespace Sd
open PySem L3 L2 RI Pd Od
inductive mI (xs:List Rt)(s:List D):aC->Prop
 |nil:mI xs s (0,s)
 |snoc {r k}:mI xs s r->k<xs.length->cx xs r k=true->mI xs s (bO xs r k)
noncomputable def uA (xs:List Rt)(T:Nat->Nat)(c:Nat):Option Nat:=(aaz xs.length).find? λk=>T k == 2&&gy (aB xs k)== some c
theorem xO (hk:k<xs.length)(c:Nat):uA xs (hJ xs T k) c=if gy (aB xs k)=some c then some k else uA xs T c:=by
 unfold uA
 by_cases h:gy (aB xs k)=some c
 . rw[if_pos h]
   have a:∀i,(hJ xs T k i == 2&&gy (aB xs i)== some c)=true ↔ i=k:=λi=>by
    unfold hJ
    by_cases e:i=k
    . subst e;simp[h]
    . simp only[e,if_false,iff_false,ad2,ac4]
      by_cases h2:T i=2/\gy (aB xs i)=gy (aB xs k)
      . rw[if_pos h2];exact .inl rfl
      . rw[if_neg h2]
        by_cases h3:T i=2
        . refine .inr ?_
          simp only[h]at h2
          simp
          exact λz=>h2 ⟨h3,z⟩
        . refine .inl ?_;simp[h3]
   cases hf:(aaz xs.length).find? (λi=>hJ xs T k i == 2&&gy (aB xs i)== some c)with
   |none =>
    rw[afj]at hf
    exact absurd ((a k).mpr rfl) (hf k (aaL.mpr hk))
   |some j =>
    have:=aea hf
    rw[(a j).mp this]
 . rw[if_neg h]
   have:∀i,(hJ xs T k i == 2&&gy (aB xs i)== some c)=(T i == 2&&gy (aB xs i)== some c):=λi=>by
    by_cases h2:gy (aB xs i)=some c
    . simp only[h2,beq_self_eq_true,agL]
      unfold hJ
      by_cases e:i=k
      . subst e;exact absurd h2 h
      . rw[if_neg e,if_neg]
        intro z
        rw[h2]at z
        exact h z.2.symm
    . have:(gy (aB xs i)== some c)=false:=by simpa using h2
      simp[this]
   simp only[this]
noncomputable def Dk (xs:List Rt)(s:List D)(T:Nat->Nat)(c:Nat):D:=match uA xs T c with
 |some k=>Ou (aB xs k)
 |none=>s.getD c (.int 0)
noncomputable def gS (xs:List Rt)(s:List D)(T:Nat->Nat):List D:=(aaz s.length).map (Dk xs s T)
theorem mI.tags (hx:∀x∈xs,bG p x)(hs:(s.length:Int)=p)(h:mI xs s r):∃T:Nat->Nat,(∀i,T i<3)/\r.1=bT xs.length T/\r.2=gS xs s T:=by
 induction h with
 |nil =>
  refine⟨λ_=>0,λ_=>by show 0<3;omega,?_,?_⟩
  . refine acJ λi=>?_
    rw[nX];simp
  . unfold gS
    refine acR (by simp) λi f l=>?_
    have e:uA xs (λ_=>0) i=none:=by
      unfold uA
      rw[afj];intro _ _;simp
    simp[Dk,e]
    rw[aay f];rfl
 | @snoc r k h hk hc ih =>
  obtain⟨T,f,l,j⟩:=ih
  refine⟨hJ xs T k,λi=>?_,?_,?_⟩
  . unfold hJ
    have:=f i
    split
    . split<;>omega
    . split<;>omega
  . refine acJ λi=>?_
    rw[oP,l,nX,nX]
    unfold hJ
    by_cases e:i=k
    . subst e
      have:(if(gy (aB xs i)).isSome=true then 2 else 1)≠0:=by split<;>omega
      simp[hk,this]
    . simp only[e,if_false,decide_false,adB]
      congr 1
      refine decide_eq_decide.mpr ?_
      split<;>omega
  . have hd:=(hx _ (cW hk)).r.dd
    have n:(r.2.length:Int)=p:=by rw[j];simp[gS];omega
    show fQ r.2 (aB xs k).1.dd=_
    rw[Fo hd n,j]
    unfold gS
    cases hp:gy (aB xs k)with
    |none =>
      refine agY λc _=>?_
      unfold Dk
      rw[xO hk,hp]
      simp
    |some c0 =>
      refine acR (by simp) λi a b=>?_
      simp only[List.getElem_set,List.getElem_map,List.getElem_range]
      unfold Dk
      rw[xO hk,hp]
      by_cases e:c0=i
      . subst e;simp
      . simp[e]
theorem Dm (h:∀i<xs.length,T i=U i)(c:Nat):uA xs T c=uA xs U c:=by
 have:∀l:List Nat,(∀i∈l,i<xs.length)->l.find? (λk=>T k == 2&&gy (aB xs k)== some c)=l.find? (λk=>U k == 2&&gy (aB xs k)== some c):=λl=>by
  induction l with
  |nil=>intro _;rfl
  |cons i l ih =>
   intro a
   simp only[List.find?_cons,h i (a i (by simp)),ih λj e=>a j (by simp[e])]
 exact this _ λi b=>aaL.mp b
noncomputable def HU (xs:List Rt)(s:List D)(l:List Nat):aC:=(bT xs.length λi=>l.getD i 0,gS xs s λi=>l.getD i 0)
theorem Dp {α β:Type}{f:α->List β}{n:Nat}(h:∀a,(f a).length=n):∀S:List α,(S.flatMap f).length=S.length*n
 | []=>by simp
 |a::S=>by simp[List.flatMap_cons,h a,Dp h S,Nat.succ_mul,ag8]
theorem Pu {xs:List Rt}{p:Int}(hx:∀x∈xs,bG p x){S:List (List D)}(hS:∀s∈S,(s.length:Int)=p){V:List aC}(hn:V.Nodup)(hV:∀r∈V,∃s∈S,mI xs s r):V.length<=S.length*3 ^ xs.length:=by
 have:=qg (W:=S.flatMap λs=>(md xs.length).map (HU xs s)) hn λr l=>by
  obtain⟨s,a,h⟩:=hV r l
  obtain⟨T,k,j,f⟩:=h.tags hx (hS s a)
  refine List.mem_flatMap.mpr ⟨s,a,aaJ.mpr ⟨_,xw T k xs.length,?_⟩⟩
  have e:∀i<xs.length,((aaz xs.length).map T).getD i 0=T i:=λi b=>by simp[b]
  unfold HU
  rw[xx _ e,<- j]
  have:gS xs s (λi=>((aaz xs.length).map T).getD i 0)=gS xs s T:=by
   unfold gS
   exact agY λc _=>by unfold Dk;rw[Dm e c]
  rw[this,<- f]
 rwa[Dp (n:=3 ^ xs.length) λs=>by rw[aaM,Fm]]at this
end Sd
namespace Sd
open PySem L3 L2 RI Pd Od SJ
noncomputable def qT (m q:Nat):FT:=aN (aq d_ (af q) (af m))
noncomputable def qI (w m q:Nat):FS:=cA (qT m q) (aD (aM (fC (.bl true)) (jP (af m) (af q))) (fu (dw isRef cV (af w) (aa (af q) aj)))) bp
noncomputable def qC (w a:Nat):FT:=aN (aq oLt (af a) (av cZ (aa (af w) aj)))
noncomputable def qF (bh:Fn)(r w m q a:Nat):FS:=e_ (cv (av bh (aa (af r) (aa (aq aI (aq aI (af w) (af a)) (fC (.int 0))) (aa (aq aI (aq aI (af w) (af a)) (fC (.int 1))) aj))))) (gN q) (qI w m q)
noncomputable def qN (a:Nat):FS:=aM (aq aQ (af a) (fC (.int 1))) (gN a)
structure Kn (xs:List Rt)(S:List (List D))(A:List aC):Prop where
 nd:A.Nodup
 rc:∀r∈A,∃s∈S,mI xs s r
structure zD (p:Int)(S:List (List D)):Prop where
 st:∀s∈S,St p s
 Zt:S.length<=2
theorem mI.rn (hs:St p s)(hx:∀x∈xs,bG p x)(h:mI xs s r):Rn xs p r:=by
 induction h with
 |nil=>exact⟨hs,af5 _⟩
 | @snoc r k _ hk _ ih =>
  refine⟨St.put ih.1 (hx _ (cW hk)).r.dd,aee _ λi a=>?_⟩
  rw[oP,acV (aa0 ih.2 (adg (by omega) a))]
  simp
  omega
theorem Kn.rn (h:Kn xs S A)(hS:zD p S)(hx:∀x∈xs,bG p x):∀r∈A,Rn xs p r:=λr b=>by
 obtain⟨s,a,h⟩:=h.rc r b
 exact h.rn (hS.st s a) hx
theorem Kn.le (h:Kn xs S A)(hS:zD p S)(hx:∀x∈xs,bG p x)(hl:xs.length<=9):A.length<=40000:=by
 have:=Pu hx (λs a=>(hS.st s a).1) h.nd h.rc
 have b:3 ^ xs.length<=3 ^ 9:=adg (by omega) hl
 have e:(3:Nat) ^ 9=19683:=by decide
 have c:S.length*3 ^ xs.length<=2*19683:=Nat.mul_le_mul hS.Zt (by omega)
 omega
structure uB (xs:List Rt)(n c:Nat)(r w m q a:Nat)(σ:Sg):Prop where
 hr:σ[r]? = some (some (.tup (xs.map rt)))
 hw:σ[w]? = some (some (.ref n))
 hm:σ[m]? = some (some (.aG (n+1)))
 ha:σ[a]? = some (some (.int (c:Nat)))
 hq:q < σ.length
structure Dq (r w m q a:Nat):Prop where
 h1:q≠r
 h2:q≠w
 h3:q≠m
 h4:q≠a
 h5:a≠r
 h6:a≠w
 h7:a≠m
theorem uB.set (I:Dq r w m q a)(h:uB xs n c r w m q a σ)(d:D):uB xs n c r w m q a (σ.set q (some d)):=by
 refine⟨?_,?_,?_,?_,by rw[afZ];exact h.hq⟩
 . rw[aaU I.h1];exact h.hr
 . rw[aaU I.h2];exact h.hw
 . rw[aaU I.h3];exact h.hm
 . rw[aaU I.h4];exact h.ha
def kq (q a:Nat)(σ σ':Sg):Prop:=σ'.length=σ.length /\ ∀j,j≠q->j≠a->σ'[j]? = σ[j]?
theorem kq.trans (h:kq q a σ1 σ2)(h2:kq q a σ2 σ3):kq q a σ1 σ3:=⟨h2.1.trans h.1,λj a b=>(h2.2 j a b).trans (h.2 j a b)⟩
theorem kq.sq (d:Option D):kq q a σ (σ.set q d):=⟨by simp,λj h _=>aaU (acg h)⟩
theorem kq.sa (d:Option D):kq q a σ (σ.set a d):=⟨by simp,λj _ h=>aaU (acg h)⟩
theorem xP (J:Dq r w m q a)(hS:zD p S)(hx:∀x∈xs,bG p x)(hl:xs.length<=9):∀(ks:List Nat) (V A:List aC) (σ:Sg),(∀k∈ks,k<xs.length/\cx xs v k=true)->Kn xs S A->v∈A->V.length<=A.length+1->uB xs g.length c r w m q a σ ->
  ∃N σ',forL (gN q) (qI w m q) (ks.map λk=>ao xs (bO xs v k)) σ (g ++ [V.map (ao xs),dN xs A])=some (.nx,σ',g ++ [(V++N).map (ao xs),dN xs (A++N)])/\Kn xs S (A++N)/\uB xs g.length c r w m q a σ'/\kq q a σ σ'
 | [],V,A,σ,_,h,_,_,hn=>⟨[],σ,by simp[forL],by simpa using h,hn,⟨rfl,λ_ _ _=>rfl⟩⟩
 |k::ks,V,A,σ,h,hA,hv,Zu,hn=>by
  obtain⟨hk,hc⟩:=h k (by simp)
  obtain⟨s,hs,hr⟩:=hA.rc v hv
  have hp:=mI.snoc hr hk hc
  have n6:=hp.rn (hS.st s hs) hx
  have kk:=mn n6
  obtain⟨i1,i2⟩:=u9 n6 (hA.rn hS hx)
  have e:=hn.set J (ao xs (bO xs v k))
  have gq:(σ.set q (some (ao xs (bO xs v k))))[q]? = some (some (ao xs (bO xs v k))):=by simp[hn.hq]
  have ot:kq q a σ (σ.set q (some (ao xs (bO xs v k)))):=kq.sq _
  generalize hσ:σ.set q (some (ao xs (bO xs v k)))=σ1 at *
  have g1:(g ++ [V.map (ao xs),dN xs A])[g.length+1]? = some (dN xs A):=by simp
  have oi:d_ (ao xs (bO xs v k)) (.aG (g.length+1)) (g ++ [V.map (ao xs),dN xs A])=some (.bl (!inR A (bO xs v k)),g ++ [V.map (ao xs),dN xs A]):=by
    unfold d_
    rw[HS (hA.rn hS hx) n6 g1]
    rfl
  have f:qT m q σ1 (g ++ [V.map (ao xs),dN xs A])=some (!inR A (bO xs v k),g ++ [V.map (ao xs),dN xs A]):=by
    have:aq d_ (af q) (af m) σ1 (g ++ [V.map (ao xs),dN xs A])=some (.bl (!inR A (bO xs v k)),g ++ [V.map (ao xs),dN xs A]):=by
     rw[jK]
     simp only[cJ,gq,e.hm,aax]
     exact oi
    unfold qT
    rw[Eu,this]
    rfl
  by_cases hm:bO xs v k∈A
  . rw[fU.mpr hm]at f
    have bd:qI w m q σ1 (g ++ [V.map (ao xs),dN xs A])=some (.nx,σ1,g ++ [V.map (ao xs),dN xs A]):=by
     simp[qI,f]
    obtain⟨N,σ',l,i,o,n⟩:=xP J hS hx hl (g:=g) (c:=c) ks V A σ1 (λj hj=>h j (by simp[hj])) hA hv Zu e
    refine⟨N,σ',?_,i,o,ot.trans n⟩
    rw[<- l,aaX]
    simp only[forL,qU,aax,hσ,bd]
  . rw[la hm]at f
    obtain⟨hg,Zv⟩:=i2 hm
    have hle:=hA.le hS hx hl
    have mY:kh (dN xs A)=true:=by unfold kh az;exact decide_eq_true (by rw[De];omega)
    have hz:az (V.length+1)=true:=by unfold az;exact decide_eq_true (by omega)
    have A2:Kn xs S (A ++ [bO xs v k]):=⟨by
     rw[ack]
     exact⟨hA.nd,by simp,λa ha b hb z=>by simp at hb;subst hb;subst z;exact hm ha⟩,λu hu=>by
     rcases aaE.mp hu with hu|hu
     . exact hA.rc u hu
     . simp at hu;subst hu;exact⟨s,hs,hp⟩⟩
    have bd:qI w m q σ1 (g ++ [V.map (ao xs),dN xs A])=some (.nx,σ1,g ++ [(V ++ [bO xs v k]).map (ao xs),dN xs (A ++ [bO xs v k])]):=by
     rw[aeb,ahn,<- Zv]
     generalize ao xs (bO xs v k)=y at *
     simp[qI,f,gq,e.hm,e.hw,kk,mY,hz,af4]
    obtain⟨N,σ',l,i,o,n⟩:=xP J hS hx hl (g:=g) (c:=c) ks (V ++ [bO xs v k]) (A ++ [bO xs v k]) σ1 (λj hj=>h j (by simp[hj])) A2 (aaE.mpr (.inl hv)) (by simp;omega) e
    rw[ab7,ab7]at l
    rw[ab7]at i
    refine⟨[bO xs v k]++N,σ',?_,i,o,ot.trans n⟩
    rw[<- l,aaX]
    simp only[forL,qU,aax,hσ,bd]
set_option maxHeartbeats 4000000 in
theorem A8 (J:Dq r w m q a)(hS:zD p S)(hx:∀x∈xs,bG p x)(hl:xs.length<=9)(hb:n_ p bh)(hc:Clean g):∀(f c:Nat) (V A:List aC) (σ:Sg),Kn xs S A->(∀v∈V,v∈A)->V.length<=A.length+1->uB xs g.length c r w m q a σ->c<=V.length->40003<=f+c ->
  ∃(V' A':List aC) (σ':Sg),t6 (qC w a) (aD (qF bh r w m q a) (qN a)) f σ (g ++ [V.map (ao xs),dN xs A])=some (.nx,σ',g ++ [V'.map (ao xs),dN xs A'])/\Kn xs S A'/\(∀v∈V',v∈A')/\V.length<=V'.length/\V'.length<=A'.length+1/\kq q a σ σ'
 | 0,c,V,A,σ,hA,_,h2,_,h4,hf=>by
  have:=hA.le hS hx hl
  omega
 |f+1,c,V,A,σ,hA,h1,h2,hn,h4,hf=>by
  have hle:=hA.le hS hx hl
  have ec:qC w a σ (g ++ [V.map (ao xs),dN xs A])=some (decide (c<V.length),g ++ [V.map (ao xs),dN xs A]):=by
    simp[qC,hn.ha,hn.hw,bD]
  by_cases cR:c<V.length
  . have i:decide (c<V.length)=true:=by simp[cR]
    rw[i]at ec
    obtain⟨v,o⟩:∃v,V[c]? = some v:=⟨_,aay cR⟩
    have s:v∈A:=h1 v (aa6 o)
    have j:=hA.rn hS hx
    have Pw:∀u∈V,Rn xs p u:=λu hu=>j u (h1 u hu)
    have kT:=gv (xs:=V.map (ao xs)) (n:=c) (d:=ao xs v) (by simp[o])
    have cl:Clean (g ++ [V.map (ao xs),dN xs A]):=OP hc (λn=>cF λd hd=>by
     obtain⟨u,hu,rfl⟩:=aaJ.mp hd
     exact(jy (p:=p) (Pw u hu).1).2.2 n) (λn=>A7 j n)
    have eb:=hb xs v (g ++ [V.map (ao xs),dN xs A]) hx (by omega) (j v s).1 cl
    obtain⟨N,b,e1,A',e,o1⟩:=xP J hS hx hl (g:=g) (c:=c) ((aaz xs.length).filter (cx xs v)) V A σ (λk l=>⟨aaL.mp (aa3.mp l).1,(aa3.mp l).2⟩) hA s h2 hn
    have eF:qF bh r w m q a σ (g ++ [V.map (ao xs),dN xs A])=some (.nx,b,g ++ [(V++N).map (ao xs),dN xs (A++N)]):=by
     have e2:forL (gN q) (qI w m q) (pM xs v) σ (g ++ [V.map (ao xs),dN xs A])=_:=e1
     have i1:cv (av bh (aa (af r) (aa (aq aI (aq aI (af w) (af a)) (fC (.int 0))) (aa (aq aI (aq aI (af w) (af a)) (fC (.int 1))) aj)))) σ (g ++ [V.map (ao xs),dN xs A])=some (pM xs v,g ++ [V.map (ao xs),dN xs A]):=by
       have ny:ao xs v = .tup [.tup (kD (aK xs.length v.1)),.tup v.2]:=rfl
       rw[ny]at kT
       have y:kN (.ref g.length) (.int (c:Nat)) (g ++ [V.map (ao xs),dN xs A])=some (.tup [.tup (kD (aK xs.length v.1)),.tup v.2],g ++ [V.map (ao xs),dN xs A]):=by
        simp[kN,bD,kT]
       simp only[cv,pW,gH,jv,cJ,jK,lJ,hn.hr,hn.hw,hn.ha,aax,zm,y]
       simp[dz,fP,kT,eb]
     simp only[qF,kP,i1,aax,e2]
    have eN:qN a b (g ++ [(V++N).map (ao xs),dN xs (A++N)])=some (.nx,b.set a (some (.int ((c+1:Nat):Int))),g ++ [(V++N).map (ao xs),dN xs (A++N)]):=by
     simp[qN,e.ha]
    have My:a < b.length:=(aaB.mp e.ha).1
    have n2:uB xs g.length (c+1) r w m q a (b.set a (some (.int ((c+1:Nat):Int)))):=by
     refine⟨?_,?_,?_,by simp[My],by rw[afZ];exact e.hq⟩
     . rw[aaU J.h5];exact e.hr
     . rw[aaU J.h6];exact e.hw
     . rw[aaU J.h7];exact e.hm
    have z:kq q a b (b.set a (some (.int ((c+1:Nat):Int)))):=kq.sa _
    generalize b.set a (some (.int ((c+1:Nat):Int)))=σ2 at *
    obtain⟨V',h,σ',e3,a3,v3,l3,l4,o3⟩:=A8 J hS hx hl hb hc f (c+1) (V++N) (A++N) σ2 A' (λu hu=>by
     rcases aaE.mp hu with hu|hu
     . exact aaE.mpr (.inl (h1 u hu))
     . exact aaE.mpr (.inr hu)) (by simp;omega) n2 (by simp;omega) (by omega)
    refine⟨V',h,σ',?_,a3,v3,by simp at l3;omega,l4,(o1.trans z).trans o3⟩
    rw[<- e3]
    simp only[t6,ec,aax,if_true,il,eF,eN]
  . have i:decide (c<V.length)=false:=by simp[cR]
    rw[i]at ec
    refine⟨V,A,σ,?_,hA,h1,aaC _,h2,⟨rfl,λ_ _ _=>rfl⟩⟩
    simp only[t6,ec,aax]
    simp
theorem rW {xs:List Rt}{p:Int}{W:List aC}(h:∀r∈W,Rn xs p r)(n:Nat):aX n (W.map (ao xs))=true:=cF λd hd=>by
 obtain⟨v,a,rfl⟩:=aaJ.mp hd
 exact(jy (p:=p) (h v a).1).2.2 n
theorem Dt (p0:0<=p)(p1:p<=100):cL (.tup [.int 0]) (.int p) g=some (.tup (zs p),g):=by
 rw[Ai (by omega) (by omega) (by simp)]
 simp[zs]
noncomputable def Px:FS:=sr 2 3 (aa (aL mkRef (aa (aL aH (aa (aL aH aj) (aa (aq cL (aL aH (aa (fC (.int 0)) aj)) (af 0)) aj))) aj)) (aa (fC (.int 0)) aj))
noncomputable def Py:FS:=aM (nG [(aq aI (af 2) (fC (.int 0)),fC (.bl true))]) (gN 4)
noncomputable def Tj (bh:Fn):FS:=F_ 1000000 (qC 2 3) (aD (qF bh 1 2 4 5 3) (qN 3))
noncomputable def xQ (bh:Fn):FS:=aD Px (aD Py (aD (Tj bh) (aU (af 2))))
def Pz (p:Int)(f:Fn):Prop:=∀xs g,(∀x∈xs,bG p x)->xs.length<=9->Clean g->∃W:List aC,f [.int p,.tup (xs.map rt)] g=some (.lst (W.map (ao xs)),g)/\(∀r∈W,Rn xs p r)/\W.length<=40001
set_option maxHeartbeats 4000000 in
theorem all_gen {bh:Fn}{p:Int}(p0:0<=p)(p1:p<=100)(hb:n_ p bh):Pz p (aA false 6 2 (xQ bh)):=λxs g h l i=>by
 have fr:Rn xs p (first p):=xN p0
 have f:zD p [zs p]:=⟨λs j=>by simp at j;subst j;exact St.zs p0,by simp⟩
 have hA:Kn xs [zs p] [first p]:=⟨by simp,λr b=>by simp at b;subst b;exact⟨zs p,by simp,mI.nil⟩⟩
 have J:Dq 1 2 4 5 3:=⟨by decide,by decide,by decide,by decide,by decide,by decide,by decide⟩
 obtain⟨W,A,c,e,a1,w1,_,w3,x⟩:=A8 (r:=1) (w:=2) (m:=4) (q:=5) (a:=3) J f h l hb i 1000000 0 [first p] [first p] [some (.int p),some (.tup (xs.map rt)),some (.ref g.length),some (.int 0),some (.aG (g.length+1)),none] hA (λv hv=>hv) (by simp) ⟨rfl,rfl,rfl,rfl,by simp⟩ (by simp) (by omega)
 have ny:=tw xs p
 have Ds:=a1.rn f h
 have k:∀r∈W,Rn xs p r:=λr b=>Ds r (w1 r b)
 have Zw:=a1.le f h l
 have key:wp (aA false 6 2 (xQ bh) [.int p,.tup (xs.map rt)] g) λq=>q=(.lst (W.map (ao xs)),g):=by
  refine oO rfl ?_
  have mz:=Dt (g:=g) p0 p1
  have z:Px [some (.int p),some (.tup (xs.map rt)),none,none,none,none] g=some (.nx,[some (.int p),some (.tup (xs.map rt)),some (.ref g.length),some (.int 0),none,none],g ++ [[ao xs (first p)]]):=by
   rw[ny]
   simp[Px,mz]
  have kk:=mn fr
  have Zx:Py [some (.int p),some (.tup (xs.map rt)),some (.ref g.length),some (.int 0),none,none] (g ++ [[ao xs (first p)]])=some (.nx,[some (.int p),some (.tup (xs.map rt)),some (.ref g.length),some (.int 0),some (.aG (g.length+1)),none],g ++ [[first p].map (ao xs),dN xs [first p]]):=by
   have sz:kh []=true:=by decide
   have dn:nG [(aq aI (af 2) (fC (.int 0)),fC (.bl true))] [some (.int p),some (.tup (xs.map rt)),some (.ref g.length),some (.int 0),none,none] (g ++ [[ao xs (first p)]])=some (.aG (g.length+1),g ++ [[ao xs (first p)],dN xs [first p]]):=by
    generalize hy:ao xs (first p)=y at *
    have n:kN (.ref g.length) (.int 0) (g ++ [[y]] ++ [[]])=some (y,g ++ [[y]] ++ [[]]):=by
     simp[kN,bD,dz]
    simp only[nG,wx,jK,cJ,lJ,abg,abb,aax,zm,n]
    simp[L3.putAll,iq,kk,sz,bH,dN,hy]
   simp[Py,dn]
  have o:Tj bh [some (.int p),some (.tup (xs.map rt)),some (.ref g.length),some (.int 0),some (.aG (g.length+1)),none] (g ++ [[first p].map (ao xs),dN xs [first p]])=some (.nx,c,g ++ [W.map (ao xs),dN xs A]):=e
  have u:c[2]? = some (some (.ref g.length)):=x.2 2 (by decide) (by decide)
  have e':xQ bh [some (.int p),some (.tup (xs.map rt)),none,none,none,none] g=some (.rt (.ref g.length),c,g ++ [W.map (ao xs),dN xs A]):=by
   simp only[xQ,il,z,Zx,o,aax]
   simp[u]
  refine⟨_,e',g.length,W.map (ao xs),rfl,aaC _,by simp,rW k _,by simpa using i.all _,by simp⟩
 obtain⟨q,e,rfl⟩:=key
 exact⟨W,e,k,by omega⟩
theorem PB (cs:List (List D))(h:Hd g1 n B)(f:Fr n g g1):cq g (g1++cs) n B cs:=by
 obtain⟨a,b,c,k,l⟩:=h
 have o:=(aaB.mp k).1
 have e:=f.1
 refine⟨⟨a,b,c,by rw[aaS o];exact k,l⟩,by omega,by simp[e],λi q=>?_,λj p r=>by rw[aaS (by omega)];exact f.2 j p⟩
 rw[abz (by omega),e]
 simp
theorem Du (m:cq g gg n B cs):gg=gg.take g.length++cs:=by
 have a:=m.len
 have:gg.drop g.length=cs:=by
  refine afw λi=>?_
  rw[List.getElem?_drop]
  by_cases hi:i<cs.length
  . exact m.at_ i hi
  . rw[abX (by omega),abX (by omega)]
 rw[<- this,agk]
noncomputable def Tn:FE:=aL aH (aa (aL aH aj) (aa (aq cL (aL aH (aa (fC (.int 0)) aj)) (af 1)) aj))
noncomputable def PC:FS:=aM (aL mkRef (aa Tn aj)) (gN 3)
noncomputable def PD (val:Fn):FE:=av fJ (aa (bQ bU (m8 (aa (af 1) aj)) [none,none,some 0] (gN 1) aO (av val (aa (af 2) aj))) aj)
noncomputable def PF (take val:Fn):FS:=cA (aN (aq oEq (av take (aa (af 0) (aa (fC (.int 2)) aj))) (fC (.int 0)))) (fu (dw isRef cV (af 3) (aa (aL aH (aa (aL aH aj) (aa (PD val) aj))) aj))) bp
noncomputable def PH:FE:=fN bU (nB (af 3)) [none,none] (gN 1) aO (aL aH (aa (af 1) (aa (fC (.bl true)) aj)))
noncomputable def PJ:FS:=sr 4 5 (aa (av lU (aa PH aj)) (aa (fC (.int 0)) aj))
noncomputable def To (bh:Fn):FS:=F_ 1000000 (qC 3 5) (aD (qF bh 2 3 4 6 5) (qN 5))
noncomputable def Tp (take:Fn):FS:=fu (dw isRef jw (af 3) (aa (av take (aa (af 0) (aa (aq aQ (av cZ (aa (af 3) aj)) (fC (.int 1))) aj))) (aa (dw isRef sO (af 3) (aa (av take (aa (af 0) (aa (av cZ (aa (af 3) aj)) aj))) aj)) aj)))
noncomputable def PK (take:Fn):FS:=e_ (m8 (aa (av take (aa (af 0) (aa (fC (.int 4)) aj))) aj)) (gN 7) (Tp take)
noncomputable def Tq (take:Fn):FS:=aU (av fJ (aa (aq aQ (af 3) (fZ (af 3) fg (dA (av take (aa (af 0) (aa (fC (.int 2)) aj)))))) aj))
noncomputable def rX (take val bh:Fn):FS:=aD PC (aD (PF take val) (aD PJ (aD (To bh) (aD (PK take) (Tq take)))))
noncomputable abbrev W8 (n:Nat)(p:Int)(xs:List Rt)(m:Nat)(c4 c5 c6 c7:Option D):Sg:=[some (.ref n),some (.int p),some (.tup (xs.map rt)),some (.ref m),c4,c5,c6,c7]
def Zy (n:Nat)(g:G)(B:Int)(i:Nat)(acc:List D)(σ:Sg)(gg:G):Prop:=(∃o1,σ = [none,o1,some (.ref n)])/\acc.length=i/\(∀x∈acc,isVal 3 x=true)/\(i<=100->Hd gg n (B+i))/\Fr n g gg
theorem Rr {Q:D×G->Prop}(hv:eh val)(hB:B+150<2 ^ 40)(p0:0<=p)(p1:p<=100)(hd:Hd g n B)(q:∀st g',St p st->Hd g' n (B+p)->Fr n g g'->Q (.tup st,g')):wp (PD val (W8 n p xs m c4 c5 c6 c7) g) Q:=by
 unfold PD
 simp only[pW,gH,jv,wp_bind]
 refine N_ (lY ?_)
 simp only[gH,jv,cJ,abg,abb,aax,b_]
 refine⟨p,rfl,by omega,by omega,?_⟩
 refine⟨aF (by rw[gP];omega),?_⟩
 have v:bq [none,none,some 0] (W8 n p xs m c4 c5 c6 c7)= [none,none,some (.ref n)]:=rfl
 rw[v]
 refine wb (Zy n g B) (et 0 p.toNat) 0 _ _ [] ⟨⟨_,rfl⟩,rfl,by simp,λ_=>by simpa using hd,Fr.refl⟩ ?_ ?_
 . rintro j d acc σ k u ⟨⟨y,rfl⟩,f,c,b,h⟩
   obtain⟨z,rfl⟩:=gI u
   simp
   refine hv.w (B:=B+j) (by omega) (by simpa using b (by omega)) λd g' l s r=>?_
   refine⟨⟨_,rfl⟩,by simp[f],?_,λ_=>?_,h.trans r⟩
   . intro x a
     rcases aaE.mp a with a|a
     . exact c x a
     . simp at a;subst a;exact jx (.inl l)
   . have:(B+((j+1:Nat):Int):Int)=B+(j:Int)+1:=by omega
     rw[this]
     exact s
 . rintro i σ k ⟨_,f,c,b,h⟩
   rw[gP]at f b
   simp only[acH,ac0]at f c b
   have o:az i.length=true:=aF (by omega)
   simp[bU,fJ,bD,o]
   have e:(B+(p.toNat:Nat):Int)=B+p:=by omega
   refine q i k ⟨by omega,c⟩ ?_ h
   have:=b (by omega)
   rwa[e]at this
theorem Ru {Q:F×Sg×G->Prop}(ht:dy take)(hv:eh val)(hB:B+300<2 ^ 40)(p0:0<=p)(p1:p<=100)(m:cq g gg n B [[ao xs (first p)]])
   (q:∀(V:List aC) vX,(V = [first p] \/ ∃s,St p s/\V = [first p,(0,s)])->cq g vX n (B+101) [V.map (ao xs)]->Q (.nx,W8 n p xs g.length none none none none,vX)):wp (PF take val (W8 n p xs g.length none none none none) gg) Q:=by
 unfold PF
 simp
 refine ht.w (by omega) (by decide) (by decide) m.hd λr g2 k l b f2=>?_
 have a:=m.step b f2
 by_cases hr:r=0
 . simp[hr]
   refine Rr hv (by omega) p0 p1 b λst g3 j f i=>?_
   have c:=a.step f i
   have a0:=c.a0
   have h:aK xs.length 0 = []:=by unfold aK;simp
   have e:[ao xs (first p)] ++ [D.tup [.tup [],.tup st]]= [first p,((0:Nat),st)].map (ao xs):=by
    simp[ao,h,kD]
   have sz:az 2=true:=by decide
   have z:=q [first p,(0,st)] _ (.inr ⟨st,j,rfl⟩) ((c.mono (B':=B+101) (by omega)).put 0 ([first p,((0:Nat),st)].map (ao xs)))
   rw[<- e]at z
   simp at z
   simp[a0,sz]
   exact z
 . simp[hr]
   exact q [first p] _ (.inl rfl) (a.mono (by omega))
theorem PL {xs:List Rt}{p B:Int}{n:Nat}{g gg:G}{V:List aC}(hV:∀r∈V,Rn xs p r)(Zr:V.length<=2)(m:cq g gg n B [V.map (ao xs)]):∃A,A.Nodup/\(∀r,r∈A ↔ r∈V)/\PJ (W8 n p xs g.length none none none none) gg=some (.nx,W8 n p xs g.length (some (.aG (g.length+1))) (some (.int 0)) none none,gg ++ [dN xs A]):=by
 obtain⟨A,a1,a2,_,i⟩:=Df (g:=gg) hV (by omega)
 have b:gg[g.length]? = some (V.map (ao xs)):=m.a0
 have o:=m.len
 have j:=jq (f:=ao xs) (t:=gN 1) (c:=aO) (cB:=λ_=>true) (e:=aL aH (aa (af 1) (aa (fC (.bl true)) aj))) (h:=uz xs) (xs:=V) b (λσ=>∃a,σ = [none,a]) (by
  rintro r hm σ ⟨a,rfl⟩
  exact⟨[none,some (ao xs r)],by simp,by simp,λ_=>by simp[uz],⟨_,rfl⟩⟩) V.length [none,none] (aaC _) ⟨_,rfl⟩
 have l:V.filter (λ_=>true)=V:=by simp
 rw[ac1,adj,l]at j
 have q:az V.length=true:=aF (by omega)
 have s:bq [none,none] (W8 n p xs g.length none none none none)= [none,none]:=rfl
 refine⟨A,a1,a2,?_⟩
 have k:gg.length=g.length+1:=by simpa using o
 rw[k]at i
 have e:PH (W8 n p xs g.length none none none none) gg=some (.lst (V.map (uz xs)),gg):=by
  simp only[PH,nC,sD,cJ,abg,abb,aax,b,aaM,q,if_true,s,j]
  rfl
 unfold PJ
 simp[e,i]
theorem Rv {xs:List Rt}{gg:G}{m k:Nat}{V:List aC}{v:aC}(h:gg[m]? = some (V.map (ao xs)))(hv:V[k]? = some v)(h2:V.length<=100000):sO (.ref m) [.int k] gg=some (ao xs v,gg.set m ((V.eraseIdx k).map (ao xs))):=by
 have a:=(aaB.mp hv).1
 have c:(decide (-1000000<=(k:Int))&&decide ((k:Int)<=1000000))=true:=by simp;omega
 have e:afh (k:Int) (V.map (ao xs)).length=some k:=by
  unfold afh
  have a1:¬(k:Int)<0:=by omega
  simp[a1,a]
 have b:(V.map (ao xs)).eraseIdx k=(V.eraseIdx k).map (ao xs):=by simp[List.eraseIdx_eq_take_drop_succ,agP,List.map_drop]
 simp only[sO,h,aax,c,if_true,e]
 simp[hv,b]
theorem Rw {xs:List Rt}{gg:G}{m:Nat}{V:List aC}{v:aC}{i:Int}(h:gg[m]? = some (V.map (ao xs)))(h0:0<=i)(h1:i<=1000000)(h2:V.length<=100000):jw (.ref m) [.int i,ao xs v] gg=some (.ay,gg.set m ((V.take i.toNat++v::V.drop i.toNat).map (ao xs))):=by
 have a:az (V.length+1)=true:=by unfold az;exact decide_eq_true (by omega)
 simp only[jw,h,aax]
 rw[if_pos (by simp[h0,h1,a])]
 simp[agP,List.map_drop]
structure HV (n m:Nat)(σ:Sg):Prop where
 h0:σ[0]? = some (some (.ref n))
 h3:σ[3]? = some (some (.ref m))
def ZA (n:Nat)(xs:List Rt)(p B:Int)(g:G)(A:List aC)(L i:Nat)(σ:Sg)(gg:G):Prop:=i<=4->HV n g.length σ /\ ∃V:List aC,V.length=L/\(∀r∈V,Rn xs p r)/\cq g gg n (B+2*i) [V.map (ao xs),dN xs A]
theorem Rx {take:Fn}{n L:Nat}{p B:Int}{xs:List Rt}{g gg:G}{σ:Sg}{V A:List aC}{Q:F×Sg×G->Prop}(ht:dy take)(hB:B+100<2 ^ 40)(hs:HV n g.length σ)(hV:∀r∈V,Rn xs p r)(hL:V.length=L)(hL0:0<L)(hL1:L<=50000)(m:cq g gg n B [V.map (ao xs),dN xs A])
   (q:∀(V':List aC) σ' vX,V'.length=L->(∀r∈V',Rn xs p r)->HV n g.length σ'->cq g vX n (B+10) [V'.map (ao xs),dN xs A]->Q (.nx,σ',vX)):wp (PK take σ gg) Q:=by
 unfold PK
 simp only[kP,wp_bind]
 refine lY ?_
 simp[hs.h0]
 refine ht.w (by omega) (by decide) (by decide) m.hd λr g2 r0 r1 x f2=>?_
 have m2:=m.step x f2
 simp
 refine⟨by omega,by omega,?_⟩
 refine ip (ZA n xs p (B+1) g A L) _ 0 _ _ (λ_=>⟨hs,V,hL,hV,by simpa using m2⟩) ?_ ?_
 . rintro j d σ gg hj I
   obtain⟨t7,rfl⟩:=gI hj
   obtain⟨hs,V,hL,hV,m⟩:=I (by omega)
   have a0:=m.a0
   have s0:(σ.set 7 (some (.int j)))[0]? = some (some (.ref n)):=by rw[aaU (by decide)];exact hs.h0
   have s3:(σ.set 7 (some (.int j)))[3]? = some (some (.ref g.length)):=by rw[aaU (by decide)];exact hs.h3
   simp only[qU,b_]
   generalize σ.set 7 (some (.int j))=σ1 at *
   unfold Tp
   simp[s0,s3,a0,bD,hL]
   refine ht.w (by omega) (by omega) (by omega) m.hd λi g3 i0 i1 h3 f3=>?_
   have b:=m.step h3 f3
   have y:=b.a0
   simp[y,bD,hL]
   refine ht.w (by omega) (by omega) (by omega) b.hd λk g4 k0 k1 h4 f4=>?_
   have u:=b.step h4 f4
   have c0:=u.a0
   obtain⟨kn,rfl⟩:∃kn:Nat,k=kn:=⟨k.toNat,by omega⟩
   have h:kn<V.length:=by omega
   obtain⟨v,s⟩:∃v,V[kn]? = some v:=⟨_,aay h⟩
   have z:=hV v (aa6 s)
   have o:=Rv c0 s (by omega)
   have c:=u.put 0 ((V.eraseIdx kn).map (ao xs))
   have ab:(V.eraseIdx kn).length=V.length-1:=by rw[List.length_eraseIdx,if_pos h]
   have f:∀r∈V.eraseIdx kn,Rn xs p r:=λr a=>hV r (List.mem_of_mem_eraseIdx a)
   generalize V.eraseIdx kn=E at *
   have d0:=c.a0
   have e:=Rw (v:=v) (i:=i) d0 i0 (by omega) (by omega)
   have l:=c.put 0 ((E.take i.toNat++v::E.drop i.toNat).map (ao xs))
   simp only[afO]at o e c l
   simp only[o,b_,e]
   refine λ_=>⟨⟨s0,s3⟩,E.take i.toNat++v::E.drop i.toNat,?_,?_,?_⟩
   . simp
     omega
   . intro r a
     rcases aaE.mp a with a|a
     . exact f r (abH a)
     . rcases aaD.mp a with rfl|a
       . exact z
       . exact f r (adf a)
   . exact l.mono (by omega)
 . rintro σ gg I
   rw[gP]at I
   obtain⟨hs,V,hL,hV,m⟩:=I (by omega)
   exact q V σ gg hL hV hs (m.mono (by omega))
theorem PM {gg:G}{m k:Nat}{ys:List D}(h:gg[m]? = some ys)(hk:k<=ys.length):eK (.ref m) none (some (k:Int)) gg=some (.lst (ys.take k),gg):=by
 show nq (.ref m) none (some (k:Int)) gg=_
 simp only[nq,h]
 unfold cutD
 rw[qV hk,HT.jC]
 simp
set_option maxHeartbeats 4000000 in
theorem PN {Q:D×G->Prop}(ht:dy take)(hv:eh val)(hb:n_ p bh)(hB:B+400<2 ^ 40)(p0:0<=p)(p1:p<=100)(hx:∀x∈xs,bG p x)(hl:xs.length<=9)(hd:Hd g n B)(hc:Clean g)
  (q:∀(rs:List aC) g',(∀r∈rs,Rn xs p r)->rs ≠ []->rs.length<=90000->Hd g' n (B+200)->Fr n g g'->Q (.tup (rs.map (ao xs)),g')):wp (aA false 8 3 (rX take val bh) [.ref n,.int p,.tup (xs.map rt)] g) Q:=by
 refine gM rfl ?_
 show wp (rX take val bh [some (.ref n),some (.int p),some (.tup (xs.map rt)),none,none,none,none,none] g) _
 have ny:=tw xs p
 have eA:PC [some (.ref n),some (.int p),some (.tup (xs.map rt)),none,none,none,none,none] g=some (.nx,W8 n p xs g.length none none none none,g ++ [[ao xs (first p)]]):=by
  rw[ny]
  have mz:=Dt (g:=g) p0 p1
  simp[PC,Tn,mz]
 have m1:=(cq.none hd).push [ao xs (first p)]
 refine ko ?_
 rw[eA]
 simp only[b_]
 refine⟨trivial,ko (Ru ht hv (by omega) p0 p1 m1 λV ZD hV f=>⟨rfl,?_⟩)⟩
 obtain⟨S,c,Tr,ZE,Ts⟩:∃S,zD p S/\(∀r∈V,∃s∈S,r=(0,s))/\V.length<=2/\first p∈V:=by
  rcases hV with rfl|⟨s,b,rfl⟩
  . exact⟨[zs p],⟨λs b=>by simp at b;subst b;exact St.zs p0,by simp⟩,λr a=>⟨zs p,by simp,by simpa[first]using a⟩,by simp,by simp⟩
  . refine⟨[zs p,s],⟨λs' mY=>?_,by simp⟩,λr a=>?_,by simp,by simp⟩
    . simp at mY
      rcases mY with rfl|rfl
      . exact St.zs p0
      . exact b
    . simp at a
      rcases a with rfl|rfl
      . exact⟨zs p,by simp,rfl⟩
      . exact⟨s,by simp,rfl⟩
 have Pw:∀r∈V,Rn xs p r:=λr a=>by
  obtain⟨s,b,rfl⟩:=Tr r a
  exact⟨c.st s b,af5 _⟩
 obtain⟨A,a1,a2,e2⟩:=PL Pw ZE f
 refine ko ?_
 rw[e2]
 simp only[b_]
 refine⟨trivial,?_⟩
 have eg:=Du f
 obtain⟨y,f1⟩:=f.fin
 generalize ZD.take g.length=g1 at *
 have rF:g1.length=g.length:=f1.1
 subst eg
 have ZF:Kn xs S A:=⟨a1,λr a=>by
  obtain⟨s,b,rfl⟩:=Tr r ((a2 r).mp a)
  exact⟨s,b,mI.nil⟩⟩
 have Zw:0<A.length:=aev ((a2 _).mpr Ts)
 have J:Dq 2 3 4 6 5:=⟨by decide,by decide,by decide,by decide,by decide,by decide,by decide⟩
 have hN:uB xs g1.length 0 2 3 4 6 5 (W8 n p xs g.length (some (.aG (g.length+1))) (some (.int 0)) none none):=⟨rfl,by rw[rF];rfl,by rw[rF];rfl,rfl,by simp⟩
 obtain⟨V',j,σ',e3,l,v3,l3,l4,o⟩:=A8 J c hx hl hb (hc.fr f1 y) 1000000 0 V A _ ZF (λv hv=>(a2 v).mpr hv) (by omega) hN (by omega) (by omega)
 have eW:To bh (W8 n p xs g.length (some (.aG (g.length+1))) (some (.int 0)) none none) (g1 ++ [V.map (ao xs)] ++ [dN xs A])=some (.nx,σ',g1 ++ [V'.map (ao xs),dN xs j]):=by
  rw[ab7]
  exact e3
 refine ko ?_
 rw[eW]
 simp only[b_]
 refine⟨trivial,?_⟩
 have GV:=l.rn c hx
 have ab:=l.le c hx hl
 have ah:0<V.length:=aev Ts
 have b:HV n g.length σ':=⟨o.2 0 (by decide) (by decide),o.2 3 (by decide) (by decide)⟩
 refine ko (Rx ht (by omega) b (λr a=>GV r (v3 r a)) rfl (by omega) (by omega) (PB [V'.map (ao xs),dN xs j] y f1) λW σ2 ae PQ Tt u i=>⟨rfl,?_⟩)
 have b0:=i.a0
 unfold Tq
 simp[u.h0,u.h3]
 refine ht.w (by omega) (by decide) (by decide) i.hd λr g4 r0 r1 h4 f4=>?_
 have e:=i.step h4 f4
 have c0:=e.a0
 obtain⟨rn,rfl⟩:∃rn:Nat,r=rn:=⟨r.toNat,by omega⟩
 have Na:=PM (k:=rn) c0 (by rw[aaM];omega)
 have hz:az (W.length+min rn W.length)=true:=by unfold az;exact decide_eq_true (by omega)
 have ad:aQ (.ref g.length) (.lst ((W.map (ao xs)).take rn)) g4=some (.lst ((W++W.take rn).map (ao xs)),g4):=by
  simp[aQ,fw,c0,hz,agP]
 have hR:∀r∈W++W.take rn,Rn xs p r:=λr a=>by
  rcases aaE.mp a with a|a
  . exact Tt r a
  . exact Tt r (abH a)
 have fG:W++W.take rn ≠ []:=λz=>by
  obtain⟨h,_⟩:=List.append_eq_nil_iff.mp z
  rw[h]at PQ
  simp at PQ
  omega
 have HB:(W++W.take rn).length<=90000:=by simp;omega
 have mF:az ((W++W.take rn).map (ao xs)).length=true:=by unfold az;exact decide_eq_true (by rw[aaM];omega)
 obtain⟨hF,fF⟩:=(e.mono (B':=B+200) (by omega)).fin
 have cl:=e.clean hc
 have ml:=e.len
 simp only[Na,b_,ad]
 generalize W++W.take rn=R at *
 simp only[fJ,bD,aax,mF,if_true,b_]
 exact⟨by simpa[bx]using rW hR _,aaQ.mp cl,by simp at ml;omega,q R _ hR fG HB hF fF⟩
structure fR (d:D):Prop where
 el:zy d
 nr:∀n,bx n d=true
theorem rN:∀{xs:List D},(∀x∈xs,nf x=true)->nO xs=true
 | [],_=>rfl
 |x::xs,h=>by simp only[nO,aav];exact⟨h x (by simp),rN λy a=>h y (by simp[a])⟩
structure cb (d:D):Prop where
 nf:nf d=true
 nr:∀n,bx n d=true
theorem cb.tup (h:∀x∈xs,cb x):cb (.tup xs):=⟨by simp only[Pd.nf];exact rN λx a=>(h x a).nf,λn=>by simpa[bx]using cF λx a=>(h x a).nr n⟩
theorem cb.lst (h:∀x∈xs,cb x):cb (.lst xs):=⟨rfl,λn=>by simpa[bx]using cF λx a=>(h x a).nr n⟩
theorem cb.val (h:isVal n d=true):cb d:=⟨(jV n d h).1,(jV n d h).2⟩
def Dv (b:D):Prop:=∀st,b = .tup st->∀x∈st,isVal 3 x=true\/x = .ay
theorem dF (ha:∀x∈a,cb x)(hb:cb b)(hs:Dv b)(hl:a.length<=18):fR (.tup [.tup a,b]):=by
 have c:cb (.tup [.tup a,b]):=cb.tup λx h=>by
  simp at h
  rcases h with rfl|rfl
  . exact cb.tup ha
  . exact hb
 exact⟨⟨c.nf,λi f e=>by injection e with e;injection e with e1 e2;injection e1 with e1;subst e1;exact hl,λi f e=>by injection e with e;injection e with e1 e2;injection e2 with e2;exact .inl (hs f e2)⟩,c.nr⟩
theorem lh (hp:cb d)(hn:∀a b,d ≠ .tup [.tup a,b])(LN:∀a b,d ≠ .tup [a,.tup b]):fR d:=⟨⟨hp.nf,λa b e=>absurd e (hn a b),λa b e=>absurd e (LN a b)⟩,hp.nr⟩
noncomputable def tx (dn st rv d1 s1:List D):List D:=[.tup [.tup rv,.tup st],.tup [.tup (dn ++ [.int 0]),.tup st],.tup [.tup dn,.tup (st ++ [.int 0])],.tup [.tup dn,.lst st],.tup [.lst dn,.tup st]] ++ [.tup [.tup dn,.tup (.int 9::s1)],.tup [.tup d1,.tup st],.tup [.tup dn,.tup (.ay::s1)],.tup [.tup dn],.ay,.tup dn] ++ [.tup [.tup (dn ++ [.int 99]),.tup st],.tup [.tup (.bl true::d1),.tup st],.tup [.tup dn,.tup st,.tup st],.tup [.tup (.int (-1)::dn),.tup st]]
theorem Ku (wX:∀x∈dn,∃i:Int,x = .int i)(jT:dn.length<=9)(HY:∀x∈st,isVal 3 x=true)(ZG:∀x∈rv,x∈dn)(GR:rv.length<=9)(HW:∀x∈d1,x∈dn)(zl:d1.length<=9)(eU:∀x∈s1,x∈st):∀d∈tx dn st rv d1 s1,fR d:=by
 have pi:∀i:Int,cb (.int i):=λi=>⟨rfl,λ_=>rfl⟩
 have f:∀x∈dn,cb x:=λx c=>by obtain⟨i,rfl⟩:=wX x c;exact pi i
 have p:∀x∈st,cb x:=λx c=>cb.val (HY x c)
 have j:=cb.tup p
 have o:Dv (.tup st):=λr e x c=>by injection e with e;subst e;exact .inl (HY x c)
 have v:∀y,(isVal 3 y=true\/y = .ay)->Dv (.tup (y::s1)):=λy k r e x c=>by
   injection e with e;subst e
   rcases aaD.mp c with rfl|c
   . exact k
   . exact .inl (HY x (eU x c))
 have sa:Dv (.tup (st ++ [.int 0])):=λr e x c=>by
   injection e with e;subst e
   rcases aaE.mp c with c|c
   . exact .inl (HY x c)
   . simp at c;subst c;exact .inl (um _ _ (by decide) (by decide))
 have sl:Dv (.lst st):=λr e=>by cases e
 have Tu:∀y,cb y->cb (.tup (y::s1)):=λy k=>cb.tup λx c=>by
   rcases aaD.mp c with rfl|c
   . exact k
   . exact p x (eU x c)
 have ap:∀(l:List D) y,(∀x∈l,cb x)->cb y->∀x∈l ++ [y],cb x:=λl y h k x c=>by
   rcases aaE.mp c with c|c
   . exact h x c
   . simp at c;subst c;exact k
 have z:∀(l:List D) y,(∀x∈l,cb x)->cb y->∀x∈y::l,cb x:=λl y h k x c=>by
   rcases aaD.mp c with rfl|c
   . exact k
   . exact h x c
 have s:∀x∈d1,cb x:=λx c=>f x (HW x c)
 unfold tx
 simp only[aeA,acH,agC]
 refine⟨dF (λx c=>f x (ZG x c)) j o (by omega),dF (ap _ _ f (pi 0)) j o (by simp;omega),dF f (cb.tup (ap _ _ p (pi 0))) sa (by omega),dF f (cb.lst p) sl (by omega),?_,dF f (Tu _ (pi 9)) (v _ (.inl (um _ _ (by decide) (by decide)))) (by omega),dF s j o (by omega),dF f (Tu _ ⟨rfl,λ_=>rfl⟩) (v _ (.inr rfl)) (by omega),lh (cb.tup λx c=>?_) (λa b e=>by cases e) (λa b e=>by cases e),lh ⟨rfl,λ_=>rfl⟩ (λa b e=>by cases e) (λa b e=>by cases e),lh (cb.tup f) (λa b e=>?_) (λa b e=>?_),dF (ap _ _ f (pi 99)) j o (by simp;omega),dF (z _ _ s ⟨rfl,λ_=>rfl⟩) j o (by simp;omega),lh (cb.tup λx c=>?_) (λa b e=>by cases e) (λa b e=>by cases e),dF (z _ _ f (pi (-1))) j o (by simp;omega),λx c=>by cases c⟩
 . have u:cb (.tup [.lst dn,.tup st]):=cb.tup λx c=>by
     simp at c
     rcases c with rfl|rfl
     . exact cb.lst f
     . exact j
   exact⟨⟨u.nf,(λa b e=>by cases e),λa b e=>.inr λn=>by injection e with e;injection e with e1 _;rw[<- e1];rfl⟩,u.nr⟩
 . simp at c
   subst c
   exact cb.tup f
 . injection e with e
   obtain⟨i,q⟩:=wX (.tup a) (by rw[e];simp)
   cases q
 . injection e with e
   obtain⟨i,q⟩:=wX (.tup b) (by rw[e];simp)
   cases q
 . simp at c
   rcases c with rfl|rfl
   . exact cb.tup f
   . exact j
noncomputable def Tv (take:Fn):FS:=aM (av take (aa (af 0) (aa (av cZ (aa (af 1) aj)) aj))) (gN 2)
noncomputable def PU:FS:=aM (aq aI (af 1) (af 2)) (gT 2 (aw (gN 3) (aw (gN 4) aV)))
noncomputable def PV:FE:=Al (af 3) fg fg (dA (vK lG (fC (.int 1))))
noncomputable def PX:FS:=aM (aL cS (aa (aL aH (aa PV (aa (af 4) aj))) (aa (aL aH (aa (aq aQ (af 3) (aL aH (aa (fC (.int 0)) aj))) (aa (af 4) aj))) (aa (aL aH (aa (af 3) (aa (aq aQ (af 4) (aL aH (aa (fC (.int 0)) aj))) aj))) (aa (aL aH (aa (af 3) (aa (av iV (aa (af 4) aj)) aj))) (aa (aL aH (aa (av iV (aa (af 3) aj)) (aa (af 4) aj))) aj)))))) (gN 5)
noncomputable def HZ:FE:=fZ (af 4) (dA (fC (.int 1))) fg
noncomputable def H0:FE:=fZ (af 3) (dA (fC (.int 1))) fg
noncomputable def PY:FS:=aM (aq aQ (af 5) (aL cS (aa (aL aH (aa (af 3) (aa (aq aQ (aL aH (aa (fC (.int 9)) aj)) HZ) aj))) (aa (aL aH (aa H0 (aa (af 4) aj))) (aa (aL aH (aa (af 3) (aa (aq aQ (aL aH (aa (fC .ay) aj)) HZ) aj))) (aa (aL aH (aa (af 3) aj)) (aa (fC .ay) (aa (af 3) aj)))))))) (gN 5)
noncomputable def PZ:FS:=aM (aq aQ (af 5) (aL cS (aa (aL aH (aa (aq aQ (af 3) (aL aH (aa (fC (.int 99)) aj))) (aa (af 4) aj))) (aa (aL aH (aa (aq aQ (aL aH (aa (fC (.bl true)) aj)) H0) (aa (af 4) aj))) (aa (aL aH (aa (af 3) (aa (af 4) (aa (af 4) aj)))) (aa (aL aH (aa (aq aQ (aL aH (aa (vK lG (fC (.int 1))) aj)) (af 3)) (aa (af 4) aj))) aj)))))) (gN 5)
noncomputable def H_:FE:=fZ (af 1) fg (dA (af 2))
noncomputable def Ia:FE:=fZ (af 1) (dA (aq aQ (af 2) (fC (.int 1)))) fg
noncomputable def Ib (pick:Fn):FE:=aL aH (aa (av pick (aa (af 0) (aa (af 5) aj))) aj)
noncomputable def Tw (take pick:Fn):FS:=aD (aM (av take (aa (af 0) (aa (fC (.int 4)) aj))) (gN 6)) (aD (cA (aN (aq oLt (af 6) (fC (.int 2)))) (aU (aq aQ H_ Ia)) bp) (aD (cA (aN (aq oEq (af 6) (fC (.int 2)))) (aU (aq aQ (af 1) (Ib pick))) bp) (aU (aq aQ (aq aQ H_ (Ib pick)) Ia))))
noncomputable def xR (take pick:Fn):FS:=aD (Tv take) (aD PU (aD PX (aD PY (aD PZ (Tw take pick)))))
theorem oZ (h:x∈cutD xs lo hi):x∈xs:=adf (abH h)
theorem lj (xs:List D)(lo hi:Option Int):(cutD xs lo hi).length<=xs.length:=by
 unfold cutD
 rw[ab3,adp]
 omega
theorem P0 (hl:dn.length<=9):∃rv,sA (.tup dn) none none (some (-1)) g=some (.tup rv,g)/\(∀x∈rv,x∈dn)/\rv.length<=9:=by
 have b:(bu dn.length none none (-1)).2<=9:=by
   simp only[bu,abT,aca]
   simp
   omega
 have c:az (bu dn.length none none (-1)).2=true:=aF (by omega)
 refine⟨fz dn (bu dn.length none none (-1)).1 (bu dn.length none none (-1)).2 (-1),?_,λx a=>?_,abt (nA _ _ _ _) b⟩
 . simp only[sA,c]
   rfl
 . unfold fz at a
   obtain⟨k,_,e⟩:=acw.mp a
   exact aa6 e
noncomputable abbrev V7 (n:Nat)(ds:List D)(k:Nat)(dn st:List D)(c5 c6:Option D):Sg:=[some (.ref n),some (.tup ds),some (.int k),some (.tup dn),some (.tup st),c5,c6]
theorem Ry (wX:∀x∈dn,∃i:Int,x = .int i)(jT:dn.length<=9)(Na:st.length<=100)(ck:∀x∈st,isVal 3 x=true):∃l1 l2 au:List D,au ≠ []/\au.length<1000/\(∀d∈au,fR d)/\PX (V7 n ds k dn st none none) g=some (.nx,V7 n ds k dn st (some (.lst l1)) none,g)/\PY (V7 n ds k dn st (some (.lst l1)) none) g=some (.nx,V7 n ds k dn st (some (.lst l2)) none,g)/\PZ (V7 n ds k dn st (some (.lst l2)) none) g=some (.nx,V7 n ds k dn st (some (.lst au)) none,g):=by
 obtain⟨c,z,r1,j⟩:=P0 (g:=g) jT
 have ok:=Ku wX jT ck r1 j (d1:=cutD dn (some 1) none) (λx e=>oZ e) (abt (lj _ _ _) jT) (s1:=cutD st (some 1) none) (λx e=>oZ e)
 have z1:=lj dn (some 1) none
 have z2:=lj st (some 1) none
 have v:eK (.tup dn) (some 1) none g=some (.tup (cutD dn (some 1) none),g):=rfl
 have q2:eK (.tup st) (some 1) none g=some (.tup (cutD st (some 1) none),g):=rfl
 generalize cutD dn (some 1) none=d1 at *
 generalize cutD st (some 1) none=s1 at *
 have o:∀b a,PV (V7 n ds k dn st b a) g=some (.tup c,g):=λb a=>by simp[PV,lG,z]
 have s:∀b a,HZ (V7 n ds k dn st b a) g=some (.tup s1,g):=λb a=>by simp only[HZ,oD,cJ,lK,lJ,oz,abg,abb,aax,q2]
 have h:∀b a,H0 (V7 n ds k dn st b a) g=some (.tup d1,g):=λb a=>by simp only[H0,oD,cJ,lK,lJ,oz,abg,abb,aax,v]
 have f:az (dn.length+1)=true:=aF (by omega)
 have y2:az (st.length+1)=true:=aF (by omega)
 have y:az dn.length=true:=aF (by omega)
 have q:az st.length=true:=aF (by omega)
 have y5:az (1+s1.length)=true:=aF (by omega)
 have l:az (1+d1.length)=true:=aF (by omega)
 have p:az (1+dn.length)=true:=aF (by omega)
 have u:az 11=true:=by decide
 have r:az 15=true:=by decide
 refine⟨[.tup [.tup c,.tup st],.tup [.tup (dn ++ [.int 0]),.tup st],.tup [.tup dn,.tup (st ++ [.int 0])],.tup [.tup dn,.lst st],.tup [.lst dn,.tup st]],[.tup [.tup c,.tup st],.tup [.tup (dn ++ [.int 0]),.tup st],.tup [.tup dn,.tup (st ++ [.int 0])],.tup [.tup dn,.lst st],.tup [.lst dn,.tup st]] ++ [.tup [.tup dn,.tup (.int 9::s1)],.tup [.tup d1,.tup st],.tup [.tup dn,.tup (.ay::s1)],.tup [.tup dn],.ay,.tup dn],tx dn st c d1 s1,by simp[tx],by simp[tx],ok,?_,?_,?_⟩
 . simp[PX,o,f,y2,y,q,iV,bD]
 . simp[PY,s,h,y5,u,fw,aQ]
 . simp[PZ,h,f,l,p,r,fw,aQ,lG,tx]
theorem Dw:∀x∈kD ks,∃i:Int,x = .int i:=λx a=>by
 obtain⟨k,_,rfl⟩:=aaJ.mp a
 exact⟨k,rfl⟩
theorem Kv (hl:xs.length<=9)(h:Rn xs p r):fR (ao xs r):=by
 have:=mh xs.length r.1
 refine dF (λx a=>?_) (cb.tup λx a=>cb.val (h.1.2 x a)) (λst e x a=>by injection e with e;subst e;exact .inl (h.1.2 x a)) (by simp[kD];omega)
 obtain⟨i,rfl⟩:=Dw x a
 exact⟨rfl,λ_=>rfl⟩
theorem jZ {xs:List Rt}{p:Int}{rs:List aC}(hl:xs.length<=9)(h:∀r∈rs,Rn xs p r):∀d∈rs.map (ao xs),fR d:=λd hd=>by
 obtain⟨r,a,rfl⟩:=aaJ.mp hd
 exact Kv hl (h r a)
theorem VC {take pick:Fn}{n:Nat}{p B:Int}{xs:List Rt}{rs:List aC}{g:G}{Q:D×G->Prop}(ht:dy take)(hp:fO pick)(hB:B+10<2 ^ 40)(p1:p<=100)(yI:xs.length<=9)(hR:∀r∈rs,Rn xs p r)(fG:rs ≠ [])(hl:rs.length<=90000)(hd:Hd g n B)(hc:Clean g)
   (q:∀(ds:List D) g',(∀d∈ds,fR d)->ds.length<=90001->Hd g' n (B+3)->Fr n g g'->Q (.tup ds,g')):wp (aA false 7 2 (xR take pick) [.ref n,.tup (rs.map (ao xs))] g) Q:=by
 refine gM rfl ?_
 have hlen:0<rs.length:=aeZ.mpr fG
 have s:=jZ yI hR
 have fin:∀(ds:List D) (σ:Sg) g',(∀d∈ds,fR d)->ds.length<=90001->Hd g' n (B+3)->Fr n g g'->bx g.length (.tup ds)=true/\(∀x∈g'.take g.length,aX g.length x=true)/\g.length<=g'.length/\Q (.tup ds,g'.take g.length):=λds σ g' h1 o h f=>by
   have fl:=f.1
   have e:g'.take g.length=g':=abS (by omega)
   refine⟨by simpa[bx]using cF λx c=>(h1 x c).nr _,?_,by omega,?_⟩
   . rw[e];exact aaQ.mp ((hc.fr f h).all _)
   . rw[e];exact q ds g' h1 o h f
 show wp (xR take pick [some (.ref n),some (.tup (rs.map (ao xs))),none,none,none,none,none] g) _
 unfold xR
 refine ko ?_
 unfold Tv
 simp[bD]
 refine ht.w (by omega) (by omega) (by omega) hd λk g2 k0 k1 o f2=>?_
 obtain⟨kn,rfl⟩:∃kn:Nat,k=kn:=⟨k.toNat,by omega⟩
 have hk:kn<rs.length:=by omega
 obtain⟨r,hr⟩:∃r,rs[kn]? = some r:=⟨_,aay hk⟩
 have n6:=hR r (aa6 hr)
 have kT:=gv (xs:=rs.map (ao xs)) (n:=kn) (d:=ao xs r) (by simp[hr])
 have bl:=mh xs.length r.1
 have j5:(rs.map (ao xs)).length=rs.length:=aaM _
 generalize rs.map (ao xs)=ds at *
 have eB:PU [some (.ref n),some (.tup ds),some (.int kn),none,none,none,none] g2=some (.nx,V7 n ds kn (kD (aK xs.length r.1)) r.2 none none,g2):=by
   simp[PU,kT,ao]
 obtain⟨l1,l2,au,i1,i2,i3,eC,eD,eE⟩:=Ry (n:=n) (ds:=ds) (k:=kn) (g:=g2) (dn:=kD (aK xs.length r.1)) (st:=r.2) Dw (by simp[kD];omega) (by have:=n6.1.1;omega) n6.1.2
 generalize kD (aK xs.length r.1)=dn at *
 dsimp only
 simp only[eB,b_,eC,aax,eD,eE]
 unfold Tw
 simp
 refine ht.w (by omega) (by decide) (by decide) o λw g3 w0 w1 h f3=>?_
 have z:=f2.trans f3
 have q1:∀g:G,eK (.tup ds) none (some (kn:Int)) g=some (.tup (cutD ds none (some (kn:Int))),g):=λ_=>rfl
 have q2:∀g:G,eK (.tup ds) (some ((kn:Int)+1)) none g=some (.tup (cutD ds (some ((kn:Int)+1)) none),g):=λ_=>rfl
 have c1:=lj ds none (some (kn:Int))
 have c2:=lj ds (some ((kn:Int)+1)) none
 have c3:(cutD ds none (some (kn:Int))).length+(cutD ds (some ((kn:Int)+1)) none).length<=90000:=by
   unfold cutD
   rw[qV (show kn<=ds.length by omega),HT.jC,HT.jC,show((kn:Int)+1)=((kn+1:Nat):Int) by omega,pX (show kn<ds.length by omega)]
   simp
   omega
 have m1:∀x∈cutD ds none (some (kn:Int)),fR x:=λx c=>s x (oZ c)
 have m2:∀x∈cutD ds (some ((kn:Int)+1)) none,fR x:=λx c=>s x (oZ c)
 generalize cutD ds none (some (kn:Int))=j at *
 generalize cutD ds (some ((kn:Int)+1)) none=L2 at *
 have sz:∀k:Nat,k<=200000->az k=true:=λk hk=>by unfold az;exact decide_eq_true (by omega)
 have eL:∀i g,H_ (V7 n ds kn dn r.2 (some (.lst au)) i) g=some (.tup j,g):=λi g=>by simp only[H_,oD,cJ,lK,oz,abg,abb,aax,q1]
 have v:∀i g,Ia (V7 n ds kn dn r.2 (some (.lst au)) i) g=some (.tup L2,g):=λi g=>by
   have a1:aQ (.int (kn:Int)) (.int 1) g=some (.int ((kn:Int)+1),g):=rfl
   simp only[Ia,oD,cJ,lK,oz,jK,lJ,abg,abb,aax,a1,q2]
 have ap:∀{a b:List D},(∀x∈a,fR x)->(∀x∈b,fR x)->∀x∈a++b,fR x:=λha hb x c=>by
   rcases aaE.mp c with c|c
   . exact ha x c
   . exact hb x c
 have one:∀d∈au,∀x ∈ [d],fR x:=λd hd x c=>by simp at c;subst c;exact i3 _ hd
 by_cases hw:w<2
 . simp[hw,eL,v,sz (j.length+L2.length) (by omega)]
   exact fin _ [] g3 (ap m1 m2) (by simp;omega) (h.mono (by omega)) z
 . simp[hw]
   by_cases zk:w=2
   . simp[zk,Ib]
     refine hp.w (by omega) i1 i2 h λd y u l f4=>?_
     simp[sz (ds.length+1) (by omega)]
     exact fin _ [] y (ap s (one d u)) (by simp;omega) (l.mono (by omega)) (z.trans f4)
   . simp[zk,eL,v,Ib]
     refine hp.w (by omega) i1 i2 h λd y u l f4=>?_
     simp[sz (j.length+1) (by omega),sz (j.length+1+L2.length) (by omega),v]
     have:=fin _ [] y (ap (ap m1 (one d u)) m2) (by simp;omega) (l.mono (by omega)) (z.trans f4)
     simpa using this
end Sd
namespace K50
open PySem PySem.Spec PyProof.Rows L2 L3 RI Pd Od Sd
noncomputable def Tx (T:Nat->Fn):FS:=aM (av (T 22) (aa (af 0) (aa (af 1) aj))) (gN 2)
noncomputable def Tz (T:Nat->Fn):FS:=aM (aq aQ (fC (.int 1)) (av (T 23) (aa (af 2) (aa (fC (.int 4)) aj)))) (gN 3)
noncomputable def TB (T:Nat->Fn):FS:=aM (av (T 28) (aa (af 2) (aa (af 3) (aa (aq aI (av (T 27) (aa (af 3) (aa (av (T 26) (aa (af 2) (aa (af 3) (aa (aq aI (aL cS (aa (fC (.int 6)) (aa (fC (.int 6)) (aa (fC (.int 6)) (aa (fC (.int 9)) aj))))) (av (T 23) (aa (af 2) (aa (fC (.int 4)) aj)))) aj)))) aj))) (fC (.int 0))) aj)))) (gN 4)
noncomputable def Ic (T:Nat->Fn):FS:=aM (av (T 34) (aa (af 2) (aa (af 3) (aa (af 4) aj)))) (gN 5)
noncomputable def nJ (T:Nat->Fn):FS:=aM (aL mkRef (aa (af 5) (aa (av fJ (aa (av (T 30) (aa (af 3) (aa (af 4) aj))) aj)) (aa (av iV (aa (af 5) aj)) (aa (aL aH aj) (aa (fC .ay) (aa (fC (.bl true)) (aa (fC (.int 0)) (aa (fC (.str "")) (aa (aL cS aj) (aa (aL aH (aa (aL aH aj) aj)) (aa (aL aH (aa (aL aH (aa (aL aH aj) (aa (aL aH aj) aj))) aj)) aj)))))))))))) (gN 6)
noncomputable def Dx:FS:=fu (dw isRef cV (af 6) (aa (aL aH (aa (fC (.str "none")) (aa (af 5) aj))) aj))
noncomputable def TC (T:Nat->Fn):FS:=fu (dw isRef cV (af 6) (aa (av (T 35) (aa (af 2) (aa (af 5) aj))) aj))
noncomputable def Dy (T:Nat->Fn):FS:=e_ (m8 (aa (fC (.int 6)) aj)) (gN 7) (TC T)
noncomputable def Ie (T:Nat->Fn):FS:=aD (aM (av (T 17) (aa (af 3) (aa (af 4) (aa (af 8) aj)))) (gN 9)) (cA (kI (dq (cK (fK .bool (af 9)))) (aN (aq sC (af 9) (av (T 33) (aa (af 3) (aa (af 4) (aa (af 8) aj))))))) (aU (fC (.bl false))) bp)
noncomputable def Dz (T:Nat->Fn):FS:=e_ (cv (aq aQ (af 6) (aL cS (aa (af 5) aj)))) (gN 8) (Ie T)
noncomputable def iter (T:Nat->Fn):FS:=aD (Tx T) (aD (Tz T) (aD (TB T) (aD (Ic T) (aD (nJ T) (aD Dx (aD (Dy T) (Dz T)))))))
noncomputable def Ig (T:Nat->Fn):FS:=aD (e_ (m8 (aa (av v7 (aa (fC (.int 1)) (aa (av v9 (aa (fC (.int 3)) (aa (av cZ (aa (af 0) aj)) aj))) aj))) aj)) (gN 1) (iter T)) (aU (fC (.bl true)))
noncomputable def ZH (T:Nat->Fn):FS:=w9
noncomputable def ZI (T:Nat->Fn):FS:=oK (T 0)
noncomputable def ZJ (T:Nat->Fn):FS:=qa (T 1)
noncomputable def ZK (T:Nat->Fn):FS:=tupleOfB
noncomputable def ZL (T:Nat->Fn):FS:=n9 (T 0) (T 3) (aU (av fL (aa (bQ bU (cv cj) [none,none,none] (gT 2 (aw (gN 1) (aw (gN 2) aV))) aO (av (T 4) (aa (af 1) (aa (af 2) aj)))) aj)))
noncomputable def ZM (T:Nat->Fn):FS:=sW
noncomputable def ZN (T:Nat->Fn):FS:=EZ (T 7)
noncomputable def ZO (T:Nat->Fn):FS:=w_ (T 2) (T 3) (T 7)
noncomputable def ZP (T:Nat->Fn):FS:=kX (T 3) (T 6)
noncomputable def ZQ (T:Nat->Fn):FS:=sR
noncomputable def VD (T:Nat->Fn):FS:=nZ
noncomputable def VE (T:Nat->Fn):FS:=ql (T 10)
noncomputable def VF (T:Nat->Fn):FS:=n5 (T 9) (T 10)
noncomputable def VG (T:Nat->Fn):FS:=kZ (T 14) (T 15)
noncomputable def VH (T:Nat->Fn):FS:=rQ
noncomputable def VI (T:Nat->Fn):FS:=l_
noncomputable def VJ (T:Nat->Fn):FS:=AR (T 1)
noncomputable def VL (T:Nat->Fn):FS:=mf (T 10) (T 5) (T 19) (T 18)
noncomputable def VM (T:Nat->Fn):FS:=u7 (T 12) (T 11) (T 13)
noncomputable def VN (T:Nat->Fn):FS:=jX (T 3) (T 20) (T 21)
noncomputable def VO (T:Nat->Fn):FS:=jr (T 3) (T 16)
noncomputable def VP (T:Nat->Fn):FS:=oV (T 3) (T 6) (tv (T 4))
noncomputable def VQ (T:Nat->Fn):FS:=uZ
noncomputable def VR (T:Nat->Fn):FS:=u3
noncomputable def VS (T:Nat->Fn):FS:=AL (T 23)
noncomputable def VT (T:Nat->Fn):FS:=xk (T 24)
noncomputable def VU (T:Nat->Fn):FS:=rK (T 23) (T 24) (T 25)
noncomputable def VV (T:Nat->Fn):FS:=rM
noncomputable def VW (T:Nat->Fn):FS:=rT (T 23) (T 24) (T 25)
noncomputable def VX (T:Nat->Fn):FS:=xH
noncomputable def VY (T:Nat->Fn):FS:=xQ (T 29)
noncomputable def VZ (T:Nat->Fn):FS:=sX
noncomputable def V0 (T:Nat->Fn):FS:=oh (T 8)
noncomputable def V1 (T:Nat->Fn):FS:=jY (T 32) (T 31) (T 29)
noncomputable def V2 (T:Nat->Fn):FS:=rX (T 23) (T 25) (T 29)
noncomputable def V3 (T:Nat->Fn):FS:=xR (T 23) (T 24)
noncomputable def P2 (T:Nat->Fn):FS:=Ig T
noncomputable def tab:Nat->Nat->Fn
 | 0,_=>λ_ _=>none
 |k+1,0=>(aA false 1 1 (ZH (tab k)))
 |k+1,1=>(aA false 3 3 (ZI (tab k)))
 |k+1,2=>(aA false 2 2 (ZJ (tab k)))
 |k+1,3=>(aA false 3 3 (ZK (tab k)))
 |k+1,4=>(aA false 2 2 (ZL (tab k)))
 |k+1,5=>(aA false 1 1 (ZM (tab k)))
 |k+1,6=>(aA false 1 1 (ZN (tab k)))
 |k+1,7=>(aA false 2 2 (ZO (tab k)))
 |k+1,8=>(aA false 2 2 (ZP (tab k)))
 |k+1,9=>(aA false 2 2 (ZQ (tab k)))
 |k+1,10=>(aA false 1 1 (VD (tab k)))
 |k+1,11=>(aA false 1 1 (VE (tab k)))
 |k+1,12=>(aA false 5 1 (VF (tab k)))
 |k+1,13=>(aA false 8 3 (VG (tab k)))
 |k+1,14=>(aA false 2 2 (VH (tab k)))
 |k+1,15=>(aA false 3 2 (VI (tab k)))
 |k+1,16=>(aA false 2 2 (VJ (tab k)))
 |k+1,17=>(aA false 6 3 (VL (tab k)))
 |k+1,18=>(aA false 6 2 (VM (tab k)))
 |k+1,19=>(aA false 4 4 (VN (tab k)))
 |k+1,20=>(aA false 2 2 (VO (tab k)))
 |k+1,21=>(aA false 3 3 (VP (tab k)))
 |k+1,22=>(aA true 3 2 (VQ (tab k)))
 |k+1,23=>(aA false 6 2 (VR (tab k)))
 |k+1,24=>(aA false 2 2 (VS (tab k)))
 |k+1,25=>(aA false 1 1 (VT (tab k)))
 |k+1,26=>(aA false 13 3 (VU (tab k)))
 |k+1,27=>(aA false 12 2 (VV (tab k)))
 |k+1,28=>(aA false 14 3 (VW (tab k)))
 |k+1,29=>(aA false 7 3 (VX (tab k)))
 |k+1,30=>(aA false 6 2 (VY (tab k)))
 |k+1,31=>(aA false 2 2 (VZ (tab k)))
 |k+1,32=>(aA false 4 3 (V0 (tab k)))
 |k+1,33=>(aA false 6 3 (V1 (tab k)))
 |k+1,34=>(aA false 8 3 (V2 (tab k)))
 |k+1,35=>(aA false 7 2 (V3 (tab k)))
 |k+1,36=>(aA false 10 1 (P2 (tab k)))
 |_+1,_=>λ_ _=>none
end K50
namespace K50
open PySem PySem.Spec PyProof.Rows L2 L3 RI
theorem ZR (k:Nat):tab (k+1) 0=NX.run mo (tab k) k:=by kernel_rfl
theorem ZS (k:Nat):tab (k+1) 1=NY.run mo (tab k) k:=by kernel_rfl
theorem ZT (k:Nat):tab (k+1) 2=NZ.run mo (tab k) k:=by kernel_rfl
theorem ZU (k:Nat):tab (k+1) 3=N0.run mo (tab k) k:=by kernel_rfl
theorem ZV (k:Nat):tab (k+1) 4=N1.run mo (tab k) k:=by kernel_rfl
theorem ZW (k:Nat):tab (k+1) 5=N2.run mo (tab k) k:=by kernel_rfl
theorem ZX (k:Nat):tab (k+1) 6=N3.run mo (tab k) k:=by kernel_rfl
theorem ZY (k:Nat):tab (k+1) 7=N4.run mo (tab k) k:=by kernel_rfl
theorem ZZ (k:Nat):tab (k+1) 8=N5.run mo (tab k) k:=by kernel_rfl
theorem Z0 (k:Nat):tab (k+1) 9=N6.run mo (tab k) k:=by kernel_rfl
theorem V4 (k:Nat):tab (k+1) 10=GW.run mo (tab k) k:=by kernel_rfl
theorem V5 (k:Nat):tab (k+1) 11=GX.run mo (tab k) k:=by kernel_rfl
theorem V6 (k:Nat):tab (k+1) 12=GY.run mo (tab k) k:=by kernel_rfl
theorem V8 (k:Nat):tab (k+1) 13=GZ.run mo (tab k) k:=by kernel_rfl
theorem V9 (k:Nat):tab (k+1) 14=G_.run mo (tab k) k:=by kernel_rfl
theorem V_ (k:Nat):tab (k+1) 15=Ha.run mo (tab k) k:=by kernel_rfl
theorem Wa (k:Nat):tab (k+1) 16=Hb.run mo (tab k) k:=by kernel_rfl
theorem Wb (k:Nat):tab (k+1) 17=Hc.run mo (tab k) k:=by kernel_rfl
theorem Wc (k:Nat):tab (k+1) 18=He.run mo (tab k) k:=by kernel_rfl
theorem Wd (k:Nat):tab (k+1) 19=Hf.run mo (tab k) k:=by kernel_rfl
theorem We (k:Nat):tab (k+1) 20=Hg.run mo (tab k) k:=by kernel_rfl
theorem Wf (k:Nat):tab (k+1) 21=Hh.run mo (tab k) k:=by kernel_rfl
theorem Wg (k:Nat):tab (k+1) 22=Hi.run mo (tab k) k:=by kernel_rfl
theorem Wh (k:Nat):tab (k+1) 23=Hj.run mo (tab k) k:=by kernel_rfl
theorem Wi (k:Nat):tab (k+1) 24=Hk.run mo (tab k) k:=by kernel_rfl
theorem Wj (k:Nat):tab (k+1) 25=Hl.run mo (tab k) k:=by kernel_rfl
theorem Wk (k:Nat):tab (k+1) 26=Hm.run mo (tab k) k:=by kernel_rfl
theorem Wl (k:Nat):tab (k+1) 27=Hn.run mo (tab k) k:=by kernel_rfl
theorem Wm (k:Nat):tab (k+1) 28=Ho.run mo (tab k) k:=by kernel_rfl
theorem Wn (k:Nat):tab (k+1) 29=Hq.run mo (tab k) k:=by kernel_rfl
theorem Wo (k:Nat):tab (k+1) 30=Hr.run mo (tab k) k:=by kernel_rfl
theorem Wq (k:Nat):tab (k+1) 31=Hs.run mo (tab k) k:=by kernel_rfl
theorem Wr (k:Nat):tab (k+1) 32=Ht.run mo (tab k) k:=by kernel_rfl
theorem Ws (k:Nat):tab (k+1) 33=Hu.run mo (tab k) k:=by kernel_rfl
theorem Wt (k:Nat):tab (k+1) 34=Hv.run mo (tab k) k:=by kernel_rfl
theorem Wu (k:Nat):tab (k+1) 35=Hw.run mo (tab k) k:=by kernel_rfl
theorem Wv (k:Nat):tab (k+1) 36=Hx.run mo (tab k) k:=by kernel_rfl
theorem good:Good mo tab:=⟨λ_ _ _=>rfl,λk j d h=>by
 match j,h with
 | 0,h=>cases h;exact ZR k
 | 1,h=>cases h;exact ZS k
 | 2,h=>cases h;exact ZT k
 | 3,h=>cases h;exact ZU k
 | 4,h=>cases h;exact ZV k
 | 5,h=>cases h;exact ZW k
 | 6,h=>cases h;exact ZX k
 | 7,h=>cases h;exact ZY k
 | 8,h=>cases h;exact ZZ k
 | 9,h=>cases h;exact Z0 k
 | 10,h=>cases h;exact V4 k
 | 11,h=>cases h;exact V5 k
 | 12,h=>cases h;exact V6 k
 | 13,h=>cases h;exact V8 k
 | 14,h=>cases h;exact V9 k
 | 15,h=>cases h;exact V_ k
 | 16,h=>cases h;exact Wa k
 | 17,h=>cases h;exact Wb k
 | 18,h=>cases h;exact Wc k
 | 19,h=>cases h;exact Wd k
 | 20,h=>cases h;exact We k
 | 21,h=>cases h;exact Wf k
 | 22,h=>cases h;exact Wg k
 | 23,h=>cases h;exact Wh k
 | 24,h=>cases h;exact Wi k
 | 25,h=>cases h;exact Wj k
 | 26,h=>cases h;exact Wk k
 | 27,h=>cases h;exact Wl k
 | 28,h=>cases h;exact Wm k
 | 29,h=>cases h;exact Wn k
 | 30,h=>cases h;exact Wo k
 | 31,h=>cases h;exact Wq k
 | 32,h=>cases h;exact Wr k
 | 33,h=>cases h;exact Ws k
 | 34,h=>cases h;exact Wt k
 | 35,h=>cases h;exact Wu k
 | 36,h=>cases h;exact Wv k
 |j+37,h=>exact absurd h (by simp[mo,ds]),λd hd=>CD (show zj ds=true by decide +kernel) d hd⟩
end K50
namespace K50
open PySem L3 L2 Pd Od Sd RI
theorem TF (k:Nat):oM (tab (k+1) 0):=E2
theorem P4 (k:Nat):lX (tab (k+2) 1):=CT (TF k)
theorem TH (k:Nat):iQ (tab (k+3) 2):=AM (P4 k)
theorem tE (k:Nat):dM (tab (k+1) 3):=AN
theorem Ww (k:Nat):A0 (tab (k+2) 4):=Fw (TF k) (tE k)
theorem P5 (k:Nat):∀n,xa (tab (k+4+n) 7) n
 | 0=>N7 (TH k)
 |n+1=>N8 (show iQ (tab (k+4+n) 2) by rw[show k+4+n=(k+1+n)+3 by omega];exact TH _) (show dM (tab (k+4+n) 3) by rw[show k+4+n=(k+3+n)+1 by omega];exact tE _) (P5 k n)
theorem TJ (k:Nat):u4 (tab (k+8) 6):=N9 (P5 k 3)
theorem Wx (k:Nat)(h1:p<=100):sV p (tab (k+9) 8):=E4 h1 (tE (k+7)) (TJ k)
theorem Z1 (k:Nat)(h0:0<=p)(h1:p<=100):sY p (tab (k+1) 5):=Fj h0 h1
theorem Wy (k:Nat)(p:Int):kY p (tab (k+1) 9):=E5
theorem P6 (k:Nat):n0 (tab (k+1) 10):=Kj
theorem Wz (k:Nat):oW (tab (k+1) 10):=Fu
theorem WA (k:Nat):AX (tab (k+2) 11):=OF (P6 k)
theorem WB (k:Nat)(p:Int):xB p (tab (k+2) 12):=Kl (Wy k p) (P6 k)
theorem WC (k:Nat)(p:Int):nV p (tab (k+1) 14):=Kc
theorem WD (k:Nat)(h1:p<=100):ma p (tab (k+1) 15):=CV h1
theorem WE (k:Nat)(h1:p<=100):oS p (tab (k+2) 13):=Ft (WC k p) (WD k h1)
theorem WG (k:Nat):AU (tab (k+3) 16):=Oq (P4 k)
theorem WH (k:Nat):Fy (tab (k+4) 20):=Kq (tE (k+2)) (WG k)
theorem WI (k:Nat)(h1:p<=100):Fx p (tab (k+9) 21):=Kp h1 (tE (k+7)) (TJ k) (Ww (k+6))
theorem WJ (k:Nat)(h1:p<=100):A3 p (tab (k+10) 19):=Fz (tE (k+8)) (WH (k+5)) (WI k h1)
theorem WK (k:Nat)(h1:p<=100)(xs:List Rt)(hx:∀x∈xs,bG p x)(hn:xs.length<=100):AZ xs p (tab (k+3) 18):=OS hx hn (WB k p) (WA k) (WE k h1)
theorem WL (k:Nat)(h0:0<=p)(h1:p<=100):Td p (tab (k+11) 17):=Pf h0 (Wz (k+9)) (Z1 (k+9) h0 h1) (WJ k h1) (λxs b a=>WK (k+7) h1 xs b a)
theorem Z2 (k:Nat):rG (tab (k+1) 22):=J4
theorem xS (k:Nat):dy (tab (k+1) 23):=J2
theorem Ih (k:Nat):fO (tab (k+2) 24):=J3 (xS k)
theorem FJ (k:Nat):eh (tab (k+3) 25):=J7 (Ih k)
theorem TK (k:Nat):tab (k+4) 26=aA false 13 3 (rK (tab (k+3) 23) (tab (k+3) 24) (tab (k+3) 25)):=rfl
theorem TM (k:Nat):tab (k+1) 27=aA false 12 2 rM:=rfl
theorem TN (k:Nat):tab (k+4) 28=aA false 14 3 (rT (tab (k+3) 23) (tab (k+3) 24) (tab (k+3) 25)):=rfl
theorem FK (k:Nat)(h1:p<=100):n_ p (tab (k+1) 29):=Ro h1
theorem WM (k:Nat)(h0:0<=p)(h1:p<=100):Pz p (tab (k+2) 30):=all_gen h0 h1 (FK k h1)
theorem WN (k:Nat)(p:Int):s_ p (tab (k+1) 31):=Fl
theorem WO (k:Nat)(h1:p<=100):A5 p (tab (k+10) 32):=FF (Wx k h1)
theorem WQ (k:Nat)(h0:0<=p)(h1:p<=100):Di p (tab (k+11) 33):=Dj h0 h1 (WO k h1) (WN (k+9) p) (FK (k+9) h1)
theorem TQ (k:Nat):tab (k+4) 34=aA false 8 3 (rX (tab (k+3) 23) (tab (k+3) 25) (tab (k+3) 29)):=rfl
theorem TR (k:Nat):tab (k+3) 35=aA false 7 2 (xR (tab (k+2) 23) (tab (k+2) 24)):=rfl
structure xU (d:D):Prop where
 nf:nf d=true
 tp:∀ds,d = .tup ds->ds.length<=900000 /\ ∀e∈ds,zy e
 nr:∀n,bx n d=true
theorem iS {ds:List D}(h:∀d∈ds,fR d)(hl:ds.length<=900000):xU (.tup ds):=
 have b:cb (.tup ds):=cb.tup λx a=>⟨(h x a).el.nf,(h x a).nr⟩
 ⟨b.nf,λc e=>by injection e with e;subst e;exact⟨hl,λx a=>(h x a).el⟩,b.nr⟩
theorem lq (hp:cb d)(h:∀ds,d ≠ .tup ds):xU d:=⟨hp.nf,λds e=>absurd e (h ds),hp.nr⟩
noncomputable abbrev Sk (c0 c1:Option D)(n:Nat)(p:Int)(xs:List Rt)(c5 c6 c7 c8 c9:Option D):Sg:=[c0,c1,some (.ref n),some (.int p),some (.tup (xs.map rt)),c5,c6,c7,c8,c9]
theorem DB (p0:0<=p)(p1:p<=100)(hx:∀x∈xs,bG p x)(hl:xs.length<=50)(hc:Clean g):∀(ds:List D) (c8 c9:Option D),(∀d∈ds,xU d) ->
  ∃P7 P8,forL (gN 8) (Ie (tab (k+11))) ds (Sk c0 c1 n p xs c5 c6 c7 c8 c9) g=some (.nx,Sk c0 c1 n p xs c5 c6 c7 P7 P8,g)
 | [],c8,c9,_=>⟨c8,c9,by simp[forL]⟩
 |d::ds,c8,c9,h=>by
  have hd:=h d (by simp)
  have j:=WL (p:=p) k p0 p1 xs d g hx (by omega) hd.nf hd.tp hc
  have a:=WQ (p:=p) k p0 p1 xs d g hx hl hd.nf hd.tp hc
  have c:∀b:Bool,aJ (.bl b) (.bl b)=true:=λb=>by cases b<;>simp[aJ]
  have i:∀b:Bool,flat (.bl b)=true/\dep (.bl b)<=60:=λb=>by cases b<;>simp[flat,dep]
  have bd:Ie (tab (k+11)) (Sk c0 c1 n p xs c5 c6 c7 (some d) c9) g=some (.nx,Sk c0 c1 n p xs c5 c6 c7 (some d) (some (.bl (gz xs p d))),g):=by
   unfold Ie
   generalize gz xs p d=b at *
   simp[j,a,cG,isFn,c,i]
  obtain⟨P7,P8,ih⟩:=DB (k:=k) p0 p1 hx hl hc ds (some d) (some (.bl (gz xs p d))) (λe he=>h e (by simp[he]))
  refine⟨P7,P8,?_⟩
  rw[<- ih]
  have f:gN 8 d (Sk c0 c1 n p xs c5 c6 c7 c8 c9) g=some (Sk c0 c1 n p xs c5 c6 c7 (some d) c9,g):=by simp
  simp only[forL,f,aax,bd]
theorem DC (m:cq g gg n B [ts])(hc:Clean g)(h:∀d∈ts,xU d):Clean gg:=by
 obtain⟨c,f1⟩:=m.fin
 rw[Du m]
 intro b a k
 rcases aaE.mp a with a|a
 . exact hc.fr f1 c b a k
 . simp at a
   subst a
   exact cF λd hd=>(h d hd).nr k
def TU (c0 c1:Option D)(n:Nat)(p:Int)(xs:List Rt)(ds:List D)(B:Int)(g:G)(i:Nat)(σ:Sg)(gg:G):Prop:=i<=6->∃ts c7 c8 c9,σ=Sk c0 c1 n p xs (some (.tup ds)) (some (.ref g.length)) c7 c8 c9/\ts.length=12+i/\(∀d∈ts,xU d)/\cq g gg n (B+3*i) [ts]
theorem FL {xs:List Rt}{p:Int}{rs:List aC}(hl:xs.length<=9)(h:∀r∈rs,Rn xs p r):fR (.tup (rs.map (ao xs))):=by
 have c:cb (.tup (rs.map (ao xs))):=cb.tup λx f=>⟨(jZ hl h x f).el.nf,(jZ hl h x f).nr⟩
 refine⟨⟨c.nf,λa b e=>?_,λa b e=>.inr λn=>?_⟩,c.nr⟩<;>injection e with e<;>cases rs with
 |nil=>cases e
 |cons r rs =>
  rw[aaX]at e
  injection e with e1 _
  unfold ao at e1
  first
   | (injection e1 with e1;rw[<- e1];simp)
   | (rw[<- e1];simp[gh,jW,within])
set_option maxHeartbeats 4000000 in
theorem P9 {c0 c1 c5 c6 c7 c8 c9:Option D}{n k:Nat}{p B:Int}{xs:List Rt}{g:G}{Q:F×Sg×G->Prop}(p0:0<=p)(p1:p<=100)(hx:∀x∈xs,bG p x)(hl:xs.length<=9)(hB:B+1000<2 ^ 40)(hd:Hd g n B)(hc:Clean g)
  (q:∀c5 c6 c7 c8 c9 g',Clean g'->Q (.nx,Sk c0 c1 n p xs c5 c6 c7 c8 c9,g')):
  wp (aD (Ic (tab (k+11))) (aD (nJ (tab (k+11))) (aD Dx (aD (Dy (tab (k+11))) (Dz (tab (k+11)))))) (Sk c0 c1 n p xs c5 c6 c7 c8 c9) g) Q:=by
 refine ko ?_
 unfold Ic
 simp
 rw[TQ (k+7)]
 refine PN (xS (k+9)) (FJ (k+7)) (FK (k+9) p1) (by omega) p0 p1 hx hl hd hc λrs g2 hR fG GR h2 f2=>?_
 have gV:=hc.fr f2 h2
 obtain⟨W,eW,hW,PQ⟩:=WM (p:=p) (k+9) p0 p1 xs g2 hx hl gV
 have sz:∀k:Nat,k<=200000->az k=true:=λk hk=>by unfold az;exact decide_eq_true (by omega)
 have y1:=sz W.length (by omega)
 have y2:=sz rs.length (by omega)
 have v:=jZ hl hR
 have WR:=jZ hl hW
 have WS:=FL hl hR
 have jT:(rs.map (ao xs)).length=rs.length:=aaM _
 have WT:(W.map (ao xs)).length=W.length:=aaM _
 have hit:∀T:List D,T = [.tup (rs.map (ao xs)),.tup (W.map (ao xs)),.lst (rs.map (ao xs)),.tup [],.ay,.bl true,.int 0,.str "",.lst [],.tup [.tup []],.tup [.tup [.tup [],.tup []]]]->∀d∈T,xU d:=λT e=>by
  subst e
  have pn:∀{d:D},cb d->(∀a b,d ≠ .tup [.tup a,b])->(∀a b,d ≠ .tup [a,.tup b])->∀e ∈ [d],fR e:=λhp h h' e he=>by simp at he;subst he;exact lh hp h h'
  simp only[agC]
  refine⟨iS v (by omega),iS WR (by omega),lq (cb.lst λx hx=>⟨(v x hx).el.nf,(v x hx).nr⟩) (λ_ e=>by cases e),iS (by simp) (by simp),lq ⟨rfl,λ_=>rfl⟩ (λ_ e=>by cases e),lq ⟨rfl,λ_=>rfl⟩ (λ_ e=>by cases e),lq ⟨rfl,λ_=>rfl⟩ (λ_ e=>by cases e),lq ⟨rfl,λ_=>rfl⟩ (λ_ e=>by cases e),lq ⟨rfl,λ_=>rfl⟩ (λ_ e=>by cases e),iS (pn ⟨rfl,λ_=>rfl⟩ (λ_ _ e=>by cases e) (λ_ _ e=>by cases e)) (by simp),iS (λe he=>?_) (by simp),λx hx=>by cases hx⟩
  simp at he
  subst he
  exact dF (by simp) ⟨rfl,λ_=>rfl⟩ (λst e x hx=>by injection e with e;subst e;cases hx) (by simp)
 have eE:nJ (tab (k+11)) (Sk c0 c1 n p xs (some (.tup (rs.map (ao xs)))) c6 c7 c8 c9) g2=some (.nx,Sk c0 c1 n p xs (some (.tup (rs.map (ao xs)))) (some (.ref g2.length)) c7 c8 c9,g2 ++ [[.tup (rs.map (ao xs)),.tup (W.map (ao xs)),.lst (rs.map (ao xs)),.tup [],.ay,.bl true,.int 0,.str "",.lst [],.tup [.tup []],.tup [.tup [.tup [],.tup []]]]]):=by
  unfold nJ
  rw[<- jT]at y2
  rw[<- WT]at y1
  generalize rs.map (ao xs)=ds at *
  generalize W.map (ao xs)=ws at *
  simp[eW,fJ,iV,bD,y1,y2]
 have lL:=hit _ rfl
 have ae:=hR
 generalize hI:([.tup (rs.map (ao xs)),.tup (W.map (ao xs)),.lst (rs.map (ao xs)),.tup [],.ay,.bl true,.int 0,.str "",.lst [],.tup [.tup []],.tup [.tup [.tup [],.tup []]]]:List D)=ts at *
 have TV:ts.length=11:=by rw[<- hI];rfl
 clear hit
 simp only[eE,b_]
 have y:=(cq.none h2).push ts
 simp only[acH]at y
 have a1:=y.a0
 have Z3:=sz 12 (by omega)
 have ft:∀d∈ts ++ [.tup [.str "none",.tup (rs.map (ao xs))]],xU d:=λd hd=>by
  rcases aaE.mp hd with hd|hd
  . exact lL d hd
  . simp at hd
    subst hd
    refine iS (λe he=>?_) (by simp)
    simp at he
    rcases he with rfl|rfl
    . exact lh ⟨rfl,λ_=>rfl⟩ (λ_ _ e=>by cases e) (λ_ _ e=>by cases e)
    . exact WS
 have eF:Dx (Sk c0 c1 n p xs (some (.tup (rs.map (ao xs)))) (some (.ref g2.length)) c7 c8 c9) (g2 ++ [ts])=some (.nx,Sk c0 c1 n p xs (some (.tup (rs.map (ao xs)))) (some (.ref g2.length)) c7 c8 c9,(g2 ++ [ts]).set g2.length (ts ++ [.tup [.str "none",.tup (rs.map (ao xs))]])):=by
  unfold Dx
  generalize rs.map (ao xs)=ds at *
  simp[a1,TV,Z3]
 have m2:=y.put 0 (ts ++ [.tup [.str "none",.tup (rs.map (ao xs))]])
 simp only[afO,afk]at m2
 generalize hU:ts ++ [.tup [.str "none",.tup (rs.map (ao xs))]]=us at *
 have ab:us.length=12:=by rw[<- hU];simp[TV]
 clear lL hI hU a1 y eE
 simp only[eF,aax,wp_bind]
 have key:wp (Dy (tab (k+11)) (Sk c0 c1 n p xs (some (.tup (rs.map (ao xs)))) (some (.ref g2.length)) c7 c8 c9) ((g2 ++ [ts]).set g2.length us)) λr=>r.1 = .nx/\TU c0 c1 n p xs (rs.map (ao xs)) (B+200) g2 6 r.2.1 r.2.2:=by
  unfold Dy
  simp only[kP,wp_bind]
  refine lY ?_
  simp only[gH,lJ,jv,aax,b_]
  refine⟨6,rfl,by decide,by decide,?_⟩
  refine ip (TU c0 c1 n p xs (rs.map (ao xs)) (B+200) g2) _ 0 _ _ (λ_=>⟨us,c7,c8,c9,rfl,by omega,ft,by simpa using m2⟩) ?_ ?_
  . rintro j d σ i hj I
    obtain⟨t7,rfl⟩:=gI hj
    have ai:j<6:=t7
    obtain⟨c,l,u,s,rfl,vl,o,m⟩:=I (by omega)
    unfold TC
    simp
    rw[TR (k+8)]
    refine VC (xS (k+9)) (Ih (k+8)) (by omega) p1 hl hR fG GR m.hd (DC m gV o) λes g4 he ah h4 f4=>?_
    have m4:=m.step h4 f4
    have a4:=m4.a0
    have z:=sz (c.length+1) (by omega)
    have m5:=m4.put 0 (c ++ [.tup es])
    simp only[afO,afk]at m5
    simp[a4,z]
    refine λ_=>⟨c ++ [.tup es],some (.int j),u,s,rfl,by simp[vl];omega,λd hd=>?_,m5.mono (by omega)⟩
    rcases aaE.mp hd with hd|hd
    . exact o d hd
    . simp at hd;subst hd;exact iS he (by omega)
  . rintro σ i I
    exact⟨rfl,I⟩
 refine wp_mono key ?_
 rintro⟨f,σ,i⟩ ⟨rfl,I⟩
 obtain⟨c,l,u,s,rfl,vl,o,m⟩:=I (by omega)
 have a4:=m.a0
 have Ii:=DC m gV o
 have z:=sz (c.length+1) (by omega)
 obtain⟨e8,e9,eA⟩:=DB (c0:=c0) (c1:=c1) (n:=n) (k:=k) (c5:=some (.tup (rs.map (ao xs)))) (c6:=some (.ref g2.length)) (c7:=l) p0 p1 hx (show xs.length<=50 by omega) Ii (c ++ [.tup (rs.map (ao xs))]) u s (λd hd=>by
  rcases aaE.mp hd with hd|hd
  . exact o d hd
  . simp at hd;subst hd;exact iS v (by omega))
 have eJ:Dz (tab (k+11)) (Sk c0 c1 n p xs (some (.tup (rs.map (ao xs)))) (some (.ref g2.length)) l u s) i=some (.nx,Sk c0 c1 n p xs (some (.tup (rs.map (ao xs)))) (some (.ref g2.length)) l e8 e9,i):=by
  unfold Dz
  have i1:cv (aq aQ (af 6) (aL cS (aa (af 5) aj))) (Sk c0 c1 n p xs (some (.tup (rs.map (ao xs)))) (some (.ref g2.length)) l u s) i=some (c ++ [.tup (rs.map (ao xs))],i):=by
    generalize rs.map (ao xs)=ds at *
    simp[cv,aQ,fw,a4,z]
  rw[kP,i1]
  exact eA
 dsimp only
 rw[eJ]
 simp only[b_]
 exact q _ _ _ _ _ _ Ii
def Z4 (ns:List Int)(i:Nat)(σ:Sg)(g:G):Prop:=(∃o1 o2 o3 o4 o5 o6 o7 o8 o9,σ = [some (.lst (ns.map .int)),o1,o2,o3,o4,o5,o6,o7,o8,o9])/\Clean g
set_option maxHeartbeats 4000000 in
theorem FN (ns:List Int)(hl:ns.length<=63):∃g',tab 60 36 [.lst (ns.map .int)] []=some (.bl true,g'):=by
 have main:wp (tab 60 36 [.lst (ns.map .int)] []) λr=>r.1 = .bl true:=by
  refine gM rfl ?_
  simp only[P2,Ig,il,wp_bind,kP]
  refine lY ?_
  simp
  refine⟨by split<;>omega,by split<;>omega,?_⟩
  refine ip (Z4 ns) _ 0 _ _ ⟨⟨_,_,_,_,_,_,_,_,_,rfl⟩,λx z=>by simp at z⟩ ?_ ?_
  . rintro j d σ g hd ⟨⟨o1,y,o3,o4,o5,o6,o7,o8,o9,rfl⟩,q⟩
    obtain⟨hj,rfl⟩:=gI hd
    have ab:j<10:=by
     revert hj;split<;>omega
    simp only[qU,b_]
    unfold iter
    generalize hT:aD (Ic (tab 59)) (aD (nJ (tab 59)) (aD Dx (aD (Dy (tab 59)) (Dz (tab 59)))))=TL
    simp[Tx,Tz,TB]
    refine(Z2 58).w (by omega) λcs p=>?_
    have xo:=q.app p
    simp
    generalize g.length=n at *
    refine(xS 58).w (by decide) (by decide) (by decide) p λr g1 r0 r1 s f1=>?_
    have gV:=xo.fr f1 s
    simp
    refine(xS 58).w (by decide) (by decide) (by decide) s λa o ae u f Z5=>?_
    have l:=gV.fr Z5 f
    obtain⟨most,hm,em⟩:∃most:Nat,most<=9/\kN (.lst [.int 6,.int 6,.int 6,.int 9]) (.int a) o=some (.int most,o):=by
     have b:a=0\/a=1\/a=2\/a=3:=by omega
     rcases b with rfl|rfl|rfl|rfl
     . exact⟨6,by omega,by simp[dz]⟩
     . exact⟨6,by omega,by simp[fP]⟩
     . exact⟨6,by omega,by simp[qc]⟩
     . exact⟨9,by omega,by simp[xb]⟩
    refine⟨_,em,?_⟩
    rw[TK 55]
    refine Oh (most:=most) (xS 57) (Ih 56) (FJ 55) (by decide) (by omega) (by omega) (by omega) f l λrws g3 R i f3=>?_
    have c:=l.fr f3 i
    simp only
    rw[TM 58]
    refine Oo (by omega) (by omega) (by omega) R c λfB uq T=>?_
    obtain⟨w1,w2,w3⟩:=Kb R T
    have hlen:=R.len
    have Z6:rws.map (qd fB)=(xu fB rws).map rt:=w1
    have Z7:∀x∈xu fB rws,bG (1+r) x:=w2
    have xl:(xu fB rws).length=rws.length:=by simp[xu]
    rw[Z6]
    generalize xu fB rws=xs at *
    simp[dz]
    rw[TN 55]
    refine OE (xS 57) (Ih 56) (FJ 55) (by decide) (by omega) (by omega) Z7 (by omega) i c λys g4 hy Z8 b f4=>?_
    have Ii:=c.fr f4 b
    have Z9:ys.length<=9:=by
     have:=congrArg afc Z8
     simp at this
     omega
    simp
    rw[<- hT]
    refine P9 (k:=48) (by omega) (by omega) hy Z9 (by decide) b Ii λq5 q6 q7 q8 q9 g5 v=>?_
    exact⟨⟨_,_,_,_,_,_,_,_,_,rfl⟩,v⟩
  . rintro σ g ⟨⟨o1,y,o3,o4,o5,o6,o7,o8,o9,rfl⟩,q⟩
    simp
    rfl
 obtain⟨⟨d,g'⟩,e,h⟩:=main
 cases h
 exact⟨g',e⟩
end K50
namespace K50
open PySem PySem.Spec PyProof.Rows L2 L3 RI
theorem walk {l:adX}{q:aaY}{loose:List Str}{XP:(Str->Option Value)->Heap->Prop}{YP:World->Heap->Prop}{d:DefRec}{K:Params->aaI}(hn:l.most=some 63)(vC:d.params.defaults = [])(fW:d.name = "law")
  (hY:∀(w:World) (h:Heap),YP w h->(K w.params).In h)
  (F:∀(w:World) (mg:Str->Option Value) (h:Heap),(K w.params).In h->h.Ns abr mg->At (K w.params) w mg mo):
  agH q loose XP YP l.row.toRowW d [] (λf vs=>agu f vs):=
 RI.JW (i:=36) (R:=60) (x:="_law_script") hn ⟨rfl,by decide,by decide,rfl⟩ vC fW hY F rfl rfl rfl good FN
end K50
open PySem PySem.W PyProof.Rows
namespace PySem.W.Fast
theorem te13043081480847912585:1=1:=rfl
theorem tw9305280055291229860:1=1:=rfl
theorem tw9731394443909987932:1=1:=rfl
theorem tw14695602707296049828:1=1:=rfl
theorem tw8689802105609602854:1=1:=rfl
theorem tw14304492973217297470:1=1:=rfl
theorem tw4572590897779358368:1=1:=rfl
theorem tw9996381450917676547:1=1:=rfl
theorem tw3918638967611471776:1=1:=rfl
theorem tw12913990263420899537:1=1:=rfl
theorem tw8258642994518527421:1=1:=rfl
theorem tw12694946258328564221:1=1:=rfl
theorem tw9418745442961371978:1=1:=rfl
theorem tw8864463031158902898:1=1:=rfl
theorem tw18374927087935830809:1=1:=rfl
theorem tw9136540255512987694:1=1:=rfl
theorem tw6851648829055678293:1=1:=rfl
theorem tw6935903089388491988:1=1:=rfl
theorem tw14006005164278457407:1=1:=rfl
theorem tw14822511509152468412:1=1:=rfl
theorem tw3652493047791803515:1=1:=rfl
theorem tw196252041086816413:1=1:=rfl
theorem tw15664236333180577191:1=1:=rfl
theorem tw1434713884594742021:1=1:=rfl
theorem tw5600159895618811450:1=1:=rfl
theorem tw9388186464269402769:1=1:=rfl
theorem tw11834994300328398723:1=1:=rfl
theorem tw17426324541818042893:1=1:=rfl
theorem tw6435418126360492615:1=1:=rfl
theorem tw15730238277687362090:1=1:=rfl
theorem tw15175688083937183779:1=1:=rfl
theorem tw9137422293926287633:1=1:=rfl
theorem tw5381738652072436402:1=1:=rfl
theorem tw17415151199808544005:1=1:=rfl
theorem tw3606969991460439651:1=1:=rfl
theorem tw2100770883713818831:1=1:=rfl
theorem tw13374691851319508582:1=1:=rfl
theorem tw14276017756879283851:1=1:=rfl
theorem tw4826365902379821272:1=1:=rfl
theorem tw17148016206252436669:1=1:=rfl
theorem tw2514122447756532512:1=1:=rfl
theorem tw11346278870044737037:1=1:=rfl
theorem tw3594675294137914143:1=1:=rfl
theorem tw5140517903431728788:1=1:=rfl
theorem tw12244131712336443072:1=1:=rfl
theorem tw6703163697951843051:1=1:=rfl
theorem tw17493764460368368896:1=1:=rfl
theorem tw5141936928178757524:1=1:=rfl
theorem tw11063170911158741954:1=1:=rfl
theorem tw15725433715675931065:1=1:=rfl
theorem tw3284179771905768746:1=1:=rfl
theorem tw6747940871656102653:1=1:=rfl
theorem tw15264160075992873518:1=1:=rfl
theorem tw15412183660955764808:1=1:=rfl
theorem tw8315256493584637965:1=1:=rfl
theorem tw2728518535063214101:1=1:=rfl
theorem tw9118646675689105823:1=1:=rfl
theorem tw11862326121682281562:1=1:=rfl
theorem tw2069345676877980383:1=1:=rfl
theorem tw13156036091461552282:1=1:=rfl
theorem tw3758045332487020807:1=1:=rfl
theorem tw5692904764873446153:1=1:=rfl
theorem tw7228202901617827308:1=1:=rfl
theorem tw8986500905426722218:1=1:=rfl
theorem tw16329607074065067841:1=1:=rfl
theorem tw8823144015913972464:1=1:=rfl
theorem tw2936113409455988116:1=1:=rfl
theorem tw6075612965370697724:1=1:=rfl
theorem tw15715669069132269631:1=1:=rfl
theorem tw7290492260292941786:1=1:=rfl
theorem tw4858950966798705324:1=1:=rfl
theorem tw17378732852325817273:1=1:=rfl
theorem tw15231138288560695914:1=1:=rfl
theorem tw6599181005178638887:1=1:=rfl
theorem tw2742750469600886377:1=1:=rfl
theorem tw5501563155012093428:1=1:=rfl
theorem tw4984003960668881147:1=1:=rfl
theorem tw6909579977106443493:1=1:=rfl
theorem tw10105160789818919167:1=1:=rfl
theorem tw7313712485927209516:1=1:=rfl
theorem tw17295580695595871601:1=1:=rfl
theorem tw11969727188795664014:1=1:=rfl
theorem tw12546569013022495512:1=1:=rfl
theorem tw8738089586811221911:1=1:=rfl
theorem tw2111312613935227164:1=1:=rfl
theorem tw4369816723029932826:1=1:=rfl
theorem tw8572279518687589955:1=1:=rfl
theorem tw4714603057413694770:1=1:=rfl
theorem tw4754446872293921513:1=1:=rfl
theorem tw3692139306801683952:1=1:=rfl
theorem tw5100313145736303965:1=1:=rfl
theorem tw4282114949670011748:1=1:=rfl
theorem tw1601157563619206438:1=1:=rfl
theorem tw12006668083797528758:1=1:=rfl
theorem tw4710095189584653741:1=1:=rfl
theorem tw9266398976332937892:1=1:=rfl
theorem tw17464556694193071943:1=1:=rfl
theorem tw15017521631233283574:1=1:=rfl
theorem tw8123254541642383390:1=1:=rfl
theorem tw14013879410788922933:1=1:=rfl
theorem tw10392440406036450255:1=1:=rfl
theorem tw10915998576629121803:1=1:=rfl
theorem tw13742011472523346945:1=1:=rfl
theorem tw973908986733396321:1=1:=rfl
theorem tw12254502530431457736:1=1:=rfl
theorem tw17786688012457323054:1=1:=rfl
theorem tw17248108468032164035:1=1:=rfl
theorem tw12749048718228779418:1=1:=rfl
theorem tw1141414081142627266:1=1:=rfl
theorem tw11235774609175208647:1=1:=rfl
theorem tw12764270358252984941:1=1:=rfl
theorem tw13848053079802019229:1=1:=rfl
theorem tw4470138127505096098:1=1:=rfl
theorem tw15687950083649155148:1=1:=rfl
theorem tw18274039972986130955:1=1:=rfl
theorem tw7152148376755934032:1=1:=rfl
theorem tw1268617826454269809:1=1:=rfl
theorem tw12872960414788524983:1=1:=rfl
theorem tw12320987581672718595:1=1:=rfl
theorem tw4981130075282791508:1=1:=rfl
theorem tw10240624207151035478:1=1:=rfl
theorem tw5126604343696933988:1=1:=rfl
theorem tw8808875948817262100:1=1:=rfl
theorem tw8011694614465803097:1=1:=rfl
theorem tw4874050552287181471:1=1:=rfl
theorem tw4892507564563818026:1=1:=rfl
theorem tw9401529457951875766:1=1:=rfl
theorem tw3044478264089466015:1=1:=rfl
theorem tw9155260052461125846:1=1:=rfl
theorem tw6504008598067878390:1=1:=rfl
theorem tw14161011334536894772:1=1:=rfl
theorem tw3338569192797280992:1=1:=rfl
theorem tw14918953578507627148:1=1:=rfl
theorem tw8775881656626446858:1=1:=rfl
theorem tw9148515072123369517:1=1:=rfl
theorem tw6987752269506848705:1=1:=rfl
theorem tw2302654458796970942:1=1:=rfl
theorem tw7977731198621002325:1=1:=rfl
theorem tw12808393969514138734:1=1:=rfl
theorem tw8115371095483371117:1=1:=rfl
theorem tw6592799181835481493:1=1:=rfl
theorem tw17087234196223109180:1=1:=rfl
theorem tw18167197871920938121:1=1:=rfl
theorem tw1706771046955924179:1=1:=rfl
theorem tw13946892475321443829:1=1:=rfl
theorem tw16755942360649213365:1=1:=rfl
theorem tw16032291463889927381:1=1:=rfl
theorem tw825840873672905831:1=1:=rfl
end PySem.W.Fast
set_option maxRecDepth 100000 in
set_option maxHeartbeats 0 in
theorem PySem.Challenge.cw_wholeglance_k50_papers_that_none_fits_holds : PySem.Challenge.rw_wholeglance_k50_papers_that_none_fits.Holds := by
  w_on; o_law; k_head; (case hw => w_witness2)
  k_fill
  refine K50.walk (l := PySem.Challenge.rw_wholeglance_k50_papers_that_none_fits) rfl rfl rfl (fun w h Y => by first | exact PySem.W.kIn_of Y | exact PySem.W.km_in_of Y) ?F
  case F =>
    intro w mg h KX G
    refine' ⟨_, _, (RI.bJ.cons (nm := "is_whole") (ps := ["thing"]) (st := K50.top 1) ?a0 ?l0 ?e0 ?k0 (RI.rC (fun _ => rfl))
    (RI.bJ.cons (nm := "is_within") (ps := ["thing", "least", "most"]) (st := K50.top 2) ?a1 ?l1 ?e1 ?k1 (RI.nK (fun _ _ _ => rfl))
    (RI.bJ.cons (nm := "is_figured") (ps := ["thing", "most"]) (st := K50.top 3) ?a2 ?l2 ?e2 ?k2 (RI.iN (fun _ _ => rfl))
    (RI.bJ.cons (nm := "is_tuple_of") (ps := ["thing", "least", "most"]) (st := K50.top 4) ?a3 ?l3 ?e3 ?k3 (RI.nK (fun _ _ _ => rfl))
    (RI.bJ.cons (nm := "is_same") (ps := ["thing", "value"]) (st := K50.top 5) ?a4 ?l4 ?e4 ?k4 (RI.iN (fun _ _ => rfl))
    (RI.bJ.cons (nm := "zeros") (ps := ["count"]) (st := K50.top 7) ?a5 ?l5 ?e5 ?k5 (RI.rC (fun _ => rfl))
    (RI.bJ.cons (nm := "is_value") (ps := ["thing"]) (st := K50.top 12) ?a6 ?l6 ?e6 ?k6 (RI.rC (fun _ => rfl))
    (RI.bJ.cons (nm := "is_value_within") (ps := ["thing", "deep"]) (st := K50.top 13) ?a7 ?l7 ?e7 ?k7 (RI.iN (fun _ _ => rfl))
    (RI.bJ.cons (nm := "is_state") (ps := ["places", "thing"]) (st := K50.top 14) ?a8 ?l8 ?e8 ?k8 (RI.iN (fun _ _ => rfl))
    (RI.bJ.cons (nm := "is_ahead") (ps := ["row", "other"]) (st := K50.top 16) ?a9 ?l9 ?e9 ?k9 (RI.iN (fun _ _ => rfl))
    (RI.bJ.cons (nm := "bits_of") (ps := ["numbers"]) (st := K50.top 18) ?a10 ?l10 ?e10 ?k10 (RI.rC (fun _ => rfl))
    (RI.bJ.cons (nm := "ended_bits") (ps := ["story"]) (st := K50.top 19) ?a11 ?l11 ?e11 ?k11 (RI.rC (fun _ => rfl))
    (RI.bJ.cons (nm := "plan_of") (ps := ["story"]) (st := K50.top 20) ?a12 ?l12 ?e12 ?k12 (RI.rC (fun _ => rfl))
    (RI.bJ.cons (nm := "leads") (ps := ["plan", "done", "state"]) (st := K50.top 21) ?a13 ?l13 ?e13 ?k13 (RI.nK (fun _ _ _ => rfl))
    (RI.bJ.cons (nm := "fits") (ps := ["row", "state"]) (st := K50.top 22) ?a14 ?l14 ?e14 ?k14 (RI.iN (fun _ _ => rfl))
    (RI.bJ.cons (nm := "state_behind") (ps := ["row", "state"]) (st := K50.top 23) ?a15 ?l15 ?e15 ?k15 (RI.iN (fun _ _ => rfl))
    (RI.bJ.cons (nm := "are_rows") (ps := ["story", "thing"]) (st := K50.top 25) ?a16 ?l16 ?e16 ?k16 (RI.iN (fun _ _ => rfl))
    (RI.bJ.cons (nm := "shows_none") (ps := ["places", "story", "thing"]) (st := K50.top 26) ?a17 ?l17 ?e17 ?k17 (RI.nK (fun _ _ _ => rfl))
    (RI.bJ.cons (nm := "lead_nowhere_else") (ps := ["story", "known"]) (st := K50.top 27) ?a18 ?l18 ?e18 ?k18 (RI.iN (fun _ _ => rfl))
    (RI.bJ.cons (nm := "is_room") (ps := ["places", "story", "values", "thing"]) (st := K50.top 28) ?a19 ?l19 ?e19 ?k19 (RI.YI (fun _ _ _ _ => rfl))
    (RI.bJ.cons (nm := "is_rising") (ps := ["story", "thing"]) (st := K50.top 29) ?a20 ?l20 ?e20 ?k20 (RI.iN (fun _ _ => rfl))
    (RI.bJ.cons (nm := "is_state_of") (ps := ["places", "values", "thing"]) (st := K50.top 30) ?a21 ?l21 ?e21 ?k21 (RI.nK (fun _ _ _ => rfl))
    (RI.bJ.cons (nm := "_law_hand") (ps := ["_law_script", "_law_k"]) (st := K50.top 32) ?a22 ?l22 ?e22 ?k22 (RI.iN (fun _ _ => rfl))
    (RI.bJ.cons (nm := "_law_take") (ps := ["_law_hand_here", "_law_many"]) (st := K50.top 33) ?a23 ?l23 ?e23 ?k23 (RI.iN (fun _ _ => rfl))
    (RI.bJ.cons (nm := "_law_pick") (ps := ["_law_hand_here", "_law_some"]) (st := K50.top 34) ?a24 ?l24 ?e24 ?k24 (RI.iN (fun _ _ => rfl))
    (RI.bJ.cons (nm := "_law_some_value") (ps := ["_law_hand_here"]) (st := K50.top 35) ?a25 ?l25 ?e25 ?k25 (RI.rC (fun _ => rfl))
    (RI.bJ.cons (nm := "_law_rows") (ps := ["_law_hand_here", "_law_places", "_law_most"]) (st := K50.top 36) ?a26 ?l26 ?TK ?k26 (RI.nK (fun _ _ _ => rfl))
    (RI.bJ.cons (nm := "_law_told") (ps := ["_law_places", "_law_rows_here"]) (st := K50.top 37) ?a27 ?l27 ?TM ?k27 (RI.iN (fun _ _ => rfl))
    (RI.bJ.cons (nm := "_law_bent") (ps := ["_law_hand_here", "_law_places", "_law_rows_here"]) (st := K50.top 38) ?a28 ?l28 ?TN ?k28 (RI.nK (fun _ _ _ => rfl))
    (RI.bJ.cons (nm := "_law_behind") (ps := ["_law_rows_here", "_law_done", "_law_state"]) (st := K50.top 39) ?a29 ?l29 ?e29 ?k29 (RI.nK (fun _ _ _ => rfl))
    (RI.bJ.cons (nm := "_law_all") (ps := ["_law_places", "_law_rows_here"]) (st := K50.top 40) ?a30 ?l30 ?e30 ?k30 (RI.iN (fun _ _ => rfl))
    (RI.bJ.cons (nm := "_law_ended") (ps := ["_law_rows_here", "_law_done"]) (st := K50.top 41) ?a31 ?l31 ?e31 ?k31 (RI.iN (fun _ _ => rfl))
    (RI.bJ.cons (nm := "_law_is_pair") (ps := ["_law_places", "_law_rows_here", "_law_thing"]) (st := K50.top 42) ?a32 ?l32 ?e32 ?k32 (RI.nK (fun _ _ _ => rfl))
    (RI.bJ.cons (nm := "_law_right") (ps := ["_law_places", "_law_rows_here", "_law_thing"]) (st := K50.top 43) ?a33 ?l33 ?e33 ?k33 (RI.nK (fun _ _ _ => rfl))
    (RI.bJ.cons (nm := "_law_wide") (ps := ["_law_hand_here", "_law_places", "_law_rows_here"]) (st := K50.top 44) ?a34 ?l34 ?TQ ?k34 (RI.nK (fun _ _ _ => rfl))
    (RI.bJ.cons (nm := "_law_odd_paper") (ps := ["_law_hand_here", "_law_paper"]) (st := K50.top 45) ?a35 ?l35 ?TR ?k35 (RI.iN (fun _ _ => rfl))
    (RI.bJ.cons (nm := "law") (ps := ["_law_script"]) (st := K50.top 46) ?a36 ?l36 ?e36 ?k36 (RI.rC (fun _ => rfl))
    RI.bJ.nil))))))))))))))))))))))))))))))))))))),
    (RI.bc ?z_len (RI.bc ?z_max (RI.bc ?z_min (RI.bc ?z_int (RI.bc ?z_tuple (RI.bc ?z_list (RI.bc ?z_all (RI.bc ?z_any (RI.bc ?z_sum (RI.bc ?z_sorted (RI.bc ?z_bool (RI.bc ?z_dict (RI.bc ?z_set (RI.bc ?z_range (RI.bc ?z_enumerate (RI.bc ?z_zip (RI.bc ?z_isinstance RI.bn))))))))))))))))),
    (RI.cc (RI.cI ?q_TWELVE_FIGURES) (RI.cc (RI.cI ?q_MOST_PARTS) (RI.cc (RI.cI ?q_MOST_DEEP) RI.Sx))), RI.Sx⟩
    all_goals try first | k_is | rfl
