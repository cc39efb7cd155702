import PyProof.Rows.All
import Wide.All
import OpenK.AllK
import Wide.FinOn
import Lean
import PyProof.EqAt
import PyProof.EqKinds
import PyProof.TupleCall
import PySem.Challenge.RW_wholeglance_k54_whole_stories_loosened
open PySem renaming wpAny_bind->Zm,Shared->Zo,wpAny_pure->Zp,sizeLine->ZM,starEach->ZS,Around->ZV,DictEntry->ZX,Program->ZY,wpAny_holding->Z7,compareOp->Z8,wpAny_call_entry->aaa,binaryOp->aah,wpAny_truthy_bool->aai,foldedSetIterable->aaj,mainGlobals->aal,wpAny_ite_split->aap,wpAny_callSpecial?_slot->aav,placesWithHash->aaz,FuncData->aaA,cellsFrom->aaH,mem_of_lookup->aaJ,assignEach->aaN,wpAny_newObj_type->aaS,wpAny_dictEntries->aa0,wpAny_dictEpoch->aa2,bootBuiltins->aa6,sysModules->aa9,wpAny_rule->aba,wpAny_Call_Name_kw->abf,sizeLine_eq->abk,wpAny_typeNameOfWhole_keyiter->abu,NameKind->abw,Builtin->aby,wpAny_passesOwn->abF,backTo->abU,behindInMarks->ab1,wpAny_pyIter_tuple->ab4,holding->ace,swapsWith->ach,call_meets->acj,wpAny_forIn_list->acn,assign->acr,wpAny_field->acv,sliceBounds->acw,wpAny_sequenceKey->acN,swappedStores->acR,PassesOwn->acV,wpAny_notOrdered_dict->acY,wpAny_mono->ac2,wpAny_execs_nil->ac3,codeAny_mono->ac4,IsPart->ac7,wpAny_typeOf->ac8,wpAny_ite_false->ada,wpAny_specialOf->ade,codeAny_builtin->adh,codeAny->adm,getItem->ado,callerA->adp,wpAny_setField->adq,intItems->ads,slot_dict_contains->adA,wpAny_standAt->adF,swapsWithSole->adG,attributeBase->adI,Comprehension->adJ,wpAny_pyIter_list->adN,slot_dict_getitem->adP,builtinsNs->adS,typeIs_int->adT,relabel->ad1,dictGet->ad2,rawInt->ad4,concat_meets->ad5,noFill_tuple_add->ad6,beq_builtin_none->ad8,wpAny_isInstance->ad9,letOwnedTupleGo->aei,eqIsQuiet->aek,wpAny_richCompare_same->aes,standAt->aex,BindsTo->aez,wpAny_seqItems->aeD,wpAny_isOneOf_keyiter->aeF,builtinLookup_eq_fast->aeH,isSubtype_type->aeI,typeIs_str->aeN,call->aeO,wpAny_updateDictKeys->aeT,wpAny_pyIter_keyiter->aeU,seq_tuple_add->aeY,wpAny_newList->ae2,plainId_quiet->ae3,lastMarks->afi,seqIndex?->afk,setItem->afx,Keyword->afy,collect->afz,seqIndex_of->afP,wpAny_alloc->afQ,wpAny_mkInt->afS,seqSlot_of->af2,boot_len->agI
open Bool renaming and_eq_true->Zn,false_eq_true->ZG,not_true->ZI,not_false->ZK,not_eq_true'->Z2,or_eq_true->aag,or_eq_false_iff->aaI,false_ne_true->aaM,not_eq_true->aco,or_false->acS,true_and->adL,false_and->aey,and_assoc->aeC,and_eq_false_iff->aeJ,and_true->ae0,not_eq_false'->afp,eq_false_iff->afM,eq_iff_iff->agh,and_false->agA
open List renaming getElem?_eq_getElem->Zq,getElem?_eq_some_iff->Zs,size_toArray->Zt,mem_map->Zu,mem_append->Zw,range->Zx,mem_cons->ZE,all_eq_true->ZH,mem_range->ZJ,getElem?_append_left->ZL,length_map->ZN,mem_cons_self->ZO,mem_cons_of_mem->ZQ,replicate->ZR,map_cons->ZT,mem_filter->ZU,map_map->Z0,getElem?_map->Z1,getElem?_eq_none->Z3,getElem?_take_of_lt->Z4,getElem?_set_ne->Z6,mem_of_getElem?->Z_,lookup_cons->aac,mem_append_right->aad,mem_iff_getElem?->aaq,map_congr_left->aar,getElem?_append_right->aas,getElem_mem->aau,mem_iff_getElem->aax,getElem?_set_self->aay,length_filter_le->aaC,nodup_append->aaD,any_cons->aaG,nil_append->aaK,map_append->aaL,length_take->aaO,mem_of_mem_take->aaP,getD_eq_getElem?_getD->aaR,drop_eq_getElem_cons->aaT,length_append->aaU,any_eq_true->aaW,append_assoc->aaY,filterMap_cons->aa3,replicate_succ->aa4,take_of_length_le->aa8,length_cons->abc,filter_cons->abd,nodup_cons->abl,elem_iff->abt,getElem?_cons_zero->abv,cons_append->abx,ext_getElem->abz,idxOf_lt_length_of_mem->abE,flatten_cons->abJ,ext_getElem?->abK,set_eq_take_append_cons_drop->abQ,drop_zero->abR,getElem?_cons_succ->abZ,mem_filterMap->ab5,eq_nil_of_length_eq_zero->ab8,reverse_cons->ab9,pairwise_map->ab_,mem_nil_iff->acm,mem_of_mem_drop->acp,all_cons->acu,append_nil->acx,all_map->acD,mem_singleton->acE,append_of_mem->acH,mem_replicate->acI,nodup_nil->acK,singleton_append->acW,eraseIdxIfInBounds_toArray->ac0,mem_append_left->ac1,foldl_cons->ac9,forIn_cons->ac_,getElem?_zipIdx->adb,find?_some->adf,mem_zipIdx_iff_getElem?->adw,length->adx,pairwise_cons->adC,getElem_idxOf->adD,any_eq_false->adQ,getElem?_eq_none_iff->adV,mem_or_eq_of_mem_set->adX,getElem_inj->ad3,nodup_range->ad7,not_mem_nil->ad_,getElem?_replicate->aec,eraseIdx_cons_succ->aed,length_eq_zero_iff->aef,of_mem_zip->aej,zipIdx_map->aem,set_append->aen,length_singleton->aeA,forIn_nil->aeB,dropLast_eq_take->aeG,eq_nil_or_concat->aeK,concat_eq_append->aeL,Nodup->aeW,take_succ_cons->ae5,getElem?_range->ae6,filter_sublist->ae8,length_reverse->ae_,length_pos_iff->afa,findIdx?_cons->afq,zip_nil_right->afr,zip_cons_cons->afs,any_nil->aft,take->afu,map_singleton->afv,find?_eq_none->afw,take_sublist->afC,getElem?_inj->afJ,zip_nil_left->afL,length_range->afN,length_drop->afY,mem_reverse->af0,isEmpty_iff->af9,perm_middle->af_,zipIdx_cons->aga,all_filter->ago,range_succ->agp
open PySem.Heap renaming get?_push_of_some->Zr,lt_size->Zz,get?_push_size->ZD,get?_update_self->abg,size_push->abi,get?_push_ne->abr,get?_update_other->abB,size_update->abX,SameBut->acd,ExtBut->aer,get?_none_of_le->aeM,get?_update_ne->ae7
open Option renaming bind_some->Zv,map_eq_some_iff->ZF,map_some->aab,isSome_iff_exists->abm,getD_none->afZ,getD_some->af1
open Nat renaming le_refl->Zy,ne_of_lt->ZP,lt_of_lt_of_le->Z5,zero_le->aae,lt_succ_of_lt->aak,le_of_ble_eq_true->aao,le_trans->aa7,lt_irrefl->aa_,mod_eq_of_lt->abe,ble_eq_true_of_le->abh,zero_add->abq,eq_of_testBit_eq->abP,le_of_lt->abT,sub_self->abW,testBit_two_pow->abY,ble->ab2,le_succ->ab7,one_shiftLeft->aca,ne_of_gt->acf,lt_succ_self->ack,le_of_succ_le->acO,testBit_and->adk,add_mod_right->adR,lt_pow_two_of_testBit->adY,min_eq_left->aeo,pow_le_pow_right->aeX,add_comm->afl,strongRecOn->agq
open PySem.W renaming Frag->ZC,keepIn->aaX,kia_one->aa1,sortI->abb,nsIn->abC,fnOf->abV,OpenLaw->aci,findIn->acJ,codeIn->adn,kas_sort->adu,methodObj->adM,cellsFrom_some->aep,kas_ask->aev,WalkO->aeZ,mg_of->ae1,pyHash_slot->ae9,specialIn->afB,kitx_list->afE,kitx_dict->afF,eq_sortI->af4,kat_cons->af8,instObj->agc,kat_nil->agk,Looks->ahf,isFn->aht
open PySem.Str renaming ofString->ZW
open PySem.Builtin renaming bitAnd->Z9,bitNot->abj,bitOr->ab0
open Option.some renaming inj->aaf,injEq->aaE
open PySem.AutoSeq1 renaming wpAny_loadPart'->aam,sub_tuple_tuple->abp,idx_int->acT
open PySem.Value renaming type->aan,bool->abA,none->ab3,ref->acg,int->aeh,notImplemented->aeQ
open PySem.NameKind renaming cell->aat,free->aaF
open PyProof.Rows renaming slot_tuple_getitem->aaw,callWith_type1->aaB,seqObj->aaQ,firstMet->abO,IntsAre->abS,step_dedup->acq,subscriptTail_builtinR->acQ,AllBare->acU,envOfC->ac5,callWith_builtin1->ac6,get?_update_seq->adg,sortedHeap->adW,boot_tuple->aew,boot_list->aeP,entry_tuple_getitem->ae4,boot_int->agr
open PySem.Builtin.Tuple renaming tupleExact->aaV,tupleItemsOf->acs,tupleHashOf->adU,tupleTooMany->aeq
open Function renaming comp_def->aaZ
open PySem.Heap.SameBut renaming update->aa5
open PySem.Obj renaming mapSeq->abn,mapDictKeys->acA,data_mapFields->acF,isFreed_of_fields->aeE,cls_mapFields->afG
open ForInStep renaming yield->abo
open PySem.Builtin.List renaming listExtendWith->abD,listSameRef->aea
open Array renaming getElem?_toList->abG,getElem?_eq_some_iff->abH,getElem?_eq_getElem->acz,mem_of_getElem?->acX,length_toList->adl,getElem?_eq_none_iff->adK,mem_toList_iff->aeR,toList->afg,forIn_toList->afo
open Int renaming toNat_natCast->abI,emod_lt_of_pos->acG,emod_nonneg->adj,le_trans->aeb,natCast_nonneg->afn
open False renaming elim->abL
open PySem.Builtin.Slice renaming slicePlaces->abM,sliceAdjust->acy,sliceApplied->adH
open PySem.Builtin.SmallTypes renaming nextOf->abN
open True renaming intro->ab6
open Ne renaming symm->acb
open PySem.Calls renaming call_function_entry->acB,spliced_cons->adz,Name_function_global->adE,spliced_nil->adO,callWith_builtin->aet,Constant_str->aff
open PySem.F renaming args_tuple_add_2->acC,entry_tuple_add->acL,plainAttrs_list->acM,slot_tuple_add->acP,slot_dict_get->acZ,slot_dict_setdefault->adv,plainAttrs_dict->aee,entry_dict_get->aeu
open PySem.Around renaming under_plainId->adi
open PySem.Builtin.Dict_items renaming ownsTuple->adt
open PySem.Data renaming cell->ady,dict->afm
open PySem.ScopeKind renaming function->adB
open Sum renaming inl->adZ,inr->ad0
open Classical renaming propDecidable->aeg
open List.cons renaming injEq->ael
open PUnit renaming unit->aeS
open PySem.W.KatTups renaming cons->aeV,nil->aj3
open PySem.SeqAt.EqAt renaming int_str->afc,str_int->afd
open List.Sublist renaming refl->afO
open PySem.Builtin.Frozenset renaming updateFrom->agK
open PyProof.Rows.IntsAre renaming int_at->agT
open PySem.Shared renaming TypeIs->ahc
open Prod.mk renaming injEq->ahi
set_option bootstrap.genMatcherCode false
set_option genSizeOf false
set_option Elab.async false
set_option linter.all false
set_option maxRecDepth 100000
namespace L2
open PySem PySem.Spec PyProof.Rows
abbrev Key:=Sum Int Str
noncomputable def Et:Key->Value->Bool
 |.inl k,v=>Value.isInt k v
 |.inr x,v=>Value.isStrOf x v
noncomputable def RE (w:World):Key->Int
 |.inl k=>hashInt k
 |.inr x=>hashStr w x
theorem cY:∀{k:Key} {v:Value},Et k v=true->(∃i t,k=adZ i/\v=aeh i t)\/(∃x t,k=ad0 x/\v=Value.str x t)
 |.inl i,v,h=>by
  obtain⟨t,e⟩:=Value.isInt_shape (k:=i) (v:=v) h
  exact .inl ⟨i,t,rfl,e⟩
 |.inr x,v,h=>by
  obtain⟨t,e⟩:=Value.isStrOf_shape (x:=x) (v:=v) h
  exact .inr ⟨x,t,rfl,e⟩
theorem Jk (a b:Int):decide ((adZ a:Key)=adZ b)=(a == b):=by
 by_cases e:a=b
 . subst e;simp
 . have h:¬(adZ a:Key)=adZ b:=λq=>e (Sum.inl.inj q)
   rw[decide_eq_false h]
   exact(beq_eq_false_iff_ne.mpr e).symm
theorem Jl (a b:Str):decide ((ad0 a:Key)=ad0 b)=decide (a=b):=by
 by_cases e:a=b
 . subst e;simp
 . have h:¬(ad0 a:Key)=ad0 b:=λq=>e (Sum.inr.inj q)
   rw[decide_eq_false h,decide_eq_false e]
theorem Jm (a:Int)(b:Str):decide ((adZ a:Key)=ad0 b)=false:=decide_eq_false (λq=>nomatch q)
theorem Jn (a:Str)(b:Int):decide ((ad0 a:Key)=adZ b)=false:=decide_eq_false (λq=>nomatch q)
noncomputable def qK (prog:ZY)(w:World):PySem.KeyKind prog w Key where
 is:=Et
 hash:=RE w
 inj:=λv a b ha hb=>by
  rcases cY ha with⟨i,t,rfl,rfl⟩|⟨x,t,rfl,rfl⟩
  . rcases cY hb with⟨j,u,rfl,e⟩|⟨y,u,rfl,e⟩
    . injection e with e1 _;rw[e1]
    . exact nomatch e
  . rcases cY hb with⟨j,u,rfl,e⟩|⟨y,u,rfl,e⟩
    . exact nomatch e
    . injection e with e1 _;rw[e1]
 byValue:=λk v h=>by
  rcases cY h with⟨i,t,rfl,rfl⟩|⟨x,t,rfl,rfl⟩<;>rfl
 pyHash:=λhv h=>by
  rcases cY hv with⟨i,t,rfl,rfl⟩|⟨x,t,rfl,rfl⟩
  . exact wpAny_pyHash_int h
  . exact wpAny_pyHash_str h
 eqBool:=λhu hv h=>by
  rcases cY hu with⟨i,t,rfl,rfl⟩|⟨x,t,rfl,rfl⟩
  . rcases cY hv with⟨j,u,rfl,rfl⟩|⟨y,u,rfl,rfl⟩
    . rw[Jk]at h;exact wpAny_eqBool_int h
    . rw[Jm]at h;exact afc i t y u _ _ _ _ h
  . rcases cY hv with⟨j,u,rfl,rfl⟩|⟨y,u,rfl,rfl⟩
    . rw[Jn]at h;exact afd x t j u _ _ _ _ h
    . rw[Jl]at h;exact wpAny_eqBool_str h
 «strs»:=λk x t v h=>by
  rcases cY h with⟨i,u,rfl,e⟩|⟨y,u,rfl,e⟩
  . exact nomatch e
  . injection e with e1 _
    subst e1
    cases v<;>rfl
inductive V where
 |az|bl (b:Bool)|int (i:Int)|str (x:Str)|zN (b:Array UInt8)|dw (b:UInt64)|ref (a:Addr)|ty (n:String)
 deriving DecidableEq
noncomputable def RelV:V->Value->Prop
 |.az,u=>u=ab3
 |.bl b,u=>u=abA b
 |.int i,u=>∃t,u=aeh i t
 |.str x,u=>∃t,u=Value.str x t
 |.zN b,u=>∃t,u=Value.bytes b t
 |.dw b,u=>∃t,u=Value.float b t
 |.ref a,u=>u=acg a
 |.ty n,u=>u=aan n
noncomputable abbrev Vals:List V->List Value->Prop:=Paired RelV
theorem Vals.length {xs:List V}{us:List Value}(r:Vals xs us):xs.length=us.length:=Paired.length r
theorem Vals.get:∀{xs:List V} {us:List Value} {i:Nat} {x:V},Vals xs us->xs[i]? = some x->∃u,us[i]? = some u/\RelV x u
 |_,_,_,_,.nil,e=>by simp at e
 |_,_,0,_,.cons r _,e=>by simp at e;subst e;exact⟨_,rfl,r⟩
 |_,_,i+1,x,.cons _ t,e=>by
  obtain⟨u,h1,h2⟩:=Vals.get (i:=i) (x:=x) t (by simpa using e)
  exact⟨u,by simpa using h1,h2⟩
theorem Vals.set {x:V}{u:Value}(r:RelV x u):∀{xs:List V} {us:List Value} (i:Nat),Vals xs us->Vals (xs.set i x) (us.set i u)
 |_,_,_,.nil=>.nil
 |_,_,0,.cons _ t=>.cons r t
 |_,_,i+1,.cons q t=>.cons q (Vals.set r i t)
theorem Vals.append:∀{xs ys:List V} {us ws:List Value},Vals xs us->Vals ys ws->Vals (xs++ys) (us++ws)
 |_,_,_,_,.nil,s=>s
 |_,_,_,_,.cons r t,s=>.cons r (Vals.append t s)
theorem Vals.take:∀{xs:List V} {us:List Value} (n:Nat),Vals xs us->Vals (xs.take n) (us.take n)
 |_,_,0,_=>.nil
 |_,_,_+1,.nil=>.nil
 |_,_,n+1,.cons r t=>.cons r (Vals.take n t)
theorem Vals.drop:∀{xs:List V} {us:List Value} (n:Nat),Vals xs us->Vals (xs.drop n) (us.drop n)
 |_,_,0,r=>r
 |_,_,_+1,.nil=>.nil
 |_,_,n+1,.cons _ t=>Vals.drop n t
noncomputable def Jo:Option V->Option Value->Prop
 |some v,some u=>RelV v u
 |none,none=>True
 |_,_=>False
noncomputable def KV {κ:Type}:List (κ×V)->List (κ×Value)->Prop:=Paired λ(p:κ×V) (q:κ×Value)=>p.1=q.1/\RelV p.2 q.2
noncomputable def kV:Key->V
 |.inl i=>.int i
 |.inr x=>.str x
def fz (h:Heap)(a:Addr)(items:Array Value):Prop:=∃o,h.get? a=some o/\o.cls = .type "tuple" /\ (∃n,o.data = .seq items n)/\o.dict=none
theorem fz.t {h:Heap}{a:Addr}{items:Array Value}(p:fz h a items):IsTup h a items:=let⟨o,h1,h2,h3,_⟩:=p;⟨o,h1,h2,h3⟩
theorem fz.new (h:Heap)(aw:Array Value):fz (h.push { cls:=.type "tuple",data:=.seq aw }) h.objs.size aw:=⟨_,ZD _ rfl,rfl,⟨_,rfl⟩,rfl⟩
inductive HO where
 |lst (xs:List V)
 |tup (xs:List V)
 |dK (dh:List (Key×V))|dT (dh:List (List Key×V))
 |set (S:Int->Bool) (n:Nat)
 |ins (C dx:Addr) (fs:List (Str×V))
 |own (x:Addr)
 |xd (fs:List (Str×V))
 |met (f x:Addr)
 |cU (lo hi:Int)
 |kq (o:Obj) (u:HO)
 |jX (ps:Array Value)
 |ext (φ:Heap->Prop)
abbrev Hp:=Addr->Option HO
noncomputable def upd (H:Hp)(a:Addr)(o:HO):Hp:=λb=>if b=a then some o else H b
theorem bC {H:Hp}{a:Addr}{o:HO}:upd H a o a=some o:=by unfold upd;rw[if_pos rfl]
theorem bh {H:Hp}{a b:Addr}{o:HO}(h:b≠a):upd H a o b=H b:=by unfold upd;rw[if_neg h]
theorem yp {H:Hp}{a b:Addr}{o u:HO}(h:H a=some o)(h':H b=some u)(d:o≠u):a≠b:=by
 intro e;subst e;rw[h]at h';exact d (aaf h')
theorem b_ {H:Hp}{a b:Addr}{o:HO}(h:H a=some o)(h':H b=none):a≠b:=by
 intro e;subst e;rw[h]at h';cases h'
section
variable (P:ZY)(w:World)
noncomputable def cZ (H:Hp)(h:Heap)(a:Addr):HO->Prop
 |.lst xs=>xs.length<=ZM /\ ∃(aw:List Value) (n:Nat),Vals xs aw/\h.get? a=some { cls:=.type "list",data:=.seq aw.toArray n }
 |.tup xs=>xs.length<=ZM /\ ∃aw:List Value,Vals xs aw/\fz h a aw.toArray
 |.dK dh=>dh.length<=ZM/\(a == aa9)=false /\ ∃vs,KV dh vs/\h.DictOf (qK P w) a vs
 |.dT dh=>dh.length<=ZM/\(a == aa9)=false /\ ∃xs:List (List Key×Addr×Value),
  Paired (λ(p:List Key×V) (q:List Key×Addr×Value)=>p.1=q.1/\H q.2.1=some (.tup (p.1.map kV))/\RelV p.2 q.2.2) dh xs /\
  ∃o es ep,h.get? a=some o/\o.ExactDict/\o.data = .dict es ep/\es.toList=xs.map (entryOfKey (tupleKind (qK P w)))/\(xs.map (·.1)).Nodup
 |.set S n=>h.SetOf (intKind P w) a S n
 |.ins C dx fs=>H dx=some (.own a)/\fs.length<=1000/\dx≠a/\h.get? a=some (agc C dx) /\
  ∃mA,h.Ns1 dx mA/\(∀f,Jo (fs.lookup f) (mA f))/\PySem.Within mA (fs.map (·.1))
 |.own _=>∃o,h.get? a=some o
 |.xd fs=>∃mA,h.Ns1 a mA /\ ∀f,Jo (fs.lookup f) (mA f)
 |.cU lo hi=>∃t u v,h.get? a=some { cls:=.type "range",data:=.fields #[.int lo t,.int hi u,.int 1 v] }
 |.kq o u=>h.get? a=some o/\cZ H h a u
 |.jX ps=>h.get? a=some { cls:=.none,data:=.fields ps }
 |.met f x=>h.get? a=some (adM (.ref f) (.ref x))
 |.ext φ=>φ h/\(∃o,h.get? a=some o) /\ ∀h1 h2:Heap,φ h1->(∀o,h1.get? a=some o->h2.get? a=some o)->φ h2
def fA (H:Hp)(h:Heap):Prop:=∀a o,H a=some o->cZ P w H h a o
end
section
variable {P:ZY}{w:World}{H H':Hp}{h h':Heap}{a:Addr}{o:HO}
theorem cZ.lt (x:cZ P w H h a o):a<h.objs.size:=by
 cases o with
 |lst xs=>obtain⟨_,_,_,_,e⟩:=x;exact Zz e
 |tup xs=>obtain⟨_,_,_,p⟩:=x;exact p.t.lt
 |dK dh=>obtain⟨_,_,_,_,o,_,_,e,_⟩:=x;exact Zz e
 |dT dh=>obtain⟨_,_,_,_,o,_,_,e,_⟩:=x;exact Zz e
 |set S n=>obtain⟨o,_,_,_,e,_⟩:=x;exact Zz e
 |ins C dx fs=>obtain⟨_,_,_,e,_⟩:=x;exact Zz e
 |own y=>obtain⟨_,e⟩:=x;exact Zz e
 |xd fs=>obtain⟨_,⟨_,_,_,e,_⟩,_⟩:=x;exact Zz e
 |cU lo hi=>obtain⟨_,_,_,e⟩:=x;exact Zz e
 |kq ob u=>obtain⟨e,_⟩:=x;exact Zz e
 |jX ps=>exact Zz (show h.get? a=some _ from x)
 |met f y=>exact Zz (show h.get? a=some _ from x)
 |ext φ=>obtain⟨_,⟨_,e⟩,_⟩:=x;exact Zz e
theorem Paired.Jp {α β:Type}{F G:α->β->Prop}:∀{l₁:List α} {l₂:List β},Paired F l₁ l₂->(∀a b,F a b->G a b)->Paired G l₁ l₂
 |_,_,.nil,_=>.nil
 |_,_,.cons r t,f=>.cons (f _ _ r) (Paired.Jp t f)
theorem cZ.ip (x:cZ P w H h a o)(k:∀b u,(b=a\/H b=some (.own a))->h.get? b=some u->h'.get? b=some u)
  (ho:∀b,H b=some (.own a)->H' b=some (.own a)) (ht:∀b xs,H b=some (.tup xs)->H' b=some (.tup xs)):cZ P w H' h' a o:=by
 induction o with
 |lst xs=>obtain⟨z,aw,n,r,e⟩:=x;exact⟨z,aw,n,r,k _ _ (.inl rfl) e⟩
 |tup xs=>obtain⟨z,aw,r,ob,e,c⟩:=x;exact⟨z,aw,r,ob,k _ _ (.inl rfl) e,c⟩
 |dK dh=>obtain⟨z,y,vs,r,ob,es,ep,e,c⟩:=x;exact⟨z,y,vs,r,ob,es,ep,k _ _ (.inl rfl) e,c⟩
 |dT dh =>
  obtain⟨z,y,xs,r,ob,es,ep,e,c⟩:=x
  exact⟨z,y,xs,Paired.Jp r λp q z=>⟨z.1,ht _ _ z.2.1,z.2.2⟩,ob,es,ep,k _ _ (.inl rfl) e,c⟩
 |set S n=>obtain⟨ob,es,ep,t,e,c⟩:=x;exact⟨ob,es,ep,t,k _ _ (.inl rfl) e,c⟩
 |ins C dx fs =>
  obtain⟨d,z,ne,e,mA,⟨od,es,ep,e2,c⟩,r⟩:=x
  exact⟨ho _ d,z,ne,k _ _ (.inl rfl) e,mA,⟨od,es,ep,k _ _ (.inr d) e2,c⟩,r⟩
 |own y=>obtain⟨ob,e⟩:=x;exact⟨ob,k _ _ (.inl rfl) e⟩
 |xd fs=>obtain⟨mA,⟨od,es,ep,e,c⟩,r⟩:=x;exact⟨mA,⟨od,es,ep,k _ _ (.inl rfl) e,c⟩,r⟩
 |cU lo hi=>obtain⟨t,u,v,e⟩:=x;exact⟨t,u,v,k _ _ (.inl rfl) e⟩
 |kq ob u ih=>obtain⟨e,q⟩:=x;exact⟨k _ _ (.inl rfl) e,ih q⟩
 |jX ps =>
  have e:h.get? a=some { cls:=.none,data:=.fields ps }:=x
  show h'.get? a=some { cls:=.none,data:=.fields ps }
  exact k a _ (.inl rfl) e
 |met f y =>
  have e:h.get? a=some (adM (.ref f) (.ref y)):=x
  show h'.get? a=some (adM (.ref f) (.ref y))
  exact k a _ (.inl rfl) e
 |ext φ=>obtain⟨p,⟨o,e⟩,st⟩:=x;exact⟨st _ _ p λo q=>k _ _ (.inl rfl) q,⟨o,k _ _ (.inl rfl) e⟩,st⟩
theorem fA.lt (x:fA P w H h)(e:H a=some o):a<h.objs.size:=(x a o e).lt
theorem fA.fresh (x:fA P w H h)(e:h.objs.size<=a):H a=none:=by
 cases q:H a with
 |none=>rfl
 |some u=>exact absurd (Z5 (x.lt q) e) (aa_ _)
theorem fA.kept (x:fA P w H h)(k:∀b u,h.get? b=some u->h'.get? b=some u):fA P w H h':=λa o e =>
 (x a o e).ip (λb u _ q=>k b u q) (λ_ q=>q) λ_ _ q=>q
theorem fA.laid (x:fA P w H h)(k:∀b u,h.get? b=some u->h'.get? b=some u)(hp:h.objs.size<=a)(new:cZ P w (upd H a o) h' a o):fA P w (upd H a o) h':=λb u e=>by
 have hn:=x.fresh hp
 by_cases hb:b=a
 . subst hb;rw[bC]at e;cases e;exact new
 . rw[bh hb]at e
   exact(x b u e).ip (λc v _ q=>k c v q) (λc q=>by rw[bh (b_ q hn)];exact q) λc xs q=>by rw[bh (b_ q hn)];exact q
end
def Rd (H:Hp)(a:Addr)(u:HO):Prop:=H a=some u \/ ∃o,H a=some (.kq o u)
theorem Rd.ok {P:ZY}{w:World}{H:Hp}{h:Heap}{a:Addr}{u:HO}(r:Rd H a u)(x:fA P w H h):cZ P w H h a u:=by
 rcases r with r|⟨o,r⟩
 . exact x a u r
 . obtain⟨_,q⟩:=x a _ r
   exact q
noncomputable def Eu:Option HO->Prop
 |some (.lst _)=>True
 |some (.dK _)=>True
 |some (.dT _)=>True
 |some (.set _ _)=>True
 |some (.ins _ _ _)=>True
 |some (.ext _)=>True
 |_=>False
section
variable {P:ZY}{w:World}{H:Hp}{h h':Heap}{x e:Addr}{o':HO}
theorem fA.write (ok:fA P w H h)(mu:Eu (H x))(he:e=x\/H e=some (.own x))(k:∀b u,b≠e->h.get? b=some u->h'.get? b=some u)(wY:∃u,h'.get? e=some u)
   (new:cZ P w (upd H x o') h' x o'):fA P w (upd H x o') h':=λb u q=>by
 have Jq:∀c y,H c=some (.own y)->c≠x:=λc y r z=>by subst z;rw[r]at mu;exact mu
 have RF:∀c xs,H c=some (.tup xs)->c≠x:=λc xs r z=>by subst z;rw[r]at mu;exact mu
 by_cases hb:b=x
 . subst hb;rw[bC]at q;cases q;exact new
 . rw[bh hb]at q
   by_cases ud:b=e
   . have q':H b=some (.own x):=by
       rcases he with z|z
       . exact absurd (ud.trans z) hb
       . rw[ud];exact z
     rw[q]at q';cases q'
     obtain⟨v,hv⟩:=wY
     exact⟨v,by rw[ud];exact hv⟩
   . refine(ok b u q).ip (λc v hc r=>k c v ?_ r) (λc r=>by rw[bh (Jq c b r)];exact r) λc xs r=>by rw[bh (RF c xs r)];exact r
     rcases hc with rfl|hc
     . exact ud
     . rintro rfl
       rcases he with z|z
       . exact Jq c b hc z
       . rw[hc]at z;cases z;exact hb rfl
end
structure Un (fs ex:List Addr)(H H':Hp)(h h':Heap):Prop where
 keep:∀b o,h.get? b=some o->H b=none->b ∉ fs->b ∉ ex->h'.get? b=some o
 slot:∀b o,h.get? b=some o->H b=none->b∈fs->b ∉ ex->∃sl,h'.get? b=some { o with slots:=sl }
 free:∀b o,h.get? b=some o->H b=none->b ∉ ex->H' b=none
 there:∀b o,h.get? b=some o->b ∉ ex->∃o',h'.get? b=some o'
 md:∀b xs,H b=some (.tup xs)->H' b=some (.tup xs)
 kS:∀b o u,H b=some (.kq o u)->H' b=some (.kq o u)
 me:∀b ps,H b=some (.jX ps)->∃more,H' b=some (.jX (ps++more))
section
variable {fs YK ex YL:List Addr}{H H1 H2:Hp}{h h1 h2 h':Heap}{a x e:Addr}{o:HO}
theorem Un.any (u:Un fs ex H H1 h h1){b:Addr}{ob:Obj}(q:h.get? b=some ob)(n:H b=none)(hx:b ∉ ex):∃sl,h1.get? b=some { ob with slots:=sl }:=by
 by_cases hb:b∈fs
 . exact u.slot b ob q n hb hx
 . exact⟨ob.slots,u.keep b ob q n hb hx⟩
theorem Un.kept (k:∀b u,h.get? b=some u->h'.get? b=some u):Un fs ex H H h h' :=
 ⟨λb ob q _ _ _=>k b ob q,λb ob q _ _ _=>⟨ob.slots,k b ob q⟩,λ_ _ _ n _=>n,λb ob q _=>⟨ob,k b ob q⟩,λ_ _ q=>q,λ_ _ _ q=>q,λ_ ps q=>⟨#[],by rw[q];simp⟩⟩
theorem Un.refl:Un fs ex H H h h:=Un.kept λ_ _ q=>q
theorem Un.laid (k:∀b u,h.get? b=some u->h'.get? b=some u)(hp:h.objs.size<=a)(hn:H a=none):Un fs ex H (upd H a o) h h' where
 keep:=λb u q _ _ _=>k b u q
 slot:=λb u q _ _ _=>⟨u.slots,k b u q⟩
 free:=λb u q n _=>by rw[bh (ZP (Z5 (Zz q) hp))];exact n
 there:=λb u q _=>⟨u,k b u q⟩
 md:=λb xs q=>by rw[bh (b_ q hn)];exact q
 kS:=λb u xs q=>by rw[bh (b_ q hn)];exact q
 me:=λb ps q=>⟨#[],by rw[bh (b_ q hn),q];simp⟩
theorem Un.write (mu:Eu (H x))(he:e=x\/H e=some (.own x))(k:∀b u,b≠e->h.get? b=some u->h'.get? b=some u)(wY:∃u,h'.get? e=some u):Un fs ex H (upd H x o) h h':=by
 have hx:∀b,H b=none->b≠x:=λb n z=>by subst z;rw[n]at mu;exact mu
 have hb:∀b,H b=none->b≠e:=λb n z=>by
   subst z
   rcases he with r|r
   . exact hx b n r
   . rw[n]at r;cases r
 have hm:∀b u,H b=some u->¬Eu (some u)->b≠x:=λb u q nm z=>by subst z;rw[q]at mu;exact nm mu
 refine⟨λb u q n _ _=>k b u (hb b n) q,λb u q n _ _=>⟨u.slots,k b u (hb b n) q⟩,λb u q n _=>by rw[bh (hx b n)];exact n,λb u q _=>?_,
   λb xs q=>by rw[bh (hm b _ q λz=>z)];exact q,λb u xs q=>by rw[bh (hm b _ q λz=>z)];exact q,λb ps q=>⟨#[],by rw[bh (hm b _ q λz=>z),q];simp⟩⟩
 by_cases ud:b=e
 . subst ud;exact wY
 . exact⟨u,k b u ud q⟩
end
noncomputable def rW (h:Heap)(H:Hp):List Addr:=(Zx h.objs.size).filter λa=>(H a).isSome
noncomputable def kT (h:Heap)(H:Hp):Heap:=PySem.W.hideAll h (rW h H)
theorem zO (h:Heap)(H:Hp):(kT h H).objs.size=h.objs.size:=PySem.W.hideAll_size _ _
theorem Cm {h:Heap}{H:Hp}{b:Addr}{o:Obj}(e:h.get? b=some o)(n:H b=none):(kT h H).get? b=some o :=
 PySem.W.hideAll_get _ e λhm=>by
  have q:(H b).isSome=true:=(ZU.mp hm).2
  rw[n]at q;simp at q
theorem GJ {h:Heap}{H:Hp}{b:Addr}{o:Obj}(e:(kT h H).get? b=some o):h.get? b=some o/\H b=none:=by
 have e':h.get? b=some o:=PySem.W.of_hideAll (rW h H) e
 refine⟨e',?_⟩
 cases q:H b with
 |none=>rfl
 |some x =>
  have hm:b∈rW h H:=ZU.mpr ⟨ZJ.mpr (Zz e'),by simp[q]⟩
  have z:(kT h H).get? b=none:=PySem.W.hideAll_none (rW h H) hm
  rw[z]at e;cases e
noncomputable def GK (g h:Heap)(L:Addr):List (Addr×Obj):=(Zx h.objs.size).filterMap λa=>if a=L\/(g.get? a).isSome=true then none else(h.get? a).map λo=>(a,o)
noncomputable def rest (g h:Heap)(L d:Addr):List (Addr×Obj):=(GK g h L).filter λp=>decide (p.1≠d)
structure Mod (K:ZC)(mg:Str->Option Value)(base:Heap):Prop where
 ue:K.In base
 glob:base.Ns aal mg
 blt:∃mb,base.Ns adS mb /\ ∀x:Str,x ≠ "__name__"->mb x=aa6 x
 nolimit:base.NoLimit
structure Cx where
 prog:ZY
 w:World
 K:ZC
 mg:Str->Option Value
 base:Heap
 A:ZV
 N:List Str
 s₀:Zo
 H₀:Hp
 env:Env
 outer:List Env
 stack:List Env
 ex:List Addr
 fn:Str->Bool
 calm:Bool
 pn:List (Addr×Obj)
 xe:Value->Zo->Prop
noncomputable def lM (l:List Env):List Addr:=l.filterMap (·.frame)
noncomputable abbrev Cx.fs (X:Cx):List Addr:=lM X.outer
def Jr (sc:Scope)(x:Str):Prop:=sc.names.lookup x=some .local\/sc.names.lookup x=some .cell\/sc.names.lookup x=some .free
def Loc (sc:Scope)(x:Str):Prop:=sc.names.lookup x=some .local\/sc.names.lookup x=some .cell
noncomputable def Look (env:Env)(h:Heap)(m:Str->Option Value)(x:Str)(u:Value):Prop :=
 (env.kindOf x=some .local/\m x=some u)\/((env.kindOf x=some .cell\/env.kindOf x=some .free) /\ ∃c,env.cells.lookup x=some c/\h.IsCell c (some u))
structure Cx.Ok (X:Cx):Prop where
 mod:Mod X.K X.mg X.base
 kind:X.env.scope.kind = .function
 glob:X.env.globals=aal
 blt:X.env.builtins=adS
 above:X.s₀.heap.objs.size<=X.env.locals
 inj:∀x y c,X.env.cells.lookup x=some c->X.env.cells.lookup y=some c->x=y
 has:∀x,(X.env.kindOf x=some .cell\/X.env.kindOf x=some .free)->∃c,X.env.cells.lookup x=some c
 zP:∀x c,X.fn x=true->X.env.cells.lookup x=some c->X.s₀.heap.objs.size<=c
 hd:X.calm=true->X.A.handled=none
 frames:X.A.frames=some X.stack
 uf:X.stack=X.outer\/(X.stack=X.env::X.outer/\X.env.frame=some X.env.locals)
 Js:∀b∈X.ex,b≠X.env.locals /\ ∀x c,X.env.cells.lookup x=some c->c≠b
 bs:∀b o,X.base.get? b=some o->X.s₀.heap.get? b=some o/\X.H₀ b=none
 rX:X.base.objs.size<=X.s₀.heap.objs.size
 ug:∀b o,X.base.get? b=some o->b ∉ X.ex
 uh:∀b∈X.ex,b ∉ X.fs
 jD:X.s₀.heap.FunFrames X.base X.outer
 wZ:∀b∈X.fs,X.H₀ b=none
structure Inv (X:Cx)(pins:List (Addr×Obj))(σ:List (Option V))(H:Hp)(s:Zo):Prop where
 ok:X.Ok
 os:s.os=X.s₀.os
 bare:acU s.gens
 base:Un X.fs X.ex X.H₀ H X.s₀.heap s.heap
 loc:∃m,s.heap.Ns X.env.locals m /\ ∀(i:Nat) (x:Str) (v:V),X.N[i]? = some x->σ[i]? = some (some v)->Jr X.env.scope x->∃u,RelV v u/\Look X.env s.heap m x u
 cell:∀x c,X.env.cells.lookup x=some c->∃v,s.heap.IsCell c v
 free:H X.env.locals=none
 iL:∀x c,X.env.cells.lookup x=some c->H c=none
 pin:∀p∈X.pn++pins,s.heap.get? p.1=some p.2/\H p.1=none/\p.1≠X.env.locals/\p.1 ∉ X.fs /\ ∀v,p.2.data ≠ .cell v
 bK:fA X.prog X.w H s.heap
 len:σ.length=X.N.length
section
variable {X:Cx}{pins:List (Addr×Obj)}{σ:List (Option V)}{H H':Hp}{s:Zo}{h':Heap}
theorem Cx.Ok.RG (ok:X.Ok){b:Addr}{o:Obj}(e:X.base.get? b=some o):b ∉ X.fs:=λhb=>by
 have:=(ok.jD.mem hb).1
 rw[e]at this;cases this
theorem Inv.bs (I:Inv X pins σ H s):∀b o,X.base.get? b=some o->s.heap.get? b=some o/\H b=none:=λb o e =>
 ⟨I.base.keep b o (I.ok.bs b o e).1 (I.ok.bs b o e).2 (I.ok.RG e) (I.ok.ug b o e),I.base.free b o (I.ok.bs b o e).1 (I.ok.bs b o e).2 (I.ok.ug b o e)⟩
theorem Inv.bk (I:Inv X pins σ H s):∀b o,X.base.get? b=some o->s.heap.get? b=some o:=λb o e=>(I.bs b o e).1
theorem Inv.mod (I:Inv X pins σ H s):Mod X.K X.mg X.base:=I.ok.mod
theorem Inv.i9 (I:Inv X pins σ H s):X.K.In s.heap:=I.ok.mod.ue.keeps I.bk
theorem Inv.lt (I:Inv X pins σ H s):X.env.locals<s.heap.objs.size:=let⟨_,hn,_⟩:=I.loc;hn.lt
theorem Inv.sz (I:Inv X pins σ H s):X.s₀.heap.objs.size<=s.heap.objs.size:=aa7 I.ok.above (abT I.lt)
theorem Inv.RH (I:Inv X pins σ H s){a:Addr}(h:s.heap.objs.size<=a):a ∉ X.fs:=λhb=>by
 obtain⟨_,o,ho,_⟩:=I.ok.jD.mem hb
 exact absurd (Z5 (Zz ho) (aa7 I.sz h)) (aa_ _)
theorem Inv.uk (I:Inv X pins σ H s):∀x c,X.env.cells.lookup x=some c->c≠X.env.locals:=λx c e z=>by
 obtain⟨v,o,ho,hd⟩:=I.cell x c e
 obtain⟨m,⟨o',es,ep,ia,Jt,_⟩,_⟩:=I.loc
 rw[z,ia]at ho;cases ho;rw[Jt]at hd;cases hd
theorem Inv.jD (I:Inv X pins σ H s):s.heap.FunFrames X.base X.outer:=by
 have all:∀(l:List Env),(∀b∈lM l,b∈X.fs)->X.s₀.heap.FunFrames X.base l->s.heap.FunFrames X.base l:=by
  intro l
  induction l with
  |nil=>intro _ _;trivial
  |cons env r ih =>
   intro hs hl
   obtain⟨hk,⟨L,o,hf,hn,ho,hd⟩,hr⟩:=hl
   have hL:L∈X.fs:=hs L (by unfold lM;rw[aa3,hf];exact ZO)
   obtain⟨sl,e⟩:=I.base.slot L o ho (I.ok.wZ L hL) hL λz=>I.ok.uh L z hL
   exact⟨hk,⟨L,_,hf,hn,e,hd⟩,ih (λb hb=>hs b (by unfold lM;rw[aa3,hf];exact ZQ _ hb)) hr⟩
 exact all X.outer (λ_ hb=>hb) I.ok.jD
theorem Inv.stack (I:Inv X pins σ H s):s.heap.FunFrames X.base X.stack:=by
 rcases I.ok.uf with e|⟨e,hf⟩
 . rw[e];exact I.jD
 . rw[e]
   obtain⟨m,hn,_⟩:=I.loc
   refine .cons (by rw[I.ok.kind];decide) hf hn ?_ I.jD
   exact aeM (aa7 I.ok.rX I.ok.above)
theorem Inv.um (I:Inv X pins σ H s):∀b∈lM X.stack,b∈X.env.locals::X.fs:=λb hb=>by
 rcases I.ok.uf with e|⟨e,hf⟩
 . rw[e]at hb;exact ZQ _ hb
 . rw[e]at hb
   unfold lM at hb
   rw[aa3,hf]at hb
   exact hb
theorem Inv.w4 (I:Inv X pins σ H s):∀b∈lM X.stack,H b=none:=λb hb=>by
 rcases ZE.mp (I.um b hb)with e|hb
 . rw[e];exact I.free
 . obtain⟨_,o,ho,_⟩:=I.ok.jD.mem hb
   exact I.base.free b o ho (I.ok.wZ b hb) λz=>I.ok.uh b z hb
theorem Inv.step {g':Array GenState}{t':Nat}{d':Drawn}{ch:List Addr}(I:Inv X pins σ H s)
   (nW:∀b∈ch,(b∈X.ex\/X.s₀.heap.objs.size<=b)/\b≠X.env.locals/\(∀x c,X.env.cells.lookup x=some c->c≠b) /\ ∀p∈X.pn++pins,p.1≠b)
   (keep:∀b o,b≠X.env.locals->b ∉ X.fs->b ∉ ch->s.heap.get? b=some o->H b=none->h'.get? b=some o)
   (slot:∀b o,b≠X.env.locals->b∈X.fs->b ∉ ch->s.heap.get? b=some o->H b=none->∃sl,h'.get? b=some { o with slots:=sl }) (free:∀b o,b ∉ ch->s.heap.get? b=some o->H b=none->H' b=none)
   (there:∀b o,b ∉ ch->s.heap.get? b=some o->∃o',h'.get? b=some o')
   (md:∀b xs,H b=some (.tup xs)->H' b=some (.tup xs)) (kS:∀b o u,H b=some (.kq o u)->H' b=some (.kq o u)) (me:∀b ps,H b=some (.jX ps)->∃more,H' b=some (.jX (ps++more)))
   (ns:∀m,s.heap.Ns X.env.locals m->h'.Ns X.env.locals m) (bK:fA X.prog X.w H' h') (hg:acU g'):
   Inv X pins σ H' { s with heap:=h',gens:=g',drawn:=d',toks:=t' }:=by
 have Qa:∀b o,X.s₀.heap.get? b=some o->b≠X.env.locals:=λb o e=>ZP (Z5 (Zz e) I.ok.above)
 have Ew:∀b o,X.s₀.heap.get? b=some o->b ∉ X.ex->b ∉ ch:=λb o e hx hb=>by
   rcases (nW b hb).1 with z|z
   . exact hx z
   . exact absurd (Z5 (Zz e) z) (aa_ _)
 have cellK:∀x c,X.env.cells.lookup x=some c->∀v,s.heap.IsCell c v->h'.IsCell c v:=λx c e v ⟨o,ho,hd⟩=>by
   have zQ:c ∉ ch:=λz=>(nW c z).2.2.1 x c e rfl
   by_cases hc:c∈X.fs
   . obtain⟨sl,q⟩:=slot c o (I.uk x c e) hc zQ ho (I.iL x c e)
     exact⟨_,q,hd⟩
   . exact⟨o,keep c o (I.uk x c e) hc zQ ho (I.iL x c e),hd⟩
 refine⟨I.ok,I.os,hg,⟨λb o e n hb hx=>?_,λb o e n hb hx=>?_,λb o e n hx=>?_,λb o e hx=>?_,λb xs e=>md b xs (I.base.md b xs e),λb o xs e=>kS b o xs (I.base.kS b o xs e),λb ps e=>?_⟩,?_,λx c e=>?_,?_,λx c e=>?_,λp hp=>?_,bK,I.len⟩
 . exact keep b o (Qa b o e) hb (Ew b o e hx) (I.base.keep b o e n hb hx) (I.base.free b o e n hx)
 . obtain⟨sl,e1⟩:=I.base.slot b o e n hb hx
   obtain⟨VN,e2⟩:=slot b _ (Qa b o e) hb (Ew b o e hx) e1 (I.base.free b o e n hx)
   exact⟨VN,e2⟩
 . obtain⟨o',e1⟩:=I.base.there b o e hx
   exact free b o' (Ew b o e hx) e1 (I.base.free b o e n hx)
 . obtain⟨o',e1⟩:=I.base.there b o e hx
   exact there b o' (Ew b o e hx) e1
 . obtain⟨m1,e1⟩:=I.base.me b ps e
   obtain⟨m2,e2⟩:=me b _ e1
   exact⟨m1++m2,by rw[e2,Array.append_assoc]⟩
 . obtain⟨m,hn,hl⟩:=I.loc
   refine⟨m,ns m hn,λi x v e1 e2 e3=>?_⟩
   obtain⟨u,r,l⟩:=hl i x v e1 e2 e3
   refine⟨u,r,?_⟩
   rcases l with l|⟨k,c,e,z⟩
   . exact .inl l
   . exact .inr ⟨k,c,e,cellK x c e _ z⟩
 . obtain⟨v,z⟩:=I.cell x c e
   exact⟨v,cellK x c e v z⟩
 . obtain⟨m,⟨o,_,_,ho,_⟩,_⟩:=I.loc
   exact free _ o (λz=>(nW _ z).2.1 rfl) ho I.free
 . obtain⟨v,o,ho,hd⟩:=I.cell x c e
   exact free c o (λz=>(nW c z).2.2.1 x c e rfl) ho (I.iL x c e)
 . obtain⟨e,n,ne,nf,d⟩:=I.pin p hp
   have zQ:p.1 ∉ ch:=λz=>(nW p.1 z).2.2.2 p hp rfl
   exact⟨keep p.1 p.2 ne nf zQ e n,free p.1 p.2 zQ e n,ne,nf,d⟩
theorem Inv.un {t':Nat}(I:Inv X pins σ H s)(u:Un X.fs [] H H' s.heap h')(bK:fA X.prog X.w H' h'):Inv X pins σ H' { s with heap:=h',toks:=t' }:=by
 obtain⟨m,⟨o,es,ep,ho,r⟩,_⟩:=id I.loc
 obtain⟨sl,hL⟩:=u.any ho I.free (by simp)
 exact I.step (g':=s.gens) (d':=s.drawn) (ch:=[]) (λ_ z=>nomatch z) (λb o _ hb _ e n=>u.keep b o e n hb (by simp)) (λb o _ hb _ e n=>u.slot b o e n hb (by simp)) (λb o _ e n=>u.free b o e n (by simp)) (λb o _ e=>u.there b o e (by simp)) u.md u.kS u.me (λm' hm=>by
  obtain⟨o',bY,Ju,ia,r'⟩:=hm
  rw[ho]at ia;cases ia
  exact⟨_,bY,Ju,hL,r'⟩) bK I.bare
theorem Inv.call {g':Array GenState}{t':Nat}{d':Drawn}{ch:List Addr}(I:Inv X pins σ H s)(u:Un (lM X.stack) ch H H' s.heap h')(bK:fA X.prog X.w H' h')(hg:acU g')
  (nW:∀b∈ch,(b∈X.ex\/X.s₀.heap.objs.size<=b)/\b≠X.env.locals/\(∀x c,X.env.cells.lookup x=some c->c≠b) /\ ∀p∈X.pn++pins,p.1≠b):
  Inv X pins σ H' { s with heap:=h',gens:=g',drawn:=d',toks:=t' }:=by
 obtain⟨m,⟨o,es,ep,ho,r⟩,_⟩:=id I.loc
 obtain⟨sl,hL⟩:=u.any ho I.free λz=>(nW _ z).2.1 rfl
 exact I.step (ch:=ch) nW (λb o hL hb hc e n=>u.keep b o e n (λz=>(ZE.mp (I.um b z)).elim hL hb) hc) (λb o _ _ hc e n=>u.any e n hc) (λb o hc e n=>u.free b o e n hc) (λb o hc e=>u.there b o e hc) u.md u.kS u.me (λm' hm=>by
  obtain⟨o',bY,Ju,ia,r'⟩:=hm
  rw[ho]at ia;cases ia
  exact⟨_,bY,Ju,hL,r'⟩) bK hg
theorem Inv.turned {t':Nat}{it:Addr}(I:Inv X pins σ H s)(k:∀b o,b≠it->s.heap.get? b=some o->h'.get? b=some o)(hn:H it=none)(hL:it≠X.env.locals)
   (h1:it∈X.ex\/X.s₀.heap.objs.size<=it) (h2:∀x c,X.env.cells.lookup x=some c->c≠it) (h3:∀p∈X.pn++pins,p.1≠it):Inv X pins σ H { s with heap:=h',toks:=t' }:=by
 have zR:∀b u,H b=some u->b≠it:=λb u e z=>by rw[z,hn]at e;cases e
 refine I.step (g':=s.gens) (d':=s.drawn) (ch:=[it]) (λb hb=>?_) (λb o _ _ hc e _=>k b o (λz=>hc (by simp[z])) e) (λb o _ _ hc e _=>⟨o.slots,k b o (λz=>hc (by simp[z])) e⟩) (λ_ _ _ _ n=>n)
   (λb o hc e=>⟨o,k b o (λz=>hc (by simp[z])) e⟩) (λ_ _ e=>e) (λ_ _ _ e=>e) (λb ps e=>⟨#[],by rw[e];simp⟩) (λm hm=>?_) (λb u e=>?_) I.bare
 . have e:b=it:=by simpa using hb
   subst e
   exact⟨h1,hL,h2,h3⟩
 . obtain⟨o,es,ep,ho,r⟩:=hm
   exact⟨o,es,ep,k _ o (acb hL) ho,r⟩
 . refine(I.bK b u e).ip (λc v hc q=>k c v ?_ q) (λ_ q=>q) λ_ _ q=>q
   rcases hc with z|z
   . rw[z];exact zR b u e
   . exact zR c _ z
theorem Inv.tok (I:Inv X pins σ H s)(t:Nat):Inv X pins σ H { s with toks:=t }:=I.un (h':=s.heap) (t':=t) Un.refl I.bK
theorem Inv.kept {t':Nat}(I:Inv X pins σ H s)(k:∀b u,s.heap.get? b=some u->h'.get? b=some u):Inv X pins σ H { s with heap:=h',toks:=t' }:=I.un (Un.kept k) (I.bK.kept k)
theorem Inv.laid {a:Addr}{o:HO}{t':Nat}(I:Inv X pins σ H s)(k:∀b u,s.heap.get? b=some u->h'.get? b=some u)(hp:s.heap.objs.size<=a)(new:cZ X.prog X.w (upd H a o) h' a o):
 Inv X pins σ (upd H a o) { s with heap:=h',toks:=t' }:=I.un (Un.laid k hp (I.bK.fresh hp)) (I.bK.laid k hp new)
theorem Inv.write {x e:Addr}{o:HO}{t':Nat}(I:Inv X pins σ H s)(mu:Eu (H x))(he:e=x\/H e=some (.own x))(k:∀b u,b≠e->s.heap.get? b=some u->h'.get? b=some u)(wY:∃u,h'.get? e=some u)
 (new:cZ X.prog X.w (upd H x o) h' x o):Inv X pins σ (upd H x o) { s with heap:=h',toks:=t' }:=I.un (Un.write mu he k wY) (I.bK.write mu he k wY new)
theorem Inv.w5 {Ex:List (Addr×Obj)}(I:Inv X pins σ H s)(h:∀p∈Ex,s.heap.get? p.1=some p.2/\H p.1=none/\p.1≠X.env.locals/\p.1 ∉ X.fs /\ ∀v,p.2.data ≠ .cell v):Inv X Ex σ H s :=
 ⟨I.ok,I.os,I.bare,I.base,I.loc,I.cell,I.free,I.iL,λp hp=>(Zw.mp hp).elim (λz=>I.pin p (ac1 _ z)) (h p),I.bK,I.len⟩
theorem uo {N:List Str}(hN:N.Nodup){i j:Nat}{x:Str}(a:N[i]? = some x)(b:N[j]? = some x):i=j:=by
 obtain⟨h1,e1⟩:=Zs.mp a
 obtain⟨h2,e2⟩:=Zs.mp b
 exact(ad3 hN).mp (e1.trans e2.symm)
theorem rY {M:Model}{A:ZV}{E:Value->Zo->Prop}{i:Nat}{x:Str}{v:V}{u:Value}{Q:Unit->Zo->Prop}(I:Inv X pins σ H s)(hN:X.N.Nodup)(hi:X.N[i]? = some x)(hx:Loc X.env.scope x)(r:RelV v u)
   (h:∀s',Inv X pins (σ.set i (some v)) H s'->(∃a,acd a s.heap s'.heap/\(a=X.env.locals\/X.env.cells.lookup x=some a))->Q () s') (hf:X.fn x=true\/X.env.scope.names.lookup x=some .local:=by first|exact .inl rfl|exact .inr rfl|assumption):wpAny M A (storeName X.env x u) Q E s:=by
 obtain⟨m,hn,hl⟩:=id I.loc
 have RJ:(X.env.scope.kind == .class||(X.env.scope.kind == .module&&X.env.locals != X.env.globals))=false:=by rw[I.ok.kind];rfl
 have hiσ:i < σ.length:=by rw[I.len];exact(Zs.mp hi).1
 have uk:=I.uk
 have tracked:∀{a:Addr} {h':Heap},(∃o,s.heap.get? a=some o/\H a=none)->acd a s.heap h'->fA X.prog X.w H h':=fun {a h'} ha hs b ob e=>by
   obtain⟨_,_,pA⟩:=ha
   refine(I.bK b ob e).ip (λc w' hc q=>(hs.2 c ?_).trans q) (λ_ q=>q) λ_ _ q=>q
   rintro rfl
   rcases hc with rfl|hc
   . rw[pA]at e;cases e
   . rw[pA]at hc;cases hc
 rcases hx with hk|hk
 . refine wpAny_storeName_local hk hn (λh' VO hs=>?_) RJ
   obtain⟨oL,_,_,rZ,_⟩:=id hn
   refine h _ ⟨I.ok,I.os,I.bare,⟨λb o e n hb hx=>?_,λb o e n hb hx=>?_,I.base.free,λb o e hx=>?_,I.base.md,I.base.kS,I.base.me⟩,⟨_,VO,λj y v' e1 e2 e3=>?_⟩,λy c e=>?_,I.free,I.iL,λp hp=>?_,tracked ⟨oL,rZ,I.free⟩ hs,by simpa using I.len⟩ ⟨_,hs,.inl rfl⟩
   . exact(hs.2 b (ZP (Z5 (Zz e) I.ok.above))).trans (I.base.keep b o e n hb hx)
   . obtain⟨sl,e1⟩:=I.base.slot b o e n hb hx
     exact⟨sl,(hs.2 b (ZP (Z5 (Zz e) I.ok.above))).trans e1⟩
   . obtain⟨o',e1⟩:=I.base.there b o e hx
     exact⟨o',(hs.2 b (ZP (Z5 (Zz e) I.ok.above))).trans e1⟩
   . by_cases hj:j=i
     . subst hj
       rw[hi]at e1;cases e1
       rw[aay hiσ]at e2
       cases e2
       exact⟨u,r,.inl ⟨hk,by simp⟩⟩
     . rw[Z6 (acb hj)]at e2
       obtain⟨u',r',q⟩:=hl j y v' e1 e2 e3
       refine⟨u',r',?_⟩
       rcases q with⟨k,e⟩|⟨k,c,e,z⟩
       . refine .inl ⟨k,?_⟩
         have:y≠x:=λe=>hj (uo hN e1 (e ▸ hi))
         simp[this,e]
       . exact .inr ⟨k,c,e,z.sameBut hs (uk y c e)⟩
   . obtain⟨w',z⟩:=I.cell y c e
     exact⟨w',z.sameBut hs (uk y c e)⟩
   . obtain⟨e,n,ne,nf,d⟩:=I.pin p hp
     exact⟨(hs.2 p.1 ne).trans e,n,ne,nf,d⟩
 . have uq:X.fn x=true:=by
     rcases hf with z|z
     . exact z
     . rw[z]at hk;cases hk
   obtain⟨c,hc⟩:=I.ok.has x (.inl hk)
   obtain⟨w',z⟩:=I.cell x c hc
   refine wpAny_storeName_cell I.ok.kind hk hc z (λh' r6 hs=>?_)
   obtain⟨oc,Qb,RK⟩:=id z
   refine h { s with heap:=h' } ⟨I.ok,I.os,I.bare,⟨λb o e n hb hx=>?_,λb o e n hb hx=>?_,I.base.free,λb o e hx=>?_,I.base.md,I.base.kS,I.base.me⟩,⟨m,hn.sameBut hs (acb (uk x c hc)),λj y v' e1 e2 e3=>?_⟩,λy c' e=>?_,I.free,I.iL,λp hp=>?_,tracked ⟨oc,Qb,I.iL x c hc⟩ hs,by simpa using I.len⟩ ⟨c,hs,.inr hc⟩
   . exact(hs.2 b (ZP (Z5 (Zz e) (I.ok.zP x c uq hc)))).trans (I.base.keep b o e n hb hx)
   . obtain⟨sl,e1⟩:=I.base.slot b o e n hb hx
     exact⟨sl,(hs.2 b (ZP (Z5 (Zz e) (I.ok.zP x c uq hc)))).trans e1⟩
   . obtain⟨o',e1⟩:=I.base.there b o e hx
     exact⟨o',(hs.2 b (ZP (Z5 (Zz e) (I.ok.zP x c uq hc)))).trans e1⟩
   . by_cases hj:j=i
     . subst hj
       rw[hi]at e1;cases e1
       rw[aay hiσ]at e2
       cases e2
       exact⟨u,r,.inr ⟨.inl hk,c,hc,r6⟩⟩
     . rw[Z6 (acb hj)]at e2
       obtain⟨u',r',q⟩:=hl j y v' e1 e2 e3
       refine⟨u',r',?_⟩
       rcases q with q|⟨k,c',e,z'⟩
       . exact .inl q
       . refine .inr ⟨k,c',e,z'.sameBut hs ?_⟩
         rintro rfl
         exact hj (uo hN e1 (I.ok.inj _ _ _ e hc ▸ hi))
   . by_cases Qc:c'=c
     . subst Qc;exact⟨_,r6⟩
     . obtain⟨w2,z2⟩:=I.cell y c' e
       exact⟨w2,z2.sameBut hs Qc⟩
   . obtain⟨e,n,ne,nf,d⟩:=I.pin p hp
     refine⟨(hs.2 p.1 ?_).trans e,n,ne,nf,d⟩
     intro q
     rw[q,Qb]at e
     have q':oc=p.2:=aaf e
     exact d w' (by rw[<- q'];exact RK)
theorem ur {M:Model}{A:ZV}{E:Value->Zo->Prop}{i:Nat}{x:Str}{v:V}{u:Value}{Q:Unit->Zo->Prop}(I:Inv X pins σ H s)(hN:X.N.Nodup)(hi:X.N[i]? = some x)(hx:Loc X.env.scope x)(r:RelV v u)
  (h:∀s',Inv X pins (σ.set i (some v)) H s'->Q () s') (hf:X.fn x=true\/X.env.scope.names.lookup x=some .local:=by first|exact .inl rfl|exact .inr rfl|assumption):wpAny M A (storeName X.env x u) Q E s :=
 rY I hN hi hx r (λs' I' _=>h s' I') hf
theorem Inv.OA {s':Zo}{ch:List Addr}(I:Inv X pins σ H s)(ho:s'.os=s.os)(u:Un (lM X.stack) ch H H' s.heap s'.heap)(bK:fA X.prog X.w H' s'.heap)(hg:acU s'.gens)
  (nW:∀b∈ch,(b∈X.ex\/X.s₀.heap.objs.size<=b)/\b≠X.env.locals/\(∀x c,X.env.cells.lookup x=some c->c≠b) /\ ∀p∈X.pn++pins,p.1≠b):Inv X pins σ H' s':=by
 obtain⟨h',g',d',t',o'⟩:=s'
 have e:o'=s.os:=ho
 subst e
 exact I.call (g':=g') (t':=t') (d':=d') u bK hg nW
end
abbrev XK:=Value->Option Addr->Hp->Prop
abbrev St:=List (Option V)
abbrev VK:=V->Hp->Prop
abbrev TE:=St->Hp->VK->Prop
abbrev TT:=St->Hp->(Bool->Hp->Prop)->Prop
abbrev TA:=St->Hp->(List V->Hp->Prop)->Prop
structure Ends where
 nx:St->Hp->Prop
 rt:VK
 bk:St->Hp->Prop:=λ_ _=>False
 ct:St->Hp->Prop:=λ_ _=>False
abbrev TS:=Ends->St->Hp->Prop
def EP (X:Cx)(pins:List (Addr×Obj))(σ:St)(Q:VK)(u:Value)(s':Zo):Prop:=∃v H',Inv X pins σ H' s'/\RelV v u/\Q v H'
def TP (X:Cx)(pins:List (Addr×Obj))(σ:St)(Q:Bool->Hp->Prop)(b:Bool)(s':Zo):Prop:=∃H',Inv X pins σ H' s'/\Q b H'
def AP (X:Cx)(pins:List (Addr×Obj))(σ:St)(Q:List V->Hp->Prop)(us:List Value)(s':Zo):Prop:=∃vs H',Inv X pins σ H' s'/\Vals vs us/\Q vs H'
noncomputable def SP (X:Cx)(pins:List (Addr×Obj))(D:Ends)(f:Flow)(s':Zo):Prop :=
 match f with
 |.next=>∃σ' H',Inv X pins σ' H' s'/\D.nx σ' H'
 |.brk=>∃σ' H',Inv X pins σ' H' s'/\D.bk σ' H'
 |.cont=>∃σ' H',Inv X pins σ' H' s'/\D.ct σ' H'
 |.ret u=>∃v σ' H',Inv X pins σ' H' s'/\RelV v u/\D.rt v H'
noncomputable def PE (X:Cx)(e:Expr)(t:TE):Prop :=
 ∀(pins:List (Addr×Obj)) (s:Zo) (σ:St) (H:Hp) (Q:VK),Inv X pins σ H s->t σ H Q->wpAny (model X.prog X.w) X.A (eval e X.env) (EP X pins σ Q) X.xe s
noncomputable def PT (X:Cx)(e:Expr)(t:TT):Prop :=
 ∀(pins:List (Addr×Obj)) (s:Zo) (σ:St) (H:Hp) (Q:Bool->Hp->Prop),Inv X pins σ H s->t σ H Q->wpAny (model X.prog X.w) X.A (isTrue e X.env (eval e X.env)) (TP X pins σ Q) X.xe s
noncomputable def PW (X:Cx)(e:Expr)(t:TT):Prop :=
 ∀(whole:Sem Value) (pins:List (Addr×Obj)) (s:Zo) (σ:St) (H:Hp) (Q:Bool->Hp->Prop),Inv X pins σ H s->t σ H Q->wpAny (model X.prog X.w) X.A (isTrue e X.env whole) (TP X pins σ Q) X.xe s
theorem PW.pt {X:Cx}{e:Expr}{t:TT}(h:PW X e t):PT X e t:=h _
noncomputable def PA (X:Cx)(es:List Expr)(t:TA):Prop :=
 ∀(pos:Pos) (pins:List (Addr×Obj)) (s:Zo) (σ:St) (H:Hp) (Q:List V->Hp->Prop),Inv X pins σ H s->t σ H Q->wpAny (model X.prog X.w) X.A (spliced (abU pos (ZS es X.env))) (AP X pins σ Q) X.xe s
noncomputable def PS (X:Cx)(st:Stmt)(t:TS):Prop :=
 ∀(pins:List (Addr×Obj)) (s:Zo) (σ:St) (H:Hp) (D:Ends),Inv X pins σ H s->t D σ H->wpAny (model X.prog X.w) X.A (exec st X.env) (SP X pins D) X.xe s
noncomputable def gS (X:Cx)(st:List Stmt)(t:TS):Prop :=
 ∀(pins:List (Addr×Obj)) (s:Zo) (σ:St) (H:Hp) (D:Ends),Inv X pins σ H s->t D σ H->wpAny (model X.prog X.w) X.A (execs st X.env) (SP X pins D) X.xe s
theorem bp {α:Type}{t:Sem α}{Q Q':α->Zo->Prop}{M:Model}{A:ZV}{E:Value->Zo->Prop}{s:Zo}(h:wpAny M A t Q E s)(hQ:∀a s,Q a s->Q' a s):wpAny M A t Q' E s:=ac2 h hQ λ_ _ x=>x
section
variable {X:Cx}
noncomputable def RL (i:Nat):TE:=λσ H Q=>∃v,σ[i]? = some (some v)/\Q v H
noncomputable def tC (v:V):TE:=λ_ H Q=>Q v H
theorem Jv {i:Nat}{x:Str}{pos:Pos}(hN:X.N[i]? = some x)(hv:Jr X.env.scope x)(hd:(x == ("__debug__":Str))=false:=by decide)(nX:(x == ("__classdict__":Str))=false:=by decide):PE X (.Name x pos) (RL i):=by
 intro pins s σ H Q I h
 obtain⟨v,e,h⟩:=h
 obtain⟨m,hn,hl⟩:=I.loc
 obtain⟨u,r,l⟩:=hl i x v hN e hv
 have fin:EP X pins σ Q u s:=⟨v,H,I,r,h⟩
 rcases l with⟨hk,hm⟩|⟨hk,c,hc,tG⟩
 . exact wpAny_Name (wpAny_loadName_local I.ok.kind hk hn hm fin) hd
 . rcases hk with hk|hk
   . exact wpAny_Name (wpAny_loadName_cell I.ok.kind hk hc tG fin) hd
   . exact wpAny_Name (wpAny_loadName_free I.ok.kind hk hc tG fin nX) hd
theorem Jw {i j pos}:PE X (.Constant (.int i) j pos) (tC (.int i)):=λ_ _ _ H _ I h=>wpAny_Constant_int ⟨.int i,H,I.tok _,⟨_,rfl⟩,h⟩
theorem OB {b j pos}:PE X (.Constant (.bool b) j pos) (tC (.bl b)):=λ_ _ _ H _ I h=>Constant_bool ⟨.bl b,H,I,rfl,h⟩
theorem Jx {j pos}:PE X (.Constant .none j pos) (tC .az):=λ_ _ _ H _ I h=>Constant_none ⟨.az,H,I,rfl,h⟩
theorem Jy {x j pos}:PE X (.Constant (.str x) j pos) (tC (.str x)):=λ_ _ _ H _ I h=>aff ⟨.str x,H,I.tok _,⟨_,rfl⟩,h⟩
def Gl (X:Cx)(x:Str):Prop:=X.env.kindOf x=some .globalImplicit
theorem qL {E:Value->Zo->Prop}{pins:List (Addr×Obj)}{s:Zo}{σ:St}{H:Hp}{x:Str}{u:Value}{pos:Pos}{Q:Value->Zo->Prop}(I:Inv X pins σ H s)(hg:Gl X x)(hm:X.mg x=some u)(h:Q u s)
  (hd:(x == ("__debug__":Str))=false:=by decide):wpAny (model X.prog X.w) X.A (eval (.Name x pos) X.env) Q E s :=
 adE I.ok.kind hg (Calls.loadGlobal_global (by rw[I.ok.glob];exact I.mod.glob.keeps I.bk) hm h) hd
theorem gj {E:Value->Zo->Prop}{pins:List (Addr×Obj)}{s:Zo}{σ:St}{H:Hp}{x:Str}{u:Value}{pos:Pos}{Q:Value->Zo->Prop}(I:Inv X pins σ H s)(hg:Gl X x)(hm:X.mg x=none)(hv:aa6 x=some u)(h:Q u s)
  (hn:x ≠ "__name__":=by decide) (hd:(x == ("__debug__":Str))=false:=by decide):wpAny (model X.prog X.w) X.A (eval (.Name x pos) X.env) Q E s:=by
 obtain⟨mb,h1,h2⟩:=I.mod.blt
 exact adE I.ok.kind hg (Calls.loadGlobal_builtin (by rw[I.ok.glob];exact I.mod.glob.keeps I.bk) hm (by rw[I.ok.blt];exact h1.keeps I.bk) ((h2 x hn).trans hv) h) hd
theorem w6 {x:Str}{v:V}{u:Value}{pos:Pos}(hg:Gl X x)(hm:X.mg x=some u)(r:RelV v u)(hd:(x == ("__debug__":Str))=false:=by decide):PE X (.Name x pos) (tC v):=
 λ_ _ _ H _ I h=>qL I hg hm ⟨v,H,I,r,h⟩ hd
theorem GL {x:Str}{v:V}{u:Value}{pos:Pos}(hg:Gl X x)(hm:X.mg x=none)(hv:aa6 x=some u)(r:RelV v u)(hn:x ≠ "__name__":=by decide)(hd:(x == ("__debug__":Str))=false:=by decide):PE X (.Name x pos) (tC v):=
 λ_ _ _ H _ I h=>gj I hg hm hv ⟨v,H,I,r,h⟩ hn hd
variable {a b:Expr}{ta tb:TE}{pos:Pos}
noncomputable def tB (t:TE):TT:=λσ H Q=>t σ H λx H1=>∃c,x = .bl c/\Q c H1
variable {tA Ey:TT}{rest:List Expr}
noncomputable def RM (t u:TT):TT:=λσ H Q=>t σ H λc H1=>if c=true then u σ H1 Q else Q false H1
noncomputable def VP (t u:TT):TT:=λσ H Q=>t σ H λc H1=>if c=true then Q true H1 else u σ H1 Q
noncomputable def RN (t:TT):TT:=λσ H Q=>t σ H λc H1=>Q (!c) H1
theorem GN (ha:PT X a tA):PW X (.BoolOp .And [a] pos) tA:=by
 intro wh pins s σ H Q I h
 refine isTrue_and (bp (ha pins s σ H Q I h) λc s1 e=>?_)
 cases c with
 |true=>exact isTrue_and_nil e
 |false=>exact e
theorem Jz (ha:PT X a tA):PW X (.BoolOp .Or [a] pos) tA:=by
 intro wh pins s σ H Q I h
 refine isTrue_or (bp (ha pins s σ H Q I h) λc s1 e=>?_)
 cases c with
 |false=>exact isTrue_or_nil e
 |true=>exact e
theorem JA (ha:PT X a tA)(hb:PW X (.BoolOp .And (b::rest) pos) Ey):PW X (.BoolOp .And (a::b::rest) pos) (RM tA Ey):=by
 intro wh pins s σ H Q I h
 refine isTrue_and (bp (ha pins s σ H _ I h) λc s1 ⟨H1,I1,q1⟩=>?_)
 cases c with
 |true=>exact hb wh pins s1 σ H1 Q I1 q1
 |false=>exact⟨H1,I1,q1⟩
theorem OC (ha:PT X a tA)(hb:PW X (.BoolOp .Or (b::rest) pos) Ey):PW X (.BoolOp .Or (a::b::rest) pos) (VP tA Ey):=by
 intro wh pins s σ H Q I h
 refine isTrue_or (bp (ha pins s σ H _ I h) λc s1 ⟨H1,I1,q1⟩=>?_)
 cases c with
 |true=>exact⟨H1,I1,q1⟩
 |false=>exact hb wh pins s1 σ H1 Q I1 q1
theorem JB (ha:PT X a tA):PT X (.UnaryOp .Not a pos) (RN tA):=by
 intro pins s σ H Q I h
 exact isTrue_not (ha pins s σ H (λc H1=>Q (!c) H1) I h)
noncomputable def OD (ta tb:TE):TE:=λσ H Q=>ta σ H λx H1=>∃c,x = .bl c/\if c=true then tb σ H1 Q else Q (.bl false) H1
noncomputable def RO (ta tb:TE):TE:=λσ H Q=>ta σ H λx H1=>∃c,x = .bl c/\if c=true then Q (.bl true) H1 else tb σ H1 Q
noncomputable def OE (ta:TE):TE:=λσ H Q=>ta σ H λx H1=>∃c,x = .bl c/\Q (.bl (!c)) H1
theorem JC {op}{t:TE}(h:PE X a t):PE X (.BoolOp op [a] pos) t:=λpins s σ H Q I hw=>BoolOp_one (h pins s σ H Q I hw)
theorem JD (ha:PE X a ta)(hb:PE X (.BoolOp .And (b::rest) pos) tb):PE X (.BoolOp .And (a::b::rest) pos) (OD ta tb):=by
 intro pins s σ H Q I h
 refine BoolOp_and (bp (ha pins s σ H _ I h) λv s1 ⟨x,H1,I1,r1,q1⟩=>?_)
 obtain⟨c,rfl,q1⟩:=q1
 cases r1
 refine aai ?_
 cases c with
 |true=>exact hb pins s1 σ H1 Q I1 q1
 |false=>exact⟨.bl false,H1,I1,rfl,q1⟩
theorem OF (ha:PE X a ta)(hb:PE X (.BoolOp .Or (b::rest) pos) tb):PE X (.BoolOp .Or (a::b::rest) pos) (RO ta tb):=by
 intro pins s σ H Q I h
 refine BoolOp_or (bp (ha pins s σ H _ I h) λv s1 ⟨x,H1,I1,r1,q1⟩=>?_)
 obtain⟨c,rfl,q1⟩:=q1
 cases r1
 refine aai ?_
 cases c with
 |false=>exact hb pins s1 σ H1 Q I1 q1
 |true=>exact⟨.bl true,H1,I1,rfl,q1⟩
theorem JE (ha:PE X a ta):PE X (.UnaryOp .Not a pos) (OE ta):=by
 intro pins s σ H Q I h
 refine UnaryOp_ (bp (ha pins s σ H _ I h) λv s1 ⟨x,H1,I1,r1,q1⟩=>?_)
 obtain⟨c,rfl,q1⟩:=q1
 cases r1
 exact not_of (aai ⟨.bl (!c),H1,I1,rfl,q1⟩)
noncomputable def VQ (t:TT)(ta tb:TE):TE:=λσ H Q=>t σ H λc H1=>if c=true then ta σ H1 Q else tb σ H1 Q
theorem Cn {c:Expr}(hc:PT X c tA)(ha:PE X a ta)(hb:PE X b tb):PE X (.IfExp c a b pos) (VQ tA ta tb):=by
 intro pins s σ H Q I h
 refine wpAny_IfExp (bp (hc pins s σ H _ I h) λd s1 ⟨H1,I1,q1⟩=>?_)
 cases d with
 |true=>exact ha pins s1 σ H1 Q I1 q1
 |false=>exact hb pins s1 σ H1 Q I1 q1
end
noncomputable def dz (K:ZC)(H:Hp)(a:Addr)(xs:List V):Prop :=
 Rd H a (.lst xs) \/
  ∃(o:Obj) (aw:Array Value) (n:Nat),K.lookup a=some o/\o.cls = .type "list" /\ o.dict=none/\o.data = .seq aw n/\aw.size<=ZM/\Vals xs aw.toList
noncomputable def dQ (K:ZC)(H:Hp)(a:Addr)(xs:List V):Prop :=
 Rd H a (.tup xs) \/
  ∃(o:Obj) (aw:Array Value) (n:Nat),K.lookup a=some o/\o.cls = .type "tuple" /\ o.dict=none/\o.data = .seq aw n/\aw.size<=ZM/\Vals xs aw.toList
noncomputable def RP:Value->Option V
 |.none=>some .az
 |.bool b=>some (.bl b)
 |.int i _=>some (.int i)
 |.str x _=>some (.str x)
 |.bytes b _=>some (.zN b)
 |.float b _=>some (.dw b)
 |.ref a=>some (.ref a)
 |.type n=>some (.ty n)
 |_=>none
theorem RelV.abs {x:V}{u:Value}(r:RelV x u):RP u=some x:=by
 cases x with
 |az=>cases r;rfl
 |bl _=>cases r;rfl
 |int _=>obtain⟨t,rfl⟩:=r;rfl
 |str _=>obtain⟨t,rfl⟩:=r;rfl
 |zN _=>obtain⟨t,rfl⟩:=r;rfl
 |dw _=>obtain⟨t,rfl⟩:=r;rfl
 |ref _=>cases r;rfl
 |ty _=>cases r;rfl
theorem RelV.inj {x y:V}{u:Value}(r:RelV x u)(q:RelV y u):x=y:=aaf (r.abs.symm.trans q.abs)
theorem Vals.inj:∀{xs ys:List V} {us:List Value},Vals xs us->Vals ys us->xs=ys
 |_,_,_,.nil,.nil=>rfl
 |_,_,_,.cons r t,.cons r' t'=>by rw[r.inj r',Vals.inj t t']
section
variable {X:Cx}{pins:List (Addr×Obj)}{σ:St}{H:Hp}{s:Zo}{a:Addr}{xs ys:List V}
theorem dz.of {K:ZC}(h:H a=some (.lst xs)):dz K H a xs:=.inl (.inl h)
theorem Inv.list (I:Inv X pins σ H s)(h:dz X.K H a xs):∃aw:List Value,Vals xs aw/\PlainL s.heap a aw.toArray/\xs.length<=ZM:=by
 rcases h with h|⟨o,aw,n,hk,hc,hd,hs,hz,r⟩
 . obtain⟨z,aw,n,r,e⟩:=h.ok I.bK
   exact⟨aw,r,⟨_,n,e,rfl,rfl,rfl⟩,z⟩
 . refine⟨aw.toList,r,⟨o,n,I.i9 a o hk,hc,hd,by simpa using hs⟩,?_⟩
   have e:=r.length
   simp only[adl]at e
   omega
theorem Inv.JF (I:Inv X pins σ H s)(h:dQ X.K H a xs):∃aw:List Value,Vals xs aw/\fz s.heap a aw.toArray/\xs.length<=ZM:=by
 rcases h with h|⟨o,aw,n,hk,hc,hd,hs,hz,r⟩
 . obtain⟨z,aw,r,p⟩:=h.ok I.bK
   exact⟨aw,r,p,z⟩
 . refine⟨aw.toList,r,⟨o,I.i9 a o hk,hc,⟨n,by simpa using hs⟩,hd⟩,?_⟩
   have e:=r.length
   simp only[adl]at e
   omega
theorem Inv.tuple (I:Inv X pins σ H s)(h:dQ X.K H a xs):∃aw:List Value,Vals xs aw/\IsTup s.heap a aw.toArray/\xs.length<=ZM :=
 let⟨aw,r,p,z⟩:=I.JF h
 ⟨aw,r,p.t,z⟩
theorem Inv.uu (I:Inv X pins σ H s)(h:dz X.K H a xs)(h':dz X.K H a ys):xs=ys:=by
 obtain⟨aw,r,⟨o,n,e,_,_,d⟩,_⟩:=I.list h
 obtain⟨its',r',⟨o',n',e',_,_,d'⟩,_⟩:=I.list h'
 rw[e]at e';cases e'
 rw[d]at d'
 injection d' with d1 _
 have:aw=its':=by simpa using congrArg afg d1
 subst this
 exact r.inj r'
theorem Inv.mf (I:Inv X pins σ H s)(h:dQ X.K H a xs)(h':dQ X.K H a ys):xs=ys:=by
 obtain⟨aw,r,⟨o,e,_,n,d⟩,_⟩:=I.tuple h
 obtain⟨its',r',⟨o',e',_,n',d'⟩,_⟩:=I.tuple h'
 rw[e]at e';cases e'
 rw[d]at d'
 injection d' with d1 _
 have:aw=its':=by simpa using congrArg afg d1
 subst this
 exact r.inj r'
end
noncomputable abbrev Cx.kh (X:Cx)(E:Value->Zo->Prop):Cx:={ X with xe:=E }
noncomputable abbrev Cx.w8 (X:Cx):Cx:=X.kh λ_ _=>False
theorem Cx.Ok.kh {X:Cx}(ok:X.Ok)(E:Value->Zo->Prop):(X.kh E).Ok :=
 ⟨ok.mod,ok.kind,ok.glob,ok.blt,ok.above,ok.inj,ok.has,ok.zP,ok.hd,ok.frames,ok.uf,ok.Js,ok.bs,ok.rX,ok.ug,ok.uh,ok.jD,ok.wZ⟩
theorem Cx.Ok.iP {X:Cx}{E:Value->Zo->Prop}(ok:(X.kh E).Ok):X.Ok :=
 ⟨ok.mod,ok.kind,ok.glob,ok.blt,ok.above,ok.inj,ok.has,ok.zP,ok.hd,ok.frames,ok.uf,ok.Js,ok.bs,ok.rX,ok.ug,ok.uh,ok.jD,ok.wZ⟩
section
variable {X:Cx}{pins:List (Addr×Obj)}{σ:St}{H:Hp}{s:Zo}{E:Value->Zo->Prop}
theorem Inv.kh (I:Inv X pins σ H s)(E:Value->Zo->Prop):Inv (X.kh E) pins σ H s:=⟨I.ok.kh E,I.os,I.bare,I.base,I.loc,I.cell,I.free,I.iL,I.pin,I.bK,I.len⟩
theorem Inv.iP (I:Inv (X.kh E) pins σ H s):Inv X pins σ H s:=⟨I.ok.iP,I.os,I.bare,I.base,I.loc,I.cell,I.free,I.iL,I.pin,I.bK,I.len⟩
theorem SP.iP {D:Ends}{f:Flow}{s':Zo}(h:SP (X.kh E) pins D f s'):SP X pins D f s':=by
 cases f with
 |next=>obtain⟨σ',H',I,q⟩:=h;exact⟨σ',H',I.iP,q⟩
 |brk=>obtain⟨σ',H',I,q⟩:=h;exact⟨σ',H',I.iP,q⟩
 |cont=>obtain⟨σ',H',I,q⟩:=h;exact⟨σ',H',I.iP,q⟩
 |ret u=>obtain⟨v,σ',H',I,r,q⟩:=h;exact⟨v,σ',H',I.iP,r,q⟩
theorem gS.w8 {st:List Stmt}{t:TS}(h:gS X.w8 st t):gS X st t:=λpins s σ H D I hw =>
 ac2 (h pins s σ H D (I.kh _) hw) (λ_ _ q=>q.iP) λ_ _ z=>abL z
end
section
variable {X:Cx}{st:Stmt}{rest:List Stmt}{t u:TS}{e:Expr}{te:TE}{pos:Pos}
noncomputable def yq:TS:=λD σ H=>D.nx σ H
noncomputable def RQ (t u:TS):TS:=λD σ H=>t { D with nx:=u D } σ H
theorem GO:gS X [] yq:=λ_ _ σ H _ I h=>ac3 ⟨σ,H,I,h⟩
theorem Co (h1:PS X st t)(h2:gS X rest u):gS X (st::rest) (RQ t u):=by
 intro pins s σ H D I h
 refine wpAny_execs_cons (bp (h1 pins s σ H { D with nx:=u D } I h) λf s1 q=>?_)
 cases f with
 |next =>
  obtain⟨σ',H',I',q⟩:=q
  exact h2 pins s1 σ' H' D I' q
 |ret v=>exact q
 |brk=>exact q
 |cont=>exact q
theorem GP (h1:PS X st t):gS X [st] t:=by
 intro pins s σ H D I h
 refine wpAny_execs_cons (bp (h1 pins s σ H D I h) λf s1 q=>?_)
 cases f with
 |next=>exact ac3 q
 |ret v=>exact q
 |brk=>exact q
 |cont=>exact q
theorem GQ:PS X (.Pass pos) yq:=λ_ _ σ H _ I h=>wpAny_Pass ⟨σ,H,I,h⟩
theorem Inv.quiet {pins:List (Addr×Obj)}{σ:St}{H:Hp}{s:Zo}(I:Inv X pins σ H s):interactive X.env=false:=by simp[interactive,I.ok.kind]
theorem JG {x j pos pos'}:PS X (.Expr (.Constant (.str x) j pos) pos') yq:=λ_ s σ H _ I h=>wpAny_Expr (aff (show SP X _ _ .next { s with toks:=s.toks+1 } from⟨σ,H,I.tok _,h⟩)) I.quiet
noncomputable def OG (te:TE):TS:=λD σ H=>te σ H λ_ H1=>D.nx σ H1
theorem GR (he:PE X e te)(hs:ach e none pos.line X.env=pure false:=by rfl):PS X (.Expr e pos) (OG te):=by
 intro pins s σ H D I h
 exact wpAny_Expr_any (bp (he pins s σ H _ I h) λv s1 ⟨x,H1,I1,r1,q1⟩=>⟨σ,H1,I1,q1⟩) I.quiet hs
noncomputable def RR (te:TE):TS:=λD σ H=>te σ H D.rt
theorem JH (he:PE X e te):PS X (.Return (some e) pos) (RR te):=by
 intro pins s σ H D I h
 exact wpAny_Return_some (bp (he pins s σ H _ I h) λv s1 ⟨x,H1,I1,r1,q1⟩=>⟨x,σ,H1,I1,r1,q1⟩)
noncomputable def RS (c:TT)(t u:TS):TS:=λD σ H=>c σ H λb H1=>if b=true then t D σ H1 else u D σ H1
theorem OH {c:Expr}{a b:List Stmt}{tc:TT}(hc:PT X c tc)(ha:gS X a t)(hb:gS X b u):PS X (.If c a b pos) (RS tc t u):=by
 intro pins s σ H D I h
 refine wpAny_If (bp (hc pins s σ H _ I h) λd s1 ⟨H1,I1,q1⟩=>?_)
 cases d with
 |true=>exact ha pins s1 σ H1 D I1 q1
 |false=>exact hb pins s1 σ H1 D I1 q1
end
abbrev TG:=V->St->Hp->(St->Hp->Prop)->Prop
abbrev r_:=List V->St->Hp->(St->Hp->Prop)->Prop
noncomputable def PG (X:Cx)(target:Expr)(t:TG):Prop :=
 ∀(pins:List (Addr×Obj)) (s:Zo) (σ:St) (H:Hp) (v:V) (u:Value) (Q:St->Hp->Prop),Inv X pins σ H s->RelV v u->t v σ H Q ->
  wpAny (model X.prog X.w) X.A (acr target X.env u) (λ_ s'=>∃σ' H',Inv X pins σ' H' s'/\Q σ' H') X.xe s
noncomputable def nY (X:Cx)(ts:List Expr)(t:r_):Prop :=
 ∀(pins:List (Addr×Obj)) (s:Zo) (σ:St) (H:Hp) (vs:List V) (us:List Value) (Q:St->Hp->Prop),Inv X pins σ H s->Vals vs us->t vs σ H Q ->
  wpAny (model X.prog X.w) X.A (assignInOrder ((aaN ts X.env).map (·.2)) us) (λ_ s'=>∃σ' H',Inv X pins σ' H' s'/\Q σ' H') X.xe s
abbrev Cp:=V->V->V->Hp->(Hp->Prop)->Prop
noncomputable def Cq (X:Cx)(t:Cp):Prop :=
 ∀(pins:List (Addr×Obj)) (s:Zo) (σ:St) (H:Hp) (o i v:V) (ov iv u:Value) (Q:Hp->Prop),Inv X pins σ H s->RelV o ov->RelV i iv->RelV v u->t o i v H Q ->
  wpAny (model X.prog X.w) X.A (afx ov iv u) (λ_ s'=>∃H',Inv X pins σ H' s'/\Q H') X.xe s
section
variable {X:Cx}{pos:Pos}
noncomputable def Ez (i:Nat):TG:=λv σ H Q=>Q (σ.set i (some v)) H
theorem GS {i:Nat}{x:Str}(hN:X.N.Nodup)(hi:X.N[i]? = some x)(hx:Loc X.env.scope x)(hf:X.fn x=true\/X.env.scope.names.lookup x=some .local:=by first|exact .inl rfl|exact .inr rfl|assumption):PG X (.Name x pos) (Ez i):=by
 intro pins s σ H v u Q I r h
 exact wpAny_assign_Name (ur I hN hi hx r (λs' I'=>⟨_,H,I',h⟩) hf)
noncomputable def RT:r_:=λvs σ H Q=>vs = []/\Q σ H
noncomputable def OI (t:TG)(u:r_):r_:=λvs σ H Q=>∃v r,vs=v::r/\t v σ H λσ' H'=>u r σ' H' Q
theorem GU:nY X [] RT:=by
 intro pins s σ H vs us Q I r h
 obtain⟨e,h⟩:=h
 subst e
 cases r
 exact assignInOrder_nil ⟨σ,H,I,h⟩
theorem Cr {e:Expr}{es:List Expr}{t:TG}{u:r_}(h1:PG X e t)(h2:nY X es u)
  (hs:(aaN (e::es) X.env).map (·.2)=acr e X.env::(aaN es X.env).map (·.2):=by rfl):nY X (e::es) (OI t u):=by
 intro pins s σ H vs us Q I r h
 obtain⟨v,vr,e1,h⟩:=h
 subst e1
 cases r with
 |cons r rr =>
  rw[hs]
  refine assignInOrder_cons (bp (h1 pins s σ H _ _ _ I r h) λ_ s1 ⟨σ1,H1,I1,q1⟩=>?_)
  exact h2 pins s1 σ1 H1 _ _ Q I1 rr q1
noncomputable def RU (K:ZC)(n:Nat)(t:r_):TG:=λv σ H Q=>∃a xs,v = .ref a/\dQ K H a xs/\xs.length=n/\t xs σ H Q
theorem JI {es:List Expr}{k:Nat}{t:r_}{n:Nat}(hc:X.calm=true)(h:nY X es t)
  (hn:(aaN es X.env).length=n:=by rfl) (cH:(aaN es X.env).findIdx? (·.1)=none:=by rfl):PG X (.Tuple es k pos) (RU X.K n t):=by
 intro pins s σ H v u Q I r hw
 obtain⟨a,xs,e1,hq,hl,hw⟩:=hw
 subst e1
 cases r
 obtain⟨aw,rv,ht,hz⟩:=I.tuple hq
 refine assign_Tuple_tuple (I.ok.hd hc) ht (by simp[hn,<- hl,rv.length]) cH λh' hx=>?_
 have I1:Inv X pins σ H { s with heap:=h' }:=I.kept (t':=s.toks) λb o e=>hx b o (ZP (Zz e)) e
 exact h pins _ σ H xs _ Q I1 (by simpa using rv) hw
noncomputable def RV (to ti:TE)(t:Cp):TG:=λv σ H Q=>to σ H λo H1=>ti σ H1 λi H2=>t o i v H2 λH3=>Q σ H3
theorem JJ {o i:Expr}{to ti:TE}{t:Cp}(ho:PE X o to)(hi:PE X i ti)(hs:Cq X t)
  (ha:∀v,acr (.Subscript o i pos) X.env v=(do
   let ov <- ace [v] (eval o X.env)
   let iv <- ace [v,ov] (eval i X.env)
   aex pos
   ace [v,ov,iv] (afx ov iv v)
   release [v,ov,iv] []):=by intro _;rfl):PG X (.Subscript o i pos) (RV to ti t):=by
 intro pins s σ H v u Q I r h
 rw[ha]
 refine Zm (Z7 (bp (ho pins s σ H _ I h) λov s1 ⟨x,H1,I1,r1,q1⟩=>?_))
 refine Zm (Z7 (bp (hi pins s1 σ H1 _ I1 q1) λiv s2 ⟨y,H2,I2,r2,q2⟩=>?_))
 refine Zm (adF (Zm (Z7 (bp (hs pins s2 σ H2 x y v ov iv u _ I2 r1 r2 r q2) λ_ s3 ⟨H3,I3,q3⟩=>?_))))
 exact wpAny_release ⟨σ,H3,I3,q3⟩
noncomputable def Ct (te:TE)(g:TG):TS:=λD σ H=>te σ H λx H1=>g x σ H1 D.nx
theorem JK {tg e:Expr}{te:TE}{g:TG}(he:PE X e te)(hg:PG X tg g)(hs:adG [tg] e pos.line X.env=pure false:=by rfl)(hw:acR [tg] e X.env=pure none:=by rfl)
  (h1:(aaN [tg] X.env).map (·.2)= [acr tg X.env]:=by rfl):PS X (.Assign [tg] e pos) (Ct te g):=by
 intro pins s σ H D I h
 refine wpAny_Assign_stores (bp (he pins s σ H _ I h) λv s1 ⟨x,H1,I1,r1,q1⟩=>?_) hs hw
 rw[h1]
 exact bp (hg pins s1 σ H1 x v _ I1 r1 q1) λ_ s2 q=>q
theorem JL {i:Nat}{x:Str}{e:Expr}{te:TE}{pos':Pos}(hN:X.N.Nodup)(hi:X.N[i]? = some x)(hx:Loc X.env.scope x)(he:PE X e te)(hs:ach e (some (.Name x pos')) pos.line X.env=pure false:=by rfl)(hf:X.fn x=true\/X.env.scope.names.lookup x=some .local:=by first|exact .inl rfl|exact .inr rfl|assumption):
  PS X (.Assign [.Name x pos'] e pos) (Ct te (Ez i)):=by
 intro pins s σ H D I h
 refine wpAny_Assign_Name (bp (he pins s σ H _ I h) λv s1 ⟨y,H1,I1,r1,q1⟩=>?_) hs
 exact ur I1 hN hi hx r1 (λs2 I2=>⟨_,H1,I2,q1⟩) hf
end
section
variable {X:Cx}{pos:Pos}
noncomputable def JM (c:TT)(tb:TS):TS:=λD σ H=>∃W:Nat->St->Hp->Prop,(∃m,W m σ H) /\ ∀m σ H,W m σ H ->
 c σ H λb H1=>if b=true then ∃N:St->Hp->Prop,(∀σ' H',N σ' H'->∃m',m' < m/\W m' σ' H')/\tb { D with nx:=N,ct:=N,bk:=D.nx } σ H1 else D.nx σ H1
theorem Cu {c:Expr}{body:List Stmt}{tc:TT}{tb:TS}(hp:acV (model X.prog X.w) X.A X.env X.xe)(hc:PT X c tc)(hb:gS X body tb):PS X (.While c body [] pos) (JM tc tb):=by
 intro pins s σ H D I h
 obtain⟨W,⟨m0,w0⟩,turn⟩:=h
 refine wpAny_While (codeAny_whileLoop (λn s'=>∃σ' H',Inv X pins σ' H' s'/\W n σ' H') ?_ m0 ⟨σ,H,I,w0⟩)
 rintro n s1 ⟨σ1,H1,I1,w1⟩
 refine abF hp (bp (hc pins s1 σ1 H1 _ I1 (turn n σ1 H1 w1)) λb s2 ⟨H2,I2,q2⟩=>?_)
 cases b with
 |true =>
  obtain⟨N,hN,q2⟩:=q2
  rw[if_pos rfl]
  refine abF hp (bp (hb pins s2 σ1 H2 _ I2 q2) λf s3 q3=>?_)
  cases f with
  |next =>
   obtain⟨σ3,H3,I3,n3⟩:=q3
   obtain⟨m',hm,w3⟩:=hN σ3 H3 n3
   exact⟨m',hm,σ3,H3,I3,w3⟩
  |cont =>
   obtain⟨σ3,H3,I3,n3⟩:=q3
   obtain⟨m',hm,w3⟩:=hN σ3 H3 n3
   exact⟨m',hm,σ3,H3,I3,w3⟩
  |brk=>exact q3
  |ret v=>exact q3
 |false =>
  rw[if_neg aaM]
  exact ac3 ⟨σ1,H2,I2,q2⟩
end
structure It where
 go:Nat->Hp->Prop
 uv:Nat->Hp->V->Hp->Prop
 stop:Nat->Hp->Prop
noncomputable def iq (X:Cx)(pins:List (Addr×Obj))(H:Hp)(b:Addr):Prop :=
 H b=none/\b≠X.env.locals/\b ∉ X.fs/\(b∈X.ex\/X.s₀.heap.objs.size<=b)/\(∀x c,X.env.cells.lookup x=some c->c≠b) /\ ∀p∈X.pn++pins,p.1≠b
theorem Inv.oH {X:Cx}{pins:List (Addr×Obj)}{σ:St}{H H':Hp}{s:Zo}{b:Addr}(I:Inv X pins σ H s)(hb:s.heap.objs.size<=b)(hn:H' b=none):iq X pins H' b:=by
 refine⟨hn,acf (Z5 I.lt hb),I.RH hb,.inr (aa7 I.sz hb),λx c e z=>?_,λp hp z=>?_⟩
 . obtain⟨v,q⟩:=I.cell x c e
   exact absurd (Z5 q.lt (by rw[z];exact hb)) (aa_ _)
 . exact absurd (Z5 (Zz (I.pin p hp).1) (by rw[z];exact hb)) (aa_ _)
structure Turn (P:ZY)(w:World)(K:ZC)(tg:Expr)(J:It)(fp:List Addr)(it:Addr)(tn:Nat->Heap->Prop):Prop where
 mem:it∈fp
 obj:∀i h,tn i h->∀b∈fp,∃o,h.get? b=some o /\ ∀v,o.data ≠ .cell v
 keep:∀i h h',tn i h->(∀b∈fp,∀o,h.get? b=some o->h'.get? b=some o)->tn i h'
 item:∀(X:Cx),X.prog=P->X.w=w->X.K=K->X.calm=true->∀(i:Nat) (pins:List (Addr×Obj)) (s:Zo) (σ:St) (H:Hp) (E:Value->Zo->Prop),Inv X pins σ H s->(∀b∈fp,iq X pins H b)->tn i s.heap->J.go i H ->
  wpAny (model P w) X.A (pyNext (.ref it)) (λr s1=>∃u,r=some u /\
   wpAny (model P w) X.A (aei tg (.ref it) u) (λ_ s2=>∃x H',Inv X pins σ H' s2/\RelV x u/\J.uv i H x H'/\tn (i+1) s2.heap /\ ∀b∈fp,H' b=none) E s1) E s
 done:∀(X:Cx),X.prog=P->X.w=w->X.K=K->X.calm=true->∀(i:Nat) (pins:List (Addr×Obj)) (s:Zo) (σ:St) (H:Hp) (E:Value->Zo->Prop),Inv X pins σ H s->(∀b∈fp,iq X pins H b)->tn i s.heap->J.stop i H ->
  wpAny (model P w) X.A (pyNext (.ref it)) (λr s1=>r=none/\Inv X pins σ H s1) E s
 self:∀(A:ZV) (i:Nat) (s:Zo) (Q:Value->Zo->Prop) (E:Value->Zo->Prop),tn i s.heap->Q (.ref it) s->wpAny (model P w) A (pyIter (.ref it)) Q E s
abbrev TI:=St->Hp->(It->Hp->Prop)->Prop
noncomputable def Qd (X:Cx)(pins:List (Addr×Obj))(σ:St)(tg:Expr)(R:It->Hp->Prop)(JN:Value)(s2:Zo):Prop :=
 ∃(it:Addr) (fp:List Addr) (tn:Nat->Heap->Prop) (J:It) (H':Hp),JN = .ref it/\Inv X pins σ H' s2/\Turn X.prog X.w X.K tg J fp it tn/\tn 0 s2.heap/\(∀b∈fp,iq X pins H' b)/\R J H'
noncomputable def PI (X:Cx)(tg iter:Expr)(wi:TI):Prop :=
 ∀(pins:List (Addr×Obj)) (s:Zo) (σ:St) (H:Hp) (R:It->Hp->Prop),Inv X pins σ H s->wi σ H R ->
  wpAny (model X.prog X.w) X.A (eval iter X.env) (λv s1=>wpAny (model X.prog X.w) X.A (pyIter v) (Qd X pins σ tg R) X.xe s1) X.xe s
theorem tH {M : Model} {A : ZV} {E : Value -> Zo -> Prop} {s : Zo} {tg : Expr} {it : Addr} {u : Value} {o : Obj} {n : String} {vs : Array Value} {Q : Unit -> Zo -> Prop} (ho : s.heap.get? it = some o) (hc : o.cls = .type n) (hd : o.data = .fields vs)
   (hn : ["enumerate", "zip", "dict_itemiterator", "dict_reverseitemiterator", "odict_iterator", "itertools.zip_longest", "itertools.pairwise"].contains n = false) (hQ : Q () s): wpAny M A (aei tg (.ref it) u) Q E s := by
 unfold aei
 cases tg <;> first
   |exact Zp hQ
   | (cases u <;> first
       |exact Zp hQ
       | (refine Zm (wpAny_load ho ?_)
          rw[hc, hd]
          show wpAny M A (if (["enumerate", "zip", "dict_itemiterator", "dict_reverseitemiterator", "odict_iterator", "itertools.zip_longest", "itertools.pairwise"].contains n && vs[0]? == some (ad4 _))= true then _ else _) Q E s
          rw[if_neg (by intro h; rw[hn, aey]at h; cases h)]
          exact Zp hQ))
noncomputable def EA (K:ZC)(a:Addr):It :=
 ⟨λi H=>∃xs x,dz K H a xs/\xs[i]? = some x,λi H x H'=>H'=H /\ ∀xs,dz K H a xs->xs[i]? = some x,λi H=>∃xs,dz K H a xs/\xs.length<=i⟩
noncomputable def JO (K:ZC)(a:Addr):It :=
 ⟨λi H=>∃xs x,dQ K H a xs/\xs[i]? = some x,λi H x H'=>H'=H /\ ∀xs,dQ K H a xs->xs[i]? = some x,λi H=>∃xs,dQ K H a xs/\xs.length<=i⟩
noncomputable def zS (lo:Int)(n:Nat):It:=⟨λi _=>i<n,λi H x H'=>H'=H/\x = .int (lo+i),λi _=>n<=i⟩
theorem zT {P:ZY}{w:World}{K:ZC}{tg:Expr}(a it:Addr):Turn P w K tg (EA K a) [it] it (λi h=>h.IsListIter it a i) where
 mem:=by simp
 obj:=λi h st b hb=>by
  have e:b=it:=by simpa using hb
  subst e
  obtain⟨o,e,c,d⟩:=st
  exact⟨o,e,λv z=>by rw[d]at z;cases z⟩
 keep:=λi h h' st k=>st.at λo e=>k it (by simp) o e
 item:=by
  intro X hP hw hK hc i pins s σ H E I hf st hg
  subst hP hw hK
  obtain⟨xs,x,hq,hx⟩:=hg
  obtain⟨aw,rv,p,hz⟩:=I.list hq
  obtain⟨u,hu,ru⟩:=rv.get hx
  obtain⟨f0,f1,f2,f3,f4,f5⟩:=hf it (by simp)
  refine wpAny_pyNext_list_item st p.isList (x:=u) (by simpa using hu) λh' dH sb=>?_
  have I1:Inv X pins σ H { s with heap:=h' }:=I.turned (t':=s.toks) (λb o hb e=>(sb.2 b hb).trans e) f0 f1 f3 f4 f5
  obtain⟨o,e,c,d⟩:=id dH
  exact⟨u,rfl,tH (s:={ s with heap:=h' }) e c d (by decide) ⟨x,H,I1,ru,⟨rfl,λys hy=>by rw[I.uu hy hq];exact hx⟩,dH,λb hb=>(hf b hb).1⟩⟩
 done:=by
  intro X hP hw hK hc i pins s σ H E I hf st hg
  subst hP hw hK
  obtain⟨xs,hq,hx⟩:=hg
  obtain⟨aw,rv,p,hz⟩:=I.list hq
  obtain⟨f0,f1,f2,f3,f4,f5⟩:=hf it (by simp)
  have hl:=rv.length
  exact wpAny_pyNext_list_end (I.ok.hd hc) st p.isList (by simp;omega) λh' eb=>⟨rfl,I.turned (t':=s.toks) (λb o hb e=>eb b o hb e) f0 f1 f3 f4 f5⟩
 self:=λ_ _ _ _ _ st h=>wpAny_pyIter_listiter st h
theorem yr {P:ZY}{w:World}{K:ZC}{tg:Expr}(a it:Addr):Turn P w K tg (JO K a) [it] it (λi h=>h.IsTupleIter it a i) where
 mem:=by simp
 obj:=λi h st b hb=>by
  have e:b=it:=by simpa using hb
  subst e
  obtain⟨o,e,c,d⟩:=st
  exact⟨o,e,λv z=>by rw[d]at z;cases z⟩
 keep:=λi h h' st k=>st.at λo e=>k it (by simp) o e
 item:=by
  intro X hP hw hK hc i pins s σ H E I hf st hg
  subst hP hw hK
  obtain⟨xs,x,hq,hx⟩:=hg
  obtain⟨aw,rv,p,hz⟩:=I.tuple hq
  obtain⟨u,hu,ru⟩:=rv.get hx
  obtain⟨f0,f1,f2,f3,f4,f5⟩:=hf it (by simp)
  refine wpAny_pyNext_tuple_item st (show s.heap.IsTuple a aw.toArray from p) (x:=u) (by simpa using hu) λh' dH sb=>?_
  have I1:Inv X pins σ H { s with heap:=h' }:=I.turned (t':=s.toks) (λb o hb e=>(sb.2 b hb).trans e) f0 f1 f3 f4 f5
  obtain⟨o,e,c,d⟩:=id dH
  exact⟨u,rfl,tH (s:={ s with heap:=h' }) e c d (by decide) ⟨x,H,I1,ru,⟨rfl,λys hy=>by rw[I.mf hy hq];exact hx⟩,dH,λb hb=>(hf b hb).1⟩⟩
 done:=by
  intro X hP hw hK hc i pins s σ H E I hf st hg
  subst hP hw hK
  obtain⟨xs,hq,hx⟩:=hg
  obtain⟨aw,rv,p,hz⟩:=I.tuple hq
  obtain⟨f0,f1,f2,f3,f4,f5⟩:=hf it (by simp)
  have hl:=rv.length
  exact wpAny_pyNext_tuple_end (I.ok.hd hc) st (show s.heap.IsTuple a aw.toArray from p) (by simp;omega) λh' eb=>⟨rfl,I.turned (t':=s.toks) (λb o hb e=>eb b o hb e) f0 f1 f3 f4 f5⟩
 self:=λ_ _ _ _ _ st h=>wpAny_pyIter_tupleiter st h
theorem yt {P:ZY}{w:World}{K:ZC}{tg:Expr}(it:Addr)(lo:Int)(n:Nat):Turn P w K tg (zS lo n) [it] it (λi h=>IsRangeIter h it (lo+(i:Nat)*1) ((n:Int)-(i:Nat)) 1) where
 mem:=by simp
 obj:=λi h st b hb=>by
  have e:b=it:=by simpa using hb
  subst e
  exact⟨_,st,λv z=>by
   have z':Data.fields _=ady v:=z
   cases z'⟩
 keep:=λi h h' st k=>k it (by simp) _ st
 item:=by
  intro X hP hw hK hc i pins s σ H E I hf st hg
  subst hP hw hK
  obtain⟨f0,f1,f2,f3,f4,f5⟩:=hf it (by simp)
  have W:=Walks.range (prog:=X.prog) (w:=X.w) (I.ok.hd hc) it lo 1 n
  refine W.item i s _ _ hg st λv h' tk hv dH kk=>?_
  obtain⟨t,rfl⟩:=hv
  have I1:Inv X pins σ H { s with heap:=h',toks:=tk }:=I.turned (λb o hb e=>kk b o (by simpa using hb) e) f0 f1 f3 f4 f5
  refine⟨_,rfl,tH (s:={ s with heap:=h',toks:=tk }) (n:="range_iterator") dH rfl rfl (by decide) ⟨.int (lo+i),H,I1,⟨t,?_⟩,⟨rfl,rfl⟩,dH,λb hb=>(hf b hb).1⟩⟩
  rw[Int.mul_one]
 done:=by
  intro X hP hw hK hc i pins s σ H E I hf st hg
  subst hP hw hK
  obtain⟨f0,f1,f2,f3,f4,f5⟩:=hf it (by simp)
  exact wpAny_pyNext_range_end (I.ok.hd hc) st (by have:n<=i:=hg;omega) λh' eb=>⟨rfl,I.turned (t':=s.toks) (λb o hb e=>eb b o hb e) f0 f1 f3 f4 f5⟩
 self:=λ_ _ _ _ _ st h=>wpAny_pyIter_rangeiter st h
section
variable {X:Cx}{tg:Expr}
noncomputable def OJ (K:ZC)(tl:TE):TI:=λσ H R=>tl σ H λx H1=>∃a,x = .ref a/\(∃xs,dz K H1 a xs)/\R (EA K a) H1
noncomputable def RW (K:ZC)(tl:TE):TI:=λσ H R=>tl σ H λx H1=>∃a,x = .ref a/\(∃xs,dQ K H1 a xs)/\R (JO K a) H1
theorem w9 {l:Expr}{tl:TE}(hl:PE X l tl):PI X tg l (OJ X.K tl):=by
 intro pins s σ H R I h
 refine bp (hl pins s σ H _ I h) λv s1 ⟨x,H1,I1,r1,q1⟩=>?_
 obtain⟨a,e,⟨xs,hq⟩,q⟩:=q1
 subst e
 cases r1
 obtain⟨aw,rv,p,hz⟩:=I1.list hq
 refine adN p.isList ?_
 refine⟨s1.heap.objs.size,[s1.heap.objs.size],_,_,H1,rfl,I1.kept (t':=s1.toks) λb o e=>Zr _ e,zT a _,⟨_,ZD _ rfl,rfl,rfl⟩,λb hb=>?_,q⟩
 have e:b=s1.heap.objs.size:=by simpa using hb
 subst e
 exact I1.oH (Zy _) (I1.bK.fresh (Zy _))
theorem JP {l:Expr}{tl:TE}(hl:PE X l tl):PI X tg l (RW X.K tl):=by
 intro pins s σ H R I h
 refine bp (hl pins s σ H _ I h) λv s1 ⟨x,H1,I1,r1,q1⟩=>?_
 obtain⟨a,e,⟨xs,hq⟩,q⟩:=q1
 subst e
 cases r1
 obtain⟨aw,rv,p,hz⟩:=I1.tuple hq
 refine ab4 (show s1.heap.IsTuple a aw.toArray from p) ?_
 refine⟨s1.heap.objs.size,[s1.heap.objs.size],_,_,H1,rfl,I1.kept (t':=s1.toks) λb o e=>Zr _ e,yr a _,⟨_,ZD _ rfl,rfl,rfl⟩,λb hb=>?_,q⟩
 have e:b=s1.heap.objs.size:=by simpa using hb
 subst e
 exact I1.oH (Zy _) (I1.bK.fresh (Zy _))
theorem uw {pins:List (Addr×Obj)}{σ:St}{H:Hp}{s:Zo}{R:It->Hp->Prop}{E:Value->Zo->Prop}{lo hi:Int}{t u v:Tok}{tk:Nat}(I:Inv X pins σ H s)(h1:-(2 ^ 62)<=lo)(h2:lo<2 ^ 62)(h3:-(2 ^ 62)<=hi)(h4:hi<2 ^ 62)
   (q:R (zS lo (hi-lo).toNat) H):wpAny (model X.prog X.w) X.A (pyIter (.ref s.heap.objs.size)) (Qd X pins σ tg R) E { s with heap:=s.heap.push { cls:=.type "range",data:=.fields #[.int lo t,.int hi u,.int 1 v] },toks:=tk }:=by
 refine wpAny_pyIter_range (IsRange.new ..) (small_one h1 h2 h3 h4) ?_
 have I1:Inv X pins σ H { s with heap:=s.heap.push { cls:=.type "range",data:=.fields #[.int lo t,.int hi u,.int 1 v] },toks:=tk }:=I.kept λb o e=>Zr _ e
 refine⟨(s.heap.push { cls:=.type "range",data:=.fields #[.int lo t,.int hi u,.int 1 v] }).objs.size,[(s.heap.push { cls:=.type "range",data:=.fields #[.int lo t,.int hi u,.int 1 v] }).objs.size],_,_,H,rfl,
   I1.kept (t':=tk) λb o e=>Zr _ e,yt _ lo (hi-lo).toNat,?_,λb hb=>?_,q⟩
 . have e1:lo+((0:Nat):Int)*1=lo:=by simp
   have e2:(((hi-lo).toNat:Nat):Int)-((0:Nat):Int)=Builtin.Range.rangeSize lo hi 1:=by rw[rangeSize_one];split<;>omega
   show IsRangeIter _ _ (lo+((0:Nat):Int)*1) ((((hi-lo).toNat:Nat):Int)-((0:Nat):Int)) 1
   rw[e1,e2]
   exact ZD _ rfl
 . have e:b=(s.heap.push { cls:=.type "range",data:=.fields #[.int lo t,.int hi u,.int 1 v] }).objs.size:=by simpa using hb
   subst e
   exact I1.oH (Zy _) (I1.bK.fresh (Zy _))
noncomputable def OK (ta:TA):TI:=λσ H R=>ta σ H λvs H1=>∃j:Int,vs = [.int j] /\ -(2 ^ 62)<=j/\j<2 ^ 62/\R (zS 0 j.toNat) H1
noncomputable def OL (ta:TA):TI:=λσ H R=>ta σ H λvs H1=>∃i j:Int,vs = [.int i,.int j]/\(-(2 ^ 62)<=i/\i<2 ^ 62 /\ -(2 ^ 62)<=j/\j<2 ^ 62)/\R (zS i (j-i).toNat) H1
theorem zU {a:Expr}{ta:TA}{p pos:Pos}(hg:Gl X "range")(hm:X.mg "range" = none)(ha:PA X [a] ta)(hs:ZS [a] X.env = [(false,eval a X.env)]:=by rfl):PI X tg (.Call (.Name "range" p) [a] [] pos) (OK ta):=by
 intro pins s σ H R I h
 refine Call_ (gj I hg hm boot_range (aaB (bp (ha pos pins s σ H _ I h) λus s1 ⟨vs,H1,I1,r1,q1⟩=>?_) hs rfl))
 obtain⟨j,e,q1,q2,q⟩:=q1
 subst e
 cases r1 with
 |cons r rr =>
  cases rr
  obtain⟨t,rfl⟩:=r
  exact call_range_1 (uw I1 (by omega) (by omega) q1 q2 (by simpa using q))
theorem zV {a b:Expr}{ta:TA}{p pos:Pos}(hg:Gl X "range")(hm:X.mg "range" = none)(ha:PA X [a,b] ta)(hs:ZS [a,b] X.env = [(false,eval a X.env),(false,eval b X.env)]:=by rfl)(kr:ZS [b] X.env = [(false,eval b X.env)]:=by rfl):
  PI X tg (.Call (.Name "range" p) [a,b] [] pos) (OL ta):=by
 intro pins s σ H R I h
 refine Call_ (gj I hg hm boot_range (aaB (bp (ha pos pins s σ H _ I h) λus s1 ⟨vs,H1,I1,r1,q1⟩=>?_) (by rw[hs,kr]) (by rw[kr];rfl)))
 obtain⟨i,j,e,⟨q1,q2,q3,q4⟩,q⟩:=q1
 subst e
 cases r1 with
 |cons r rr =>
  cases rr with
  |cons r' rr =>
   cases rr
   obtain⟨t,rfl⟩:=r
   obtain⟨t',rfl⟩:=r'
   exact call_range_2 (uw I1 q1 q2 q3 q4 q)
noncomputable def RX (wi:TI)(g:TG)(tb:TS):TS:=λD σ H=>wi σ H λJ H1=>∃W:Nat->Nat->St->Hp->Prop,(∃m,W 0 m σ H1) /\ ∀i m σ H,W i m σ H ->
 (J.stop i H/\D.nx σ H)\/(J.go i H /\ ∃N:St->Hp->Prop,(∀σ' H',N σ' H'->∃m',m' < m/\W (i+1) m' σ' H') /\ ∀x H',J.uv i H x H'->g x σ H' λσ2 H2=>tb { D with nx:=N,ct:=N,bk:=D.nx } σ2 H2)
noncomputable def mh (fp:List Addr)(h:Heap):List (Addr×Obj):=fp.filterMap λb=>(h.get? b).map λo=>(b,o)
theorem jm {fp:List Addr}{h:Heap}{b:Addr}{o:Obj}(hb:b∈fp)(e:h.get? b=some o):(b,o)∈mh fp h:=ab5.mpr ⟨b,hb,by rw[e];rfl⟩
theorem zW {fp:List Addr}{h:Heap}{p:Addr×Obj}(hp:p∈mh fp h):p.1∈fp/\h.get? p.1=some p.2:=by
 obtain⟨b,hb,e⟩:=ab5.mp hp
 cases q:h.get? b with
 |none=>rw[q]at e;cases e
 |some o =>
  rw[q]at e
  have e':(b,o)=p:=aaf e
  subst e'
  exact⟨hb,q⟩
theorem Inv.pinned {pins:List (Addr×Obj)}{σ:St}{H:Hp}{s:Zo}{fp:List Addr}(I:Inv X pins σ H s)(hf:∀b∈fp,iq X pins H b)(ho:∀b∈fp,∃o,s.heap.get? b=some o /\ ∀v,o.data ≠ .cell v):Inv X (pins++mh fp s.heap) σ H s :=
 I.w5 λp hp=>(Zw.mp hp).elim (λz=>I.pin p (aad _ z)) λz=>by
  obtain⟨hb,e⟩:=zW z
  obtain⟨f0,f1,f2,_⟩:=hf p.1 hb
  obtain⟨o,e',d⟩:=ho p.1 hb
  rw[e]at e';cases e'
  exact⟨e,f0,f1,f2,d⟩
theorem Inv.kU {pins pl:List (Addr×Obj)}{σ:St}{H:Hp}{s:Zo}(I:Inv X (pins++pl) σ H s):Inv X pins σ H s:=I.w5 λp hp=>I.pin p (aad _ (ac1 _ hp))
theorem JQ {iter:Expr}{body:List Stmt}{wi:TI}{g:TG}{tb:TS}{pos:Pos}(hp:acV (model X.prog X.w) X.A X.env X.xe)(hc:X.calm=true)(hi:PI X tg iter wi)(hg:PG X tg g)(hb:gS X body tb)
   (hs:∀x,aaj iter X.env x=pure x:=by intro _;rfl):PS X (.For tg iter body [] pos) (RX wi g tb):=by
 intro pins s σ H D I h
 refine wpAny_For (bp (hi pins s σ H _ I h) λv s1 h1=>bp h1 λJN s2 h2=>?_) hs
 obtain⟨it,fp,tn,J,H2,e,I2,T,Qe,f2,W,⟨m0,w0⟩,turn⟩:=h2
 subst e
 have oI:∀{H':Hp},(∀b∈fp,H' b=none)->∀b∈fp,iq X pins H' b:=λhn b hb=>⟨hn b hb,(f2 b hb).2⟩
 refine codeAny_forLoop_any (λn s'=>∃i σ' H',Inv X pins σ' H' s'/\tn i s'.heap/\(∀b∈fp,H' b=none)/\W i n σ' H') ?_ m0 ⟨0,σ,H2,I2,Qe,λb hb=>(f2 b hb).1,w0⟩
 rintro n s3 ⟨i,σ3,H3,I3,nZ,Qf,w3⟩
 rcases turn i n σ3 H3 w3 with⟨stop,qn⟩|⟨go,N,hN,step⟩
 . refine abF hp (bp (T.done X rfl rfl rfl hc i pins s3 σ3 H3 X.xe I3 (oI Qf) nZ stop) λr s4 ⟨hr,I4⟩=>?_)
   subst hr
   exact ac3 ⟨σ3,H3,I4,qn⟩
 . refine abF hp (bp (T.item X rfl rfl rfl hc i pins s3 σ3 H3 X.xe I3 (oI Qf) nZ go) λr s4 ⟨u,hr,h4⟩=>?_)
   subst hr
   refine abF hp (bp h4 λ_ s5 ⟨x,H5,I5,r5,y5,JR,JS⟩=>?_)
   have I5':=I5.pinned (oI JS) (T.obj _ _ JR)
   refine abF hp (bp (hg _ s5 σ3 H5 x u _ I5' r5 (step x H5 y5)) λ_ s6 ⟨σ6,H6,I6,q6⟩=>?_)
   refine abF hp (bp (hb _ s6 σ6 H6 _ I6 q6) λf s7 q7=>?_)
   have again:∀{σ7:St} {H7:Hp},Inv X (pins++mh fp s5.heap) σ7 H7 s7->N σ7 H7->∃m,m<n /\ ∃i σ' H',Inv X pins σ' H' s7/\tn i s7.heap/\(∀b∈fp,H' b=none)/\W i m σ' H':=fun {σ7 H7} I7 n7=>by
    obtain⟨m',hm,w7⟩:=hN σ7 H7 n7
    refine⟨m',hm,i+1,σ7,H7,I7.kU,T.keep _ _ _ JR λb hb o e=>(I7.pin (b,o) (aad _ (aad _ (jm hb e)))).1,λb hb=>?_,w7⟩
    obtain⟨o,e,d⟩:=T.obj _ _ JR b hb
    exact(I7.pin (b,o) (aad _ (aad _ (jm hb e)))).2.1
   cases f with
   |next=>obtain⟨σ7,H7,I7,n7⟩:=q7;exact again I7 n7
   |cont=>obtain⟨σ7,H7,I7,n7⟩:=q7;exact again I7 n7
   |brk=>obtain⟨σ7,H7,I7,q7⟩:=q7;exact⟨σ7,H7,I7.kU,q7⟩
   |ret v=>obtain⟨x7,σ7,H7,I7,r7,q7⟩:=q7;exact⟨x7,σ7,H7,I7.kU,r7,q7⟩
end
abbrev R2:=V->V->Hp->VK->Prop
noncomputable def bB (X:Cx)(f:Value->Value->Sem Value)(r:R2):Prop :=
 ∀(pins:List (Addr×Obj)) (s:Zo) (σ:St) (H:Hp) (x y:V) (v u:Value) (Q:VK),Inv X pins σ H s->RelV x v->RelV y u->r x y H Q ->
  wpAny (model X.prog X.w) X.A (f v u) (EP X pins σ Q) X.xe s
noncomputable def zX (X:Cx)(f:Value->Sem Value)(r:V->Hp->VK->Prop):Prop :=
 ∀(pins:List (Addr×Obj)) (s:Zo) (σ:St) (H:Hp) (x:V) (v:Value) (Q:VK),Inv X pins σ H s->RelV x v->r x H Q ->
  wpAny (model X.prog X.w) X.A (f v) (EP X pins σ Q) X.xe s
noncomputable def cz (X:Cx)(f:Value)(r:List V->Hp->VK->Prop):Prop :=
 ∀(pins:List (Addr×Obj)) (s:Zo) (σ:St) (H:Hp) (xs:List V) (us:List Value) (Q:VK),Inv X pins σ H s->Vals xs us->r xs H Q ->
  wpAny (model X.prog X.w) X.A (call f us) (EP X pins σ Q) X.xe s
noncomputable def RY (X:Cx)(r:V->Hp->(Bool->Hp->Prop)->Prop):Prop :=
 ∀(pins:List (Addr×Obj)) (s:Zo) (σ:St) (H:Hp) (x:V) (v:Value) (Q:Bool->Hp->Prop),Inv X pins σ H s->RelV x v->r x H Q ->
  wpAny (model X.prog X.w) X.A (truthy v) (TP X pins σ Q) X.xe s
noncomputable def zY (r:R2)(ta tb:TE):TE:=λσ H Q=>ta σ H λx H1=>tb σ H1 λy H2=>r x y H2 Q
noncomputable def VR (r:V->Hp->VK->Prop)(ta:TE):TE:=λσ H Q=>ta σ H λx H1=>r x H1 Q
noncomputable def rI (C:Int->Int->Prop)(g:Int->Int->V):R2:=λx y H Q=>∃i j,x = .int i/\y = .int j/\C i j/\Q (g i j) H
noncomputable def lN (g:Int->Int->V):R2:=λx y H Q=>∃i j,x = .int i/\y = .int j/\Q (g i j) H
noncomputable def rU (g:Int->V):V->Hp->VK->Prop:=λx H Q=>∃i,x = .int i/\Q (g i) H
section
variable {X:Cx}{a b c:Expr}{ta tb tc:TE}{pos:Pos}
theorem Cv (ha:PE X a ta)(hb:PE X b tb){pins:List (Addr×Obj)}{s:Zo}{σ:St}{H:Hp}{R:V->V->Hp->Prop}(I:Inv X pins σ H s)
  (h:ta σ H λx H1=>tb σ H1 λy H2=>R x y H2) {Q:Value->Zo->Prop} {f:Value->Value->Sem Value}
  (hf:∀v u s2 x y H2,Inv X pins σ H2 s2->RelV x v->RelV y u->R x y H2->wpAny (model X.prog X.w) X.A (f v u) Q X.xe s2):
  wpAny (model X.prog X.w) X.A (eval a X.env) (λv s₁=>wpAny (model X.prog X.w) X.A (eval b X.env) (λu s₂=>wpAny (model X.prog X.w) X.A (f v u) Q X.xe s₂) X.xe s₁) X.xe s:=by
 refine bp (ha pins s σ H _ I h) λv s1 ⟨x,H1,I1,r1,q1⟩=>?_
 refine bp (hb pins s1 σ H1 _ I1 q1) λu s2 ⟨y,H2,I2,r2,q2⟩=>?_
 exact hf v u s2 x y H2 I2 r1 r2 q2
theorem OM {op:Operator}{r:R2}(ho:bB X (aah op) r)(ha:PE X a ta)(hb:PE X b tb):PE X (.BinOp a op b pos) (zY r ta tb):=by
 intro pins s σ H Q I h
 exact wpAny_BinOp (Cv ha hb I h λv u s2 x y H2 I2 rx ry q=>ho pins s2 σ H2 x y v u Q I2 rx ry q)
theorem ON {op:UnaryOp}{r:V->Hp->VK->Prop}(ho:zX X (unaryOp op) r)(ha:PE X a ta):PE X (.UnaryOp op a pos) (VR r ta):=by
 intro pins s σ H Q I h
 exact UnaryOp_ (bp (ha pins s σ H _ I h) λv s1 ⟨x,H1,I1,r1,q1⟩=>ho pins s1 σ H1 x v Q I1 r1 q1)
theorem zZ {f:Value->Value->Sem Value}{C:Int->Int->Prop}{g:Int->Int->Int}
  (rule:∀(i j:Int) (t u:Tok) (s:Zo) (Q:Value->Zo->Prop) (E:Value->Zo->Prop),C i j->Q (.int (g i j) s.toks) { s with toks:=s.toks+1 }->wpAny (model X.prog X.w) X.A (f (.int i t) (.int j u)) Q E s):
  bB X f (rI C λi j=>.int (g i j)):=by
 intro pins s σ H x y v u Q I rx ry h
 obtain⟨i,j,rfl,rfl,hc,q⟩:=h
 obtain⟨t,rfl⟩:=rx
 obtain⟨t',rfl⟩:=ry
 exact rule i j t t' s _ _ hc ⟨.int (g i j),H,I.tok _,⟨_,rfl⟩,q⟩
theorem yu {f:Value->Value->Sem Value}{g:Int->Int->Int}
  (rule:∀(i j:Int) (t u:Tok) (s:Zo) (Q:Value->Zo->Prop) (E:Value->Zo->Prop),Q (.int (g i j) s.toks) { s with toks:=s.toks+1 }->wpAny (model X.prog X.w) X.A (f (.int i t) (.int j u)) Q E s):
  bB X f (lN λi j=>.int (g i j)):=by
 intro pins s σ H x y v u Q I rx ry h
 obtain⟨i,j,rfl,rfl,q⟩:=h
 obtain⟨t,rfl⟩:=rx
 obtain⟨t',rfl⟩:=ry
 exact rule i j t t' s _ _ ⟨.int (g i j),H,I.tok _,⟨_,rfl⟩,q⟩
theorem yw {f:Value->Value->Sem Value}{g:Int->Int->Bool}
  (rule:∀(i j:Int) (t u:Tok) (s:Zo) (Q:Value->Zo->Prop) (E:Value->Zo->Prop),Q (.bool (g i j)) s->wpAny (model X.prog X.w) X.A (f (.int i t) (.int j u)) Q E s):
  bB X f (lN λi j=>.bl (g i j)):=by
 intro pins s σ H x y v u Q I rx ry h
 obtain⟨i,j,rfl,rfl,q⟩:=h
 obtain⟨t,rfl⟩:=rx
 obtain⟨t',rfl⟩:=ry
 exact rule i j t t' s _ _ ⟨.bl (g i j),H,I,rfl,q⟩
def RZ (i j:Int):Prop:=0<j/\j<1073741824
def JT (i j:Int):Prop:=0<=j/\j<=1000000/\i.natAbs<2 ^ 64
def Cw (i j:Int):Prop:=(-(2 ^ 64)<i/\i<2 ^ 64)\/(-(2 ^ 64)<j/\j<2 ^ 64)
theorem Cw.ok {i j:Int}(h:Cw i j):IntMulOk i j:=by
 rcases h with⟨h1,h2⟩|⟨h1,h2⟩
 . exact .of_left (intBits_le_64 h1 h2)
 . exact .of_right (intBits_le_64 h1 h2)
theorem JU:bB X (aah .Add) (lN λi j=>.int (i+j)):=yu λ_ _ _ _ _ _ _ q=>add_int q
theorem JV:bB X (aah .Sub) (lN λi j=>.int (i-j)):=yu λ_ _ _ _ _ _ _ q=>sub_int q
theorem JW:bB X (aah .Mult) (rI Cw λi j=>.int (i*j)):=zZ λ_ _ _ _ _ _ _ hc q=>mul_int q hc.ok
theorem GV:bB X (aah .FloorDiv) (rI RZ λi j=>.int (i / j)):=zZ λi j _ _ _ _ _ hc q=>by
 have h1:(0:Int)<j:=hc.1
 have h2:j<1073741824:=hc.2
 exact floordiv_int (by omega) (by rw[Int.fdiv_eq_ediv_of_nonneg i (by omega)];exact q) (.inl (PyProof.noPylong_small (by omega)))
theorem JX:bB X (aah .Mod) (rI (λ_ j=>0<j) λi j=>.int (i % j)):=zZ λi j _ _ _ _ _ hc q=>by
 have h1:(0:Int)<j:=hc
 exact mod_int' (by omega) (by rw[Int.fmod_eq_emod_of_nonneg i (by omega)];exact q)
theorem JY:bB X (aah .Pow) (rI JT λi j=>.int (i ^ j.toNat)):=zZ λ_ _ _ _ _ _ _ hc q=>pow_int_small hc.1 hc.2.1 hc.2.2 q
theorem JZ:bB X (aah .LShift) (rI JT λi j=>.int (i*2 ^ j.toNat)):=zZ λ_ _ _ _ _ _ _ hc q=>lshift_int_small hc.1 hc.2.1 hc.2.2 q
theorem J0:bB X (aah .BitAnd) (lN λi j=>.int (Z9 i j)):=yu λ_ _ _ _ _ _ _ q=>and_int q
theorem OO:bB X (aah .BitOr) (lN λi j=>.int (ab0 i j)):=yu λ_ _ _ _ _ _ _ q=>or_int q
theorem VS {f:Value->Sem Value}{g:Int->Int}
  (rule:∀(i:Int) (t:Tok) (s:Zo) (Q:Value->Zo->Prop) (E:Value->Zo->Prop),Q (.int (g i) s.toks) { s with toks:=s.toks+1 }->wpAny (model X.prog X.w) X.A (f (.int i t)) Q E s):
  zX X f (rU λi=>.int (g i)):=by
 intro pins s σ H x v Q I rx h
 obtain⟨i,rfl,q⟩:=h
 obtain⟨t,rfl⟩:=rx
 exact rule i t s _ _ ⟨.int (g i),H,I.tok _,⟨_,rfl⟩,q⟩
theorem J2:zX X (unaryOp .USub) (rU λi=>.int (-i)):=VS λ_ _ _ _ _ q=>neg_int q
end
section
variable {X:Cx}{a b c:Expr}{ta tb tc:TE}{pos:Pos}
theorem z6 {pins:List (Addr×Obj)}{σ:St}{H:Hp}{s:Zo}{Q:VK}{k k':Bool}(I:Inv X pins σ H s)(q:Q (.bl k) H)(e:k=k'):EP X pins σ Q (.bool k') s:=by
 subst e
 exact⟨.bl k,H,I,rfl,q⟩
theorem OP:bB X (Z8 .Lt) (lN λi j=>.bl (decide (i<j))):=yw λ_ _ _ _ _ _ _ q=>lt_int q
theorem OQ:bB X (Z8 .LtE) (lN λi j=>.bl (decide (i<=j))):=yw λ_ _ _ _ _ _ _ q=>le_int q
theorem OR:bB X (Z8 .Gt) (lN λi j=>.bl (decide (j<i))):=yw λ_ _ _ _ _ _ _ q=>gt_int q
theorem OS:bB X (Z8 .GtE) (lN λi j=>.bl (decide (j<=i))):=yw λ_ _ _ _ _ _ _ q=>ge_int q
theorem J3:bB X (Z8 .Is) (λx y H Q=>y = .az/\Q (.bl (decide (x = .az))) H):=by
 intro pins s σ H x y v u Q I rx ry h
 obtain⟨rfl,q⟩:=h
 cases ry
 refine is_none_gen (z6 I q ?_)
 cases x<;>first
  | (cases rx;rfl)
  | (obtain⟨t,rfl⟩:=rx;rfl)
theorem GW:bB X (Z8 .IsNot) (λx y H Q=>y = .az/\Q (.bl (!decide (x = .az))) H):=by
 intro pins s σ H x y v u Q I rx ry h
 obtain⟨rfl,q⟩:=h
 cases ry
 refine isnot_none_gen (z6 I q ?_)
 cases x<;>first
  | (cases rx;rfl)
  | (obtain⟨t,rfl⟩:=rx;rfl)
theorem GX {op:CmpOp}{r:R2}(ho:bB X (Z8 op) r)(ha:PE X a ta)(hb:PE X b tb)(hm:ab1 op b=false):PE X (.Compare a [op] [b] pos) (zY r ta tb):=by
 intro pins s σ H Q I h
 exact wpAny_Compare1 (Cv ha hb I h λv u s2 x y H2 I2 rx ry q=>ho pins s2 σ H2 x y v u Q I2 rx ry q) hm
noncomputable def pB (t:TE):TT:=λσ H Q=>t σ H λx H'=>∃k,x = .bl k/\Q k H'
theorem GY {op:CmpOp}{r:R2}(ho:bB X (Z8 op) r)(ha:PE X a ta)(hb:PE X b tb)(hm:ab1 op b=false):PT X (.Compare a [op] [b] pos) (pB (zY r ta tb)):=by
 intro pins s σ H Q I h
 refine wpAny_isTrue_Compare1 (bp (ha pins s σ H _ I h) λv s1 ⟨x,H1,I1,r1,q1⟩=>bp (hb pins s1 σ H1 _ I1 q1) λu s2 ⟨y,H2,I2,r2,q2⟩=>
  bp (ho pins s2 σ H2 x y v u _ I2 r1 r2 q2) λc s3 ⟨z,H3,I3,r3,k,e,q3⟩=>?_) hm
 subst e
 cases r3
 exact aai ⟨H3,I3,q3⟩
noncomputable def ux (r r':R2)(ta tb tc:TE):TE:=λσ H Q=>ta σ H λx H1=>tb σ H1 λy H2=>r x y H2 λz H3=>∃k,z = .bl k /\
 (if k=true then tc σ H3 λw' H4=>r' y w' H4 Q else Q (.bl false) H3)
theorem Cy {op cv:CmpOp}{r r':R2}(ho:bB X (Z8 op) r)(ia:bB X (Z8 cv) r')(ha:PE X a ta)(hb:PE X b tb)(hc:PE X c tc)
  (hm:afi [op,cv] [b,c]=false:=by with_unfolding_all rfl):PE X (.Compare a [op,cv] [b,c] pos) (ux r r' ta tb tc):=by
 intro pins s σ H Q I h
 refine Compare_chain (bp (ha pins s σ H _ I h) λv s1 ⟨x,H1,I1,r1,q1⟩=>chain_link (bp (hb pins s1 σ H1 _ I1 q1) λu s2 ⟨y,H2,I2,r2,q2⟩=>
  bp (ho pins s2 σ H2 x y v u _ I2 r1 r2 q2) λd s3 ⟨z,H3,I3,r3,k,e,q3⟩=>?_)) hm
 subst e
 cases r3
 refine aai ?_
 cases k with
 |false=>exact ite_ff ⟨.bl false,H3,I3,rfl,q3⟩
 |true=>exact ite_tt (chain_last (bp (hc pins s3 σ H3 _ I3 q3) λw' s4 ⟨z',H4,I4,r4,q4⟩=>ia pins s4 σ H4 y z' u w' Q I4 r2 r4 q4))
theorem Cz {op cv:CmpOp}{r r':R2}(ho:bB X (Z8 op) r)(ia:bB X (Z8 cv) r')(ha:PE X a ta)(hb:PE X b tb)(hc:PE X c tc)
  (hm:afi [op,cv] [b,c]=false:=by with_unfolding_all rfl):PT X (.Compare a [op,cv] [b,c] pos) (pB (ux r r' ta tb tc)):=by
 intro pins s σ H Q I h
 refine isTrue_chain (bp (ha pins s σ H _ I h) λv s1 ⟨x,H1,I1,r1,q1⟩=>test_link (bp (hb pins s1 σ H1 _ I1 q1) λu s2 ⟨y,H2,I2,r2,q2⟩=>
  bp (ho pins s2 σ H2 x y v u _ I2 r1 r2 q2) λd s3 ⟨z,H3,I3,r3,k,e,q3⟩=>?_)) hm
 subst e
 cases r3
 refine aai ?_
 cases k with
 |false =>
  obtain⟨k',e',q'⟩:=q3
  cases e'
  exact ite_ff ⟨H3,I3,q'⟩
 |true =>
  refine ite_tt (test_last (bp (hc pins s3 σ H3 _ I3 q3) λw' s4 ⟨z',H4,I4,r4,q4⟩=>bp (ia pins s4 σ H4 y z' u w' _ I4 r2 r4 q4) λd' s5 ⟨z2,H5,I5,r5,k2,e2,q5⟩=>?_))
  subst e2
  cases r5
  exact aai ⟨H5,I5,q5⟩
noncomputable def CA (K:ZC)(x:V)(H:Hp)(k:Bool):Prop :=
 match x with
 |.az=>k=false
 |.bl b=>k=b
 |.int i=>k=(i != 0)
 |.str y=>y.length<=ZM/\k=((y.length:Int) != 0)
 |.zN y=>y.size<=ZM/\k=((y.size:Int) != 0)
 |.ref p=>(∃xs,dz K H p xs/\k = !xs.isEmpty)\/(∃xs,dQ K H p xs/\k = !xs.isEmpty) \/ ∃dh,H p=some (.dK dh)/\k = !dh.isEmpty
 |_=>False
theorem yx {κ:Type}{dh:List (κ×V)}{vs:List (κ×Value)}(r:KV dh vs):(!vs.isEmpty)= !dh.isEmpty:=by
 cases r<;>rfl
theorem pC {xs:List V}{aw:List Value}(r:Vals xs aw):(!aw.toArray.isEmpty)= !xs.isEmpty:=by
 cases r<;>simp
theorem ky:(ZM:Nat)<2 ^ 63:=by rw[abk];decide
theorem z7:RY X (λx H Q=>∃k,CA X.K x H k/\Q k H):=by
 intro pins s σ H x v Q I rx h
 obtain⟨k,e,q⟩:=h
 have hl:=ky
 have hs:ZM=16777216:=abk
 cases x with
 |az =>
  cases rx
  have e':k=false:=e
  subst e'
  exact truthy_none ⟨H,I,q⟩
 |bl b =>
  cases rx
  have e':k=b:=e
  subst e'
  exact aai ⟨H,I,q⟩
 |int i =>
  obtain⟨t,rfl⟩:=rx
  have e':k=(i != 0):=e
  subst e'
  exact PySem.P.truthy_int ⟨H,I,q⟩
 |str y =>
  obtain⟨t,rfl⟩:=rx
  obtain⟨hy,e'⟩:y.length<=ZM/\k=((y.length:Int) != 0):=e
  subst e'
  exact PySem.P.truthy_str (by omega) ⟨H,I.tok _,q⟩
 |zN y =>
  obtain⟨t,rfl⟩:=rx
  obtain⟨hy,e'⟩:y.size<=ZM/\k=((y.size:Int) != 0):=e
  subst e'
  exact PySem.W.truthy_bytes (by omega) ⟨H,I.tok _,q⟩
 |ref p =>
  cases rx
  have e':(∃xs,dz X.K H p xs/\k = !xs.isEmpty)\/(∃xs,dQ X.K H p xs/\k = !xs.isEmpty) \/ ∃dh,H p=some (.dK dh)/\k = !dh.isEmpty:=e
  rcases e' with⟨xs,hx,e'⟩|⟨xs,hx,e'⟩|⟨dh,hx,e'⟩
  . subst e'
    obtain⟨aw,r,pl,hz⟩:=I.list hx
    have hlen:=r.length
    exact wpAny_truthy_list pl.isList (by simp only[Zt];omega) ⟨H,I.tok _,by rw[pC r];exact q⟩
  . subst e'
    obtain⟨aw,r,pl,hz⟩:=I.tuple hx
    have hlen:=r.length
    exact truthy_tuple pl (by simp only[Zt];omega) ⟨H,I.tok _,by rw[pC r];exact q⟩
  . subst e'
    obtain⟨hz,hS,vs,r,m⟩:dh.length<=ZM/\(p == aa9)=false /\ ∃vs,KV dh vs/\s.heap.DictOf (qK X.prog X.w) p vs:=I.bK p _ hx
    have hlen:dh.length=vs.length:=Paired.length r
    exact wpAny_truthy_dict hS m (by omega) ⟨H,I.tok _,by rw[yx r];exact q⟩
 |_=>exact(show False from e).elim
theorem CB (ha:PE X a ta)(he:∀whole,isTrue a X.env whole=(do let v <- whole;aex a.pos;ace [v] (truthy v))):
  PT X a (λσ H Q=>ta σ H λx H'=>∃k,CA X.K x H' k/\Q k H'):=by
 intro pins s σ H Q I h
 exact isTrue_plain (bp (ha pins s σ H _ I h) λv s1 ⟨x,H1,I1,r1,q1⟩=>z7 pins s1 σ H1 x v Q I1 r1 q1) (he _)
theorem yz:bB X (aah .Add) (λx y H Q=>∃i j,x = .str i/\y = .str j/\i.length+j.length<=ZM/\Q (.str (i++j)) H):=by
 intro pins s σ H x y v u Q I rx ry h
 obtain⟨i,j,rfl,rfl,hz,q⟩:=h
 obtain⟨t,rfl⟩:=rx
 obtain⟨t',rfl⟩:=ry
 exact add_str (λt' tk=>⟨.str (i++j),H,I.tok _,⟨_,rfl⟩,q⟩) hz
theorem vals1 {x:V}{us:List Value}(r:Vals [x] us):∃u,us = [u]/\RelV x u:=by
 cases r with
 |cons r1 r2=>cases r2;exact⟨_,rfl,r1⟩
theorem vals2 {x y:V}{us:List Value}(r:Vals [x,y] us):∃u w',us = [u,w']/\RelV x u/\RelV y w':=by
 cases r with
 |cons r1 r2 =>
  cases r2 with
  |cons r3 r4=>cases r4;exact⟨_,_,rfl,r1,r3⟩
theorem z8 (hc:X.calm=true):cz X (.builtin "max") (λxs H Q=>∃i j,xs = [.int i,.int j]/\Q (.int (if j>i then j else i)) H):=by
 intro pins s σ H xs us Q I r h
 obtain⟨i,j,rfl,q⟩:=h
 obtain⟨u,w',rfl,⟨t,rfl⟩,⟨t',rfl⟩⟩:=vals2 r
 refine max_two_ints (I.ok.hd hc) λh' tk k=>⟨_,H,I.kept k,?_,q⟩
 by_cases hj:j>i
 . rw[if_pos hj,if_pos hj];exact⟨_,rfl⟩
 . rw[if_neg hj,if_neg hj];exact⟨_,rfl⟩
theorem z9 (hc:X.calm=true):cz X (.builtin "min") (λxs H Q=>∃i j,xs = [.int i,.int j]/\Q (.int (if j<i then j else i)) H):=by
 intro pins s σ H xs us Q I r h
 obtain⟨i,j,rfl,q⟩:=h
 obtain⟨u,w',rfl,⟨t,rfl⟩,⟨t',rfl⟩⟩:=vals2 r
 refine min_two_ints (I.ok.hd hc) λh' tk k=>⟨_,H,I.kept k,?_,q⟩
 by_cases hj:j<i
 . rw[if_pos hj,if_pos hj];exact⟨_,rfl⟩
 . rw[if_neg hj,if_neg hj];exact⟨_,rfl⟩
theorem sd:cz X (.type "int") (λxs H Q=>(∃i,xs = [.int i]/\Q (.int i) H) \/ ∃k,xs = [.bl k]/\Q (.int (if k then 1 else 0)) H):=by
 intro pins s σ H xs us Q I r h
 rcases h with⟨i,rfl,q⟩|⟨k,rfl,q⟩
 . obtain⟨u,rfl,t,rfl⟩:=vals1 r
   exact call_int_int ⟨.int i,H,I,⟨_,rfl⟩,q⟩
 . obtain⟨u,rfl,r1⟩:=vals1 r
   cases r1
   exact call_int_bool ⟨.int (if k then 1 else 0),H,I.tok _,⟨_,rfl⟩,q⟩
end
structure Yz (h:Heap)(x dx C:Addr)(mA:Str->Option Value):Prop where
 obj:h.get? x=some (agc C dx)
 ns:h.Ns1 dx mA
 ne:dx≠x
structure VT (K:ZC)(C:Addr):Prop where
 pg:PySem.W.plainGet K C Str.empty=true
 hd:PySem.W.hasDictIn K C=true
 po:PySem.W.plainOver K C=true
 sa:acJ K (.ref C) "__setattr__" = some (some (.builtin "object.__setattr__"))
structure YM (K:ZC)(C:Addr)(f:Str)(v:V)(u:Value):Prop where
 at_:acJ K (.ref C) f=some (some u)
 rel:RelV v u
 get:afB K u "__get__" = some none
 cp:PySem.W.copiedNames.contains f=false
structure Meth (K:ZC)(C:Addr)(m:Str)(f:Addr):Prop where
 at_:acJ K (.ref C) m=some (some (.ref f))
 fn:aht K (.ref f)=true
 kp:aaX K (.ref f)=true
section
variable {X:Cx}{pins:List (Addr×Obj)}{σ:St}{H:Hp}{s:Zo}{A:ZV}{E:Value->Zo->Prop}{Q:Value->Zo->Prop}{c:Value}{b:Bool}
inductive jE (K:ZC)(H:Hp):V->Value->Prop where
 |az:jE K H .az (.type "NoneType")
 |bl (x:Bool):jE K H (.bl x) (.type "bool")
 |int (i:Int):jE K H (.int i) (.type "int")
 |str (x:Str):jE K H (.str x) (.type "str")
 |dw (x:UInt64):jE K H (.dw x) (.type "float")
 |lst {a:Addr} {xs:List V} (e:H a=some (.lst xs)):jE K H (.ref a) (.type "list")
 |kq {a:Addr} {o:Obj} {xs:List V} (e:H a=some (.kq o (.lst xs))):jE K H (.ref a) (.type "list")
 |tup {a:Addr} {xs:List V} (e:H a=some (.tup xs)):jE K H (.ref a) (.type "tuple")
 |dK {a:Addr} {dh:List (Key×V)} (e:H a=some (.dK dh)):jE K H (.ref a) (.type "dict")
 |dT {a:Addr} {dh:List (List Key×V)} (e:H a=some (.dT dh)):jE K H (.ref a) (.type "dict")
 |ins {a C dx:Addr} {fs:List (Str×V)} (e:H a=some (.ins C dx fs)) (cl:VT K C) (ha:acJ K (.ref C) "__class__" = some (some (.builtin "object.__class__")))
  (hn:afB K (.builtin "object.__class__") "__get__" = some (some (.builtin "getset_descriptor.__get__"))) (Qg:PySem.W.takesIn K (.builtin "object.__class__")=some true)
  (hm:PySem.W.mroIn K C (.type "object")=some true):jE K H (.ref a) (.ref C)
end
structure aQ (k:Nat)(A:ZV):Prop where
 hd:A.handled=none
 dp:A.depth+3*k+5<recursionLimit
 un:A.units+16*k+200<cLine
 gd:A.guards=some []
theorem aQ.deeper {k:Nat}{A:ZV}(r:aQ (k+1) A)(env:Env):aQ k (A.deeper env):=
 ⟨r.hd,by have:=r.dp;show A.depth+1+3*k+5<_;omega,by have:=r.un;show A.units+3+16*k+200<_;omega,by first|exact r.gd| (simp[Around.deeper];exact r.gd)⟩
theorem aQ.depth {k:Nat}{A:ZV}(r:aQ k A):A.depth<recursionLimit:=by have:=r.dp;omega
theorem aQ.units {k:Nat}{A:ZV}(r:aQ k A):A.units+64<cLine:=by have:=r.un;omega
noncomputable def J4:TA:=λ_ H Q=>Q [] H
noncomputable def OT (ta:TE)(tr:TA):TA:=λσ H Q=>ta σ H λx H1=>tr σ H1 λxs H2=>Q (x::xs) H2
section
variable {X:Cx}{e:Expr}{es:List Expr}{te:TE}{t:TA}{pos:Pos}
theorem pD:PA X [] J4:=λ_ _ _ _ H Q I h=>adO ⟨[],H,I,.nil,h⟩
theorem kz (ha:PE X e te)(hr:PA X es t)(hs:ZS (e::es) X.env=(false,eval e X.env)::ZS es X.env:=by rfl):PA X (e::es) (OT te t):=by
 intro pos pins s σ H Q I h
 rw[hs]
 show wpAny _ _ (spliced ((false,eval e X.env)::abU pos (ZS es X.env))) _ _ s
 refine adz (bp (ha pins s σ H _ I h) λu s1 ⟨x,H1,I1,r1,q1⟩=>?_)
 exact bp (hr pos pins s1 σ H1 _ I1 q1) λus s2 ⟨xs,H2,I2,r2,q2⟩=>⟨x::xs,H2,I2,.cons r1 r2,q2⟩
noncomputable def R0 (t:TA):TE:=λσ H Q=>t σ H λxs H1=>xs.length<=ZM /\ ∀p,H1 p=none->Q (.ref p) (upd H1 p (.tup xs))
noncomputable def R1 (t:TA):TE:=λσ H Q=>t σ H λxs H1=>xs.length<=ZM /\ ∀p,H1 p=none->Q (.ref p) (upd H1 p (.lst xs))
theorem J5 {x1}(h:PA X es t):PE X (.Tuple es x1 pos) (R0 t):=by
 intro pins s σ H Q I hq
 refine wpAny_Tuple_spliced (bp (h pos pins s σ H _ I hq) λus s1 ⟨xs,H1,I1,r,z,q⟩=>⟨by rw[<- r.length];exact z,?_⟩)
 have hf:H1 s1.heap.objs.size=none:=I1.bK.fresh (Zy _)
 refine⟨.ref s1.heap.objs.size,upd H1 s1.heap.objs.size (.tup xs),I1.laid (t':=s1.toks) (λb u e=>Zr _ e) (Zy _) ?_,rfl,q _ hf⟩
 exact⟨z,us,r,⟨_,ZD _ rfl,rfl,⟨_,rfl⟩,rfl⟩⟩
theorem z_ (h:PA X es t):PE X (.List es pos) (R1 t):=by
 intro pins s σ H Q I hq
 refine wpAny_List_spliced (bp (h pos pins s σ H _ I hq) λus s1 ⟨xs,H1,I1,r,z,q⟩=>⟨by rw[<- r.length];exact z,?_⟩)
 have hf:H1 s1.heap.objs.size=none:=I1.bK.fresh (Zy _)
 refine⟨.ref s1.heap.objs.size,upd H1 s1.heap.objs.size (.lst xs),I1.laid (t':=s1.toks) (λb u e=>Zr _ e) (Zy _) ?_,rfl,q _ hf⟩
 exact⟨z,us,0,r,ZD _ rfl⟩
end
abbrev Sp:=List V->Hp->VK->XK->Prop
abbrev lO:=List Env->Hp->Zo->XK->Value->Zo->Prop
structure yA (P:ZY)(w:World)(K:ZC)(mg:Str->Option Value)(base:Heap)(A:ZV)(outer:List Env)(s:Zo)(H:Hp):Prop where
 frames:A.frames=some outer
 mod:Mod K mg base
 bs:∀b o,base.get? b=some o->s.heap.get? b=some o/\H b=none
 rX:base.objs.size<=s.heap.objs.size
 jD:s.heap.FunFrames base outer
 wZ:∀b∈lM outer,H b=none
 bK:fA P w H s.heap
 bare:acU s.gens
noncomputable def CE (outer:List Env)(P:ZY)(w:World)(H:Hp)(s:Zo)(Q:VK)(u:Value)(s':Zo):Prop :=
 ∃v H',s'.os=s.os/\acU s'.gens/\Un (lM outer) [] H H' s.heap s'.heap/\fA P w H' s'.heap/\RelV v u/\Q v H'
noncomputable def CR (CX:lO)(outer:List Env)(P:ZY)(w:World)(H:Hp)(s:Zo)(Q:VK)(E:XK)(r:Result)(s':Zo):Prop :=
 match r with
 |.ok (.ret u)=>CE outer P w H s Q u s'
 |.ok _=>False
 |.error e=>CX outer H s E e s'
structure dM (P:ZY)(w:World)(K:ZC)(mg:Str->Option Value)(base:Heap)(CX:lO)(k:Nat)(f:Addr)(fd:aaA)(ps:List Str)(sp:Sp):Prop where
 len:∀vs H Q E,sp vs H Q E->vs.length=ps.length
 run:∀(A:ZV) (outer:List Env) (s:Zo) (H:Hp) (args:Args) (us:List Value) (vs:List V) (Q:VK) (E:XK),aQ k A->yA P w K mg base A outer s H->aez s fd args (ps.zip us)->Vals vs us->sp vs H Q E ->
  adm (model P w) A (.call (.ref f) args) (CR CX outer P w H s Q E) s
theorem dM.imp {P:ZY}{w:World}{K:ZC}{mg:Str->Option Value}{base:Heap}{CX:lO}{k:Nat}{f:Addr}{fd:aaA}{ps:List Str}{sp Qh:Sp}(F:dM P w K mg base CX k f fd ps sp)
  (h:∀vs H Q E,Qh vs H Q E->sp vs H Q E):dM P w K mg base CX k f fd ps Qh :=
 ⟨λvs H Q E q=>F.len vs H Q E (h _ _ _ _ q),λA outer s H args us vs Q E hr he hb hv hs=>F.run A outer s H args us vs Q E hr he hb hv (h _ _ _ _ hs)⟩
section
variable {X:Cx}{pins:List (Addr×Obj)}{σ:St}{H:Hp}{s s':Zo}
theorem Inv.R3 (I:Inv X pins σ H s):yA X.prog X.w X.K X.mg X.base X.A X.stack s H :=
 ⟨I.ok.frames,I.ok.mod,I.bs,aa7 I.ok.rX I.sz,I.stack,I.w4,I.bK,I.bare⟩
theorem Inv.after {Q:VK}{u:Value}(I:Inv X pins σ H s)(h:CE X.stack X.prog X.w H s Q u s'):EP X pins σ Q u s':=by
 obtain⟨v,H',os,bare,un,bK,r,q⟩:=h
 obtain⟨hh,g,d,t,J6⟩:=s'
 obtain rfl:J6=s.os:=os
 exact⟨v,H',I.call (h':=hh) (g':=g) (d':=d) (t':=t) (ch:=[]) un bK bare (λb z=>absurd z (by simp)),r,q⟩
end
noncomputable def yB (sp:Sp)(n0:List V)(E:XK)(t:TA):TE:=λσ H Q=>t σ H λvs H1=>sp (vs++n0) H1 Q E
noncomputable def Binds (K:ZC)(fd:aaA)(ps:List Str)(ds:List Value):Prop :=
 ∀(s:Zo) (us:List Value),K.In s.heap->(us++ds).length=ps.length->aez s fd ⟨us,[]⟩ (ps.zip (us++ds))
theorem Binds.all {K:ZC}{fd:aaA}{ps:List Str}(h:∀us:List Value,us.length=ps.length->bindArgs fd ⟨us,[]⟩=pure (ps.zip us)):Binds K fd ps []:=λs us _ hl=>by
 rw[acx]at hl ⊢
 exact .of_eq (h us hl)
def Passes (CX:lO)(X:Cx)(E:XK):Prop:=∀(pins:List (Addr×Obj)) (σ:St) (H:Hp) (s:Zo) (e:Value) (s':Zo),Inv X pins σ H s->CX X.stack H s E e s'->X.xe e s'
section
variable {X:Cx}{CX:lO}{k:Nat}{f C:Addr}{fd:aaA}{ps:List Str}{sp:Sp}{n0:List V}{ds:List Value}{E:XK}{x m:Str}{p pos apos:Pos}{e o:Expr}{es:List Expr}{ta:TE}{t:TA}
theorem Aa {pins:List (Addr×Obj)}{σ:St}{H:Hp}{s:Zo}{Q:VK}{us:List Value}{vs:List V}(F:dM X.prog X.w X.K X.mg X.base CX k f fd ps sp)(hr:aQ k X.A)(hb:Binds X.K fd ps ds)(hd:Vals n0 ds)(hx:Passes CX X E)
  (I:Inv X pins σ H s) (r:Vals vs us) (h:sp (vs++n0) H Q E):wpAny (model X.prog X.w) X.A (call (.ref f) us) (EP X pins σ Q) X.xe s:=by
 have r2:Vals (vs++n0) (us++ds):=r.append hd
 have hl:(us++ds).length=ps.length:=by rw[<- r2.length];exact F.len _ _ _ _ h
 refine wpAny_call (ac4 (F.run X.A X.stack s H ⟨us,[]⟩ (us++ds) (vs++n0) Q E hr I.R3 (hb s us I.i9 hl) r2 h) λr s' hq=>?_)
 cases r with
 |error e=>exact hx pins σ H s e s' I hq
 |ok fl =>
  cases fl with
  |ret u=>exact I.after hq
  |next=>exact abL hq
  |brk=>exact abL hq
  |cont=>exact abL hq
theorem GZ (F:dM X.prog X.w X.K X.mg X.base CX k f fd ps sp)(hr:aQ k X.A)(hg:Gl X x)(hm:X.mg x=some (.ref f))(hk:aaX X.K (.ref f)=true)(hb:Binds X.K fd ps ds)(hd:Vals n0 ds)(hx:Passes CX X E)
  (ha:PA X (e::es) t) (jF:(x == ("__debug__":Str))=false:=by decide) (he:ZS (e::es) X.env=(false,eval e X.env)::ZS es X.env:=by rfl) (jY:(abU pos (ZS es X.env)).any (·.1)=false:=by rfl):
  PE X (.Call (.Name x p) (e::es) [] pos) (yB sp n0 E t):=by
 intro pins s σ H Q I h
 refine abf (qL I hg hm ?_ jF)
 refine PySem.W.callWith_K (h₀:=X.base) I.ok.mod.ue hk (bp (ha pos pins s σ H _ I h) λus s1 ⟨vs,H1,I1,r,q⟩=>⟨I1.i9,?_⟩) he jY
 exact Aa F hr hb hd hx I1 r q
theorem CD (F:dM X.prog X.w X.K X.mg X.base CX k f fd ps sp)(hr:aQ k X.A)(hg:Gl X x)(hm:X.mg x=some (.ref f))(hk:aaX X.K (.ref f)=true)(hb:Binds X.K fd ps ds)(hd:Vals n0 ds)(hx:Passes CX X E)
  (jF:(x == ("__debug__":Str))=false:=by decide):PE X (.Call (.Name x p) [] [] pos) (yB sp n0 E J4):=by
 intro pins s σ H Q I h
 refine abf (qL I hg hm ?_ jF)
 exact PySem.W.callWith_K0 I.i9 hk (Aa (us:=[]) F hr hb hd hx I .nil h)
structure Mk (K:ZC)(C f:Addr):Prop where
 makes:PySem.W.makesIn K C=true
 init:acJ K (.ref C) "__init__" = some (some (.ref f))
 fn:aht K (.ref f)=true
 kp:aaX K (.ref C)=true
end
section
variable {X:Cx}{CX:lO}{k:Nat}{f C:Addr}{fd:aaA}{ps ks:List Str}{sp:Sp}{E:XK}{x m:Str}{p pos apos YA:Pos}{e o:Expr}{es:List Expr}{YN:List afy}{te ta:TE}{t tk:TA}{nm:Option Str}
structure VU (K:ZC)(fd:aaA)(ps ks:List Str)(g:List Value->List Value->List Value)(gV:List V->List V->List V):Prop where
 to:∀(s:Zo) (us ws:List Value),K.In s.heap->(g us ws).length=ps.length->aez s fd ⟨us,ks.zip ws⟩ (ps.zip (g us ws))
 rel:∀{vs:List V} {us:List Value} {zs:List V} {ws:List Value},Vals vs us->Vals zs ws->Vals (gV vs zs) (g us ws)
variable {g:List Value->List Value->List Value}{gV:List V->List V->List V}
end
structure jw (N P:List Str)(sc:Scope):Prop where
 kind:sc.kind = .function
 co:sc.isCoroutine=false
 gen:sc.isGenerator=false
 nd:N.Nodup
 pre:N.take P.length=P
 par:∀x∈P,sc.names.lookup x=some .local\/sc.names.lookup x=some .cell
 J7:∀y∈sc.names,y.2 ≠ .free
theorem se {kindOf:Str->Option abw}{x:Str}:∀{binds:List (Str×Value)} {m:Str->Option Value},(∀v,(x,v) ∉ binds)->bindL kindOf binds m x=m x
 | [],_,_=>rfl
 | (n,v)::r,m,h=>by
  unfold bindL
  rw[se λw hw=>h w (ZQ _ hw)]
  split
  . have:x≠n:=by rintro rfl;exact h v ZO
    simp[this]
  . rfl
theorem sf {kindOf:Str->Option abw}{x:Str}:∀{binds:List (Str×Value)} {m:Str->Option Value},(∀v,(x,v) ∉ binds)->bindC kindOf binds m x=m x
 | [],_,_=>rfl
 | (n,v)::r,m,h=>by
  unfold bindC
  rw[sf λw hw=>h w (ZQ _ hw)]
  split
  . rfl
  . have:x≠n:=by rintro rfl;exact h v ZO
    simp[this]
theorem sg {kindOf:Str->Option abw}{x:Str}{v:Value}:∀{P:List Str} {vs:List Value} {i:Nat} {m:Str->Option Value},P.Nodup->P[i]? = some x->vs[i]? = some v->kindOf x=some .local ->
  bindL kindOf (P.zip vs) m x=some v
 | [],_,_,_,_,h,_,_=>by simp at h
 |_::_,[],_,_,_,_,h,_=>by simp at h
 |p::P,w::vs,0,m,nd,h1,h2,hk=>by
  simp at h1 h2;subst h1;subst h2
  show bindL kindOf ((p,w)::P.zip vs) m p=_
  unfold bindL
  rw[se λv hv=>(abl.mp nd).1 (aej hv).1,if_pos hk]
  simp
 |p::P,w::vs,i+1,m,nd,h1,h2,hk=>by
  show bindL kindOf ((p,w)::P.zip vs) m x=_
  unfold bindL
  exact sg (i:=i) (abl.mp nd).2 (by simpa using h1) (by simpa using h2) hk
theorem si {kindOf:Str->Option abw}{x:Str}{v:Value}:∀{P:List Str} {vs:List Value} {i:Nat} {m:Str->Option Value},P.Nodup->P[i]? = some x->vs[i]? = some v->kindOf x≠some .local ->
  bindC kindOf (P.zip vs) m x=some v
 | [],_,_,_,_,h,_,_=>by simp at h
 |_::_,[],_,_,_,_,h,_=>by simp at h
 |p::P,w::vs,0,m,nd,h1,h2,hk=>by
  simp at h1 h2;subst h1;subst h2
  show bindC kindOf ((p,w)::P.zip vs) m p=_
  unfold bindC
  rw[sf λv hv=>(abl.mp nd).1 (aej hv).1,if_neg hk]
  simp
 |p::P,w::vs,i+1,m,nd,h1,h2,hk=>by
  show bindC kindOf ((p,w)::P.zip vs) m x=_
  unfold bindC
  exact si (i:=i) (abl.mp nd).2 (by simpa using h1) (by simpa using h2) hk
noncomputable def start (N:List Str)(vs:List V):St:=vs.map some++ZR (N.length-vs.length) none
noncomputable def ml (CX:lO)(P:ZY)(w:World)(K:ZC)(mg:Str->Option Value)(base:Heap)(N:List Str)(qual:Str)(scope:Scope)(f:Addr)(cd:Value)(A:ZV)(outer:List Env)(s:Zo)(H:Hp)(E:XK):Cx where
 prog:=P
 w:=w
 K:=K
 mg:=mg
 base:=base
 A:=A.deeper (ac5 qual scope s.heap.objs.size f cd)
 N:=N
 s₀:=s
 H₀:=H
 env:=ac5 qual scope s.heap.objs.size f cd
 outer:=outer
 stack:=ac5 qual scope s.heap.objs.size f cd::outer
 ex:=[]
 calm:=true
 fn:=λ_=>true
 pn:=[]
 xe:=λe s'=>wpAny (model P w) (A.deeper (ac5 qual scope s.heap.objs.size f cd)) (leaving (ac5 qual scope s.heap.objs.size f cd) e) (λ_ Ab=>CX outer H s E e Ab) (λe' Ab=>CX outer H s E e' Ab) s'
theorem uy {sc:Scope}{n:Nat}{x:Str}(h:sc.names.lookup x=some .cell):∃c,(aaH n sc.names []).lookup x=some c:=by
 have q:=aep sc.names n [] (.inl h)
 exact abm.mp q
theorem Ac {CX:lO}{P:ZY}{w:World}{K:ZC}{mg:Str->Option Value}{base:Heap}{N ps:List Str}{qual:Str}{scope:Scope}{f:Addr}{cd:Value}{A:ZV}{outer:List Env}{s s1:Zo}{H:Hp}{E:XK}{us:List Value}{vs:List V}
   (S:jw N ps scope) (hd:A.handled=none) (e0:yA P w K mg base A outer s H) (hl:vs.length=ps.length) (r:Vals vs us)
   (x:InCallC s s.heap.objs.size (bindL (ac5 qual scope s.heap.objs.size f cd).kindOf (ps.zip us) λ_=>none) (aaH (s.heap.objs.size+1) scope.names []) (bindC (ac5 qual scope s.heap.objs.size f cd).kindOf (ps.zip us) λ_=>none) s1):
   Inv (ml CX P w K mg base N qual scope f cd A outer s H E) [] (start N vs) H s1:=by
 have jY:ps.length<=N.length:=by have:=congrArg adx S.pre;rw[aaO]at this;omega
 obtain⟨h1,tk,rfl,hk⟩:=x.done
 have Ad:∀b:Addr,b ∉ (ml CX P w K mg base N qual scope f cd A outer s H E).ex:=λb z=>absurd (show b∈([]:List Addr) from z) (by simp)
 refine⟨⟨e0.mod,S.kind,rfl,rfl,Zy _,λy z c h1 h2=>?_,λy hy=>?_,λy c _ h=>?_,λ_=>hd,Around.frames_deeper e0.frames,.inr ⟨rfl,rfl⟩,λb z=>absurd z (Ad b),e0.bs,e0.rX,λb _ _=>Ad b,λb z=>absurd z (Ad b),e0.jD,e0.wZ⟩,
   rfl,e0.bare,Un.kept hk,⟨_,x.toInCall.ns,λi y v h1 h2 h3=>?_⟩,λy c h=>⟨_,x.cell y c h⟩,e0.bK.fresh (Zy _),λy c h=>?_,λp hp=>absurd (show p∈([]:List (Addr×Obj)) from hp) (by simp),e0.bK.kept hk,?_⟩
 . exact name_of_addr x.apart (aaJ h1) (aaJ h2)
 . have hy:scope.names.lookup y=some .cell\/scope.names.lookup y=some .free:=hy
   rcases hy with hy|hy
   . exact uy hy
   . exact absurd rfl (S.J7 _ (aaJ hy))
 . exact abT (x.above y c (aaJ h))
 . have hi:i<vs.length:=by
     unfold start at h2
     by_cases hi:i<vs.length
     . exact hi
     . rw[aas (by simpa using hi)]at h2
       rw[aec]at h2
       split at h2<;>cases h2
   have ha:vs[i]? = some v:=by
     unfold start at h2
     rw[ZL (by simpa using hi),Z1]at h2
     cases e:vs[i]? with
     |none=>rw[e]at h2;cases h2
     |some a=>rw[e]at h2;cases h2;rfl
   obtain⟨u,hu,rv⟩:=r.get ha
   have hp:ps[i]? = some y:=by
     rw[<- S.pre,Z4 (by omega)];exact h1
   have Qi:ps.Nodup:=by rw[<- S.pre];exact S.nd.sublist (afC _ _)
   refine⟨u,rv,?_⟩
   rcases S.par y (Z_ hp)with k|k
   . exact .inl ⟨k,sg Qi hp hu k⟩
   . obtain⟨c,e⟩:=uy (n:=s.heap.objs.size+1) k
     refine .inr ⟨.inl k,c,e,?_⟩
     have q:=x.cell y c e
     rw[si Qi hp hu (by show scope.names.lookup y≠_;rw[k];decide)]at q
     exact q
 . exact e0.bK.fresh (abT (x.above y c (aaJ h)))
 . unfold start
   show _=N.length
   rw[aaU,ZN,List.length_replicate]
   omega
theorem OU {CX:lO}{P:ZY}{w:World}{K:ZC}{mg:Str->Option Value}{base:Heap}{k:Nat}{f:Addr}{name qual:Str}{params:Arguments}{body:List Stmt}{scope:Scope}{dV kV doc pm et ct oc:Value}{an od:Option Addr}
  {uz:Array (Option Value)} {N ps:List Str} {sp:Sp} (lk:K.lookup f=some ⟨oc,od,.func (abV name qual params body scope dV kV doc pm an et ct),uz⟩) (nX:adn K et qual=true) (S:jw N ps scope)
  (len:∀vs H Q E,sp vs H Q E->vs.length=ps.length)
  (yC:∀(A:ZV) (outer:List Env) (s:Zo) (H:Hp) (vs:List V) (Q:VK) (E:XK),aQ k (A.deeper (ac5 qual scope s.heap.objs.size f et))->sp vs H Q E ->
    ∃t,gS (ml CX P w K mg base N qual scope f et A outer s H E) body t/\t { nx:=λ_ H'=>Q .az H',rt:=Q } (start N vs) H):
  dM P w K mg base CX (k+1) f (abV name qual params body scope dV kV doc pm an et ct) ps sp:=by
 refine⟨len,λA outer s H args us vs Q E hr e0 hb r sj=>?_⟩
 have hl:=len _ _ _ _ sj
 have KX:K.In s.heap:=e0.mod.ue.keeps λb o e=>(e0.bs b o e).1
 have lim:s.heap.NoLimit:=e0.mod.nolimit.keeps λb o e=>(e0.bs b o e).1
 have tI:∀y∈ps.zip us,scope.names.lookup y.1=some .local\/(scope.names.lookup y.1=some .cell/\((aaH (s.heap.objs.size+1) scope.names []).lookup y.1).isSome=true):=λ⟨n,v⟩ hy=>by
  rcases S.par n (aej hy).1 with q|q
  . exact .inl q
  . exact .inr ⟨q,aep _ _ _ (.inl q)⟩
 refine codeAny_call_function hr.depth (KX _ _ lk) rfl S.co S.gen rfl (PySem.W.codeRec_of KX nX) (hb _ _ _ _ ?_)
 refine wpAny_newFunctionEnv_cells S.kind tI λenv he s1 x=>?_
 subst he
 refine⟨lim.keeps x.toInCall.keep,codeAny_func ?_⟩
 obtain⟨t,ht,hq⟩:=yC A outer s H vs Q E (hr.deeper _) sj
 have I:Inv (ml CX P w K mg base N qual scope f et A outer s H E) [] (start N vs) H s1:=Ac S hr.hd e0 hl r x
 refine ac2 (ht [] s1 (start N vs) H _ I hq) (λfl s' hs=>?_) λe s' hs=>hs
 have fin:∀{σ':St} {H':Hp} {v:V} {u:Value},Inv (ml CX P w K mg base N qual scope f et A outer s H E) [] σ' H' s'->RelV v u->Q v H'->CE outer P w H s Q u s' :=
  fun {σ' H' v u} J rv q=>⟨v,H',J.os,J.bare,J.base,J.bK,rv,q⟩
 cases fl with
 |ret u =>
  obtain⟨v,σ',H',J,rv,q⟩:=hs
  exact fin J rv q
 |next =>
  obtain⟨σ',H',J,q⟩:=hs
  exact fin (v:=V.az) (u:=ab3) J rfl q
 |brk =>
  obtain⟨_,_,_,q⟩:=hs
  exact abL q
 |cont =>
  obtain⟨_,_,_,q⟩:=hs
  exact abL q
section
variable {X:Cx}{x:Str}{p pos:Pos}{e:Expr}{es:List Expr}{t:TA}{id T:String}{r:List V->Hp->VK->Prop}
noncomputable def Qj (r:List V->Hp->VK->Prop)(t:TA):TE:=λσ H Q=>t σ H λvs H1=>r vs H1 Q
theorem uA (hc:cz X (.builtin id) r)(hg:Gl X x)(hm:X.mg x=none)(hv:aa6 x=some (.builtin id))(ha:PA X (e::es) t)(hn:x ≠ "__name__":=by decide)(jF:(x == ("__debug__":Str))=false:=by decide)
  (he:ZS (e::es) X.env=(false,eval e X.env)::ZS es X.env:=by rfl) (jY:(abU pos (ZS es X.env)).any (·.1)=false:=by rfl):PE X (.Call (.Name x p) (e::es) [] pos) (Qj r t):=by
 intro pins s σ H Q I h
 refine abf (gj I hg hm hv ?_ hn jF)
 exact ac6 (bp (ha pos pins s σ H _ I h) λus s1 ⟨vs,H1,I1,r1,q1⟩=>hc pins s1 σ H1 vs us Q I1 r1 q1) he jY
theorem Ae (hc:cz X (.type T) r)(hg:Gl X x)(hm:X.mg x=none)(hv:aa6 x=some (.type T))(ha:PA X (e::es) t)(hn:x ≠ "__name__":=by decide)(jF:(x == ("__debug__":Str))=false:=by decide)
  (he:ZS (e::es) X.env=(false,eval e X.env)::ZS es X.env:=by rfl) (jY:(abU pos (ZS es X.env)).any (·.1)=false:=by rfl):PE X (.Call (.Name x p) (e::es) [] pos) (Qj r t):=by
 intro pins s σ H Q I h
 refine abf (gj I hg hm hv ?_ hn jF)
 exact aaB (bp (ha pos pins s σ H _ I h) λus s1 ⟨vs,H1,I1,r1,q1⟩=>hc pins s1 σ H1 vs us Q I1 r1 q1) he jY
end
end L2
namespace HT
open PySem PyProof.Rows
section
open PySem.SeqAt
open PySem.AutoSeq1 (wpAny_loadPart')
open PySem.MeetsSeq PySem.MeetsSeq2 PySem.MeetsSeq3
end
section
variable {prog:ZY}{w:World}{A:ZV}{E:Value->Zo->Prop}{s:Zo}
theorem G_ {t b:Addr}{vs ws:List Value}{Q:Value->Zo->Prop}(ht:IsTup s.heap t vs.toArray)(hb:IsTup s.heap b ws.toArray)(hv:vs ≠ [])
   (h1:ws = []->Q (.ref t) s) (h2:ws ≠ []->Q (.ref s.heap.objs.size) { s with heap:=s.heap.push { cls:=.type "tuple",data:=.seq (vs++ws).toArray } })
   (hsz:vs.length+ws.length<=ZM):wpAny (model prog w) A (aah .Add (.ref t) (.ref b)) Q E s:=by
 obtain⟨⟨cls,dd,data,sl⟩,ho,hc,n,hd⟩:=id ht
 obtain⟨⟨CF,mn,data2,i_⟩,gm,ja,n2,hd2⟩:=id hb
 simp only at hc hd ja hd2
 subst hc hd ja hd2
 have e:vs.toArray++ws.toArray=(vs++ws).toArray:=by simp
 by_cases hw:ws = []
 . exact ad5 ⟨_,ho,rfl⟩ ⟨_,gm,rfl⟩ ad6 aeY acP acL (acC _ _)
    (tuple_addW1 t b vs.toArray ws.toArray n n2 dd mn sl i_ (by simpa using hv) (by simp[hw])) ⟨ho,gm,h1 hw⟩
 . refine ad5 ⟨_,ho,rfl⟩ ⟨_,gm,rfl⟩ ad6 aeY acP acL (acC _ _)
    (tuple_addW2 t b vs.toArray ws.toArray n n2 dd mn sl i_ (by simpa using hv) (by simpa using hw) (by rw[Zt,Zt];exact hsz)) ⟨ho,gm,?_⟩
   rw[e]
   exact h2 hw
noncomputable def bG (n d:Nat):Option Int->Nat
 |none=>d
 |some v=>if v<0 then(v+(n:Int)).toNat else min v.toNat n
theorem kW (n d:Nat):bG n d none=d:=rfl
theorem kA (n d k:Nat):bG n d (some (k:Int))=min k n:=by
 show(if(k:Int)<0 then((k:Int)+(n:Int)).toNat else min (k:Int).toNat n)=min k n
 rw[if_neg (by omega),abI]
theorem J8 (n d:Nat)(hd:d<=n)(o:Option Int):bG n d o<=n:=by
 cases o with
 |none=>exact hd
 |some v =>
  show(if v<0 then(v+(n:Int)).toNat else min v.toNat n)<=n
  by_cases hv:v<0
  . rw[if_pos hv];omega
  . rw[if_neg hv];exact Nat.min_le_right _ _
theorem w_ (v:Int)(n d:Nat):(if v<0 then max (v+(n:Int)) 0 else min v (n:Int))=((bG n d (some v):Nat):Int):=by
 show(if v<0 then max (v+(n:Int)) 0 else min v (n:Int))=(((if v<0 then(v+(n:Int)).toNat else min v.toNat n):Nat):Int)
 by_cases hv:v<0
 . simp only[if_pos hv];omega
 . simp only[if_neg hv];omega
theorem yD (lo hi:Option Int)(n:Nat):acy lo hi 1 (n:Int)=(((bG n 0 lo:Nat):Int),((bG n n hi:Nat):Int)):=by
 have h1:¬((1:Int)<0):=by omega
 unfold acy
 simp only[h1,if_false]
 refine Prod.ext ?_ ?_
 . cases lo with
   |none=>rfl
   |some v=>exact w_ v n 0
 . cases hi with
   |none=>rfl
   |some v=>exact w_ v n n
theorem yE (i j:Nat):abM (i:Int) (j:Int) 1=j-i:=by
 unfold abM
 have h1:(1:Int)>0:=by omega
 simp only[h1,if_true,Int.ediv_one]
 split<;>omega
theorem pF {v:Value}{o:Option Int}{Q:Option Int->Zo->Prop}(p:ac7 v o)(h:Q o s):wpAny (model prog w) A (Builtin.Slice.slicePartIndex v) Q E s:=by
 cases p with
 |none=>exact slicePart_none h
 |int i t=>exact slicePart_int h
theorem jG {sl:Addr}{vl vu:Value}{lo hi:Option Int}{n:Nat}{Q:Int×Int×Nat->Zo->Prop}(hs:s.heap.IsSliceOf sl vl vu .none)(pl:ac7 vl lo)(pu:ac7 vu hi)
  (h:Q (((bG n 0 lo:Nat):Int),1,bG n n hi-bG n 0 lo) s):wpAny (model prog w) A (adH (.ref sl) (pure (n:Int))) Q E s:=by
 obtain⟨os,uB,xa,pG⟩:=id hs
 unfold adH Builtin.Slice.sliceFields
 refine Zm (Zm (acv uB pG (x:=vl) rfl (Zm (acv uB pG (x:=vu) rfl (Zm (acv uB pG (x:=.none) rfl (Zp ?_)))))))
 refine Zm (slicePart_none ?_)
 show wpAny _ _ (if((1:Int)== 0)=true then _ else _) _ _ s
 rw[if_neg (by decide)]
 refine Zm (pF pl (Zm (pF pu (Zm (Zp ?_)))))
 show wpAny _ _ (match acy lo hi 1 (n:Int)with| (lo,hi)=>pure (lo,(1:Int),abM lo hi 1)) _ _ s
 rw[yD lo hi n]
 show wpAny _ _ (pure (((bG n 0 lo:Nat):Int),(1:Int),abM ((bG n 0 lo:Nat):Int) ((bG n n hi:Nat):Int) 1)) _ _ s
 rw[yE]
 exact Zp h
theorem CG (xs:Array Value)(i k:Nat):((Zx k).filterMap λ(m:Nat)=>xs[((i:Int)+(m:Int)*1).toNat]?).toArray=((xs.toList.drop i).take k).toArray:=by
 have e:(λ(m:Nat)=>xs[((i:Int)+(m:Int)*1).toNat]?)=λm=>xs[i+m]?:=by
  funext m
  have:((i:Int)+(m:Int)*1).toNat=i+m:=by omega
  rw[this]
 rw[e]
 have:=pick_run xs i k
 rw[List.filterMap_map]at this
 have e2:((λx=>xs[x]?) ∘ λx=>i+x)=λm=>xs[i+m]?:=rfl
 rw[e2]at this
 rw[this]
theorem nV {t sl:Addr}{items:Array Value}{vl vu:Value}{lo hi:Option Int}{Q:Value->Zo->Prop}(ht:IsTup s.heap t items)(hs:s.heap.IsSliceOf sl vl vu .none)(pl:ac7 vl lo)(pu:ac7 vu hi)
  (hw:¬(bG items.size 0 lo=0/\bG items.size items.size hi=items.size))
  (h:Q (.ref s.heap.objs.size) { s with heap:=s.heap.push { cls:=.type "tuple",data:=.seq ((items.toList.drop (bG items.size 0 lo)).take (bG items.size items.size hi-bG items.size 0 lo)).toArray } })
  (hsz:items.size<=ZM):wpAny (model prog w) A (ado (.ref t) (.ref sl)) Q E s:=by
 have tJ:sizeOk (.seq ((items.toList.drop (bG items.size 0 lo)).take (bG items.size items.size hi-bG items.size 0 lo)).toArray):=by
  show((items.toList.drop (bG items.size 0 lo)).take (bG items.size items.size hi-bG items.size 0 lo)).toArray.size<=ZM
  rw[Zt,aaO,afY,adl]
  omega
 have hj:bG items.size items.size hi<=items.size:=J8 _ _ (Zy _) hi
 obtain⟨os,uB,xa,pG⟩:=id hs
 have J9:s.TypeIs (.ref sl) "slice":=⟨os,uB,xa⟩
 unfold ado
 try with_reducible refine Z7 ?_
 first|refine Zm (Zp ?_)|skip
 refine Zm (acN ht.typeIs (by decide) ?_)
 refine Zm (aav (name:=ZW "__getitem__") ht.typeIs aaw
  (aaa aaw ht.typeIs ae4 ?_ (args_tuple_getitem _ _)))
 show wpAny _ _ (acs (.ref t) >>= _) _ _ s
 refine Zm (tupleItemsOf_ ht ?_)
 refine Zm (ac8 J9 ?_)
 rw[if_pos (by decide)]
 refine Zm (jG hs pl pu ?_)
 have J_:¬((((bG items.size 0 lo:Nat):Int)== 0&&(1:Int)== 1&&(bG items.size items.size hi-bG items.size 0 lo)== items.size)=true):=by
  intro q
  rw[Zn,Zn]at q
  have q1:((bG items.size 0 lo:Nat):Int)=0:=eq_of_beq q.1.1
  have q2:bG items.size items.size hi-bG items.size 0 lo=items.size:=eq_of_beq q.2
  exact hw ⟨by omega,by omega⟩
 show wpAny _ _ (if(((bG items.size 0 lo:Nat):Int)== 0&&(1:Int)== 1&&(bG items.size items.size hi-bG items.size 0 lo)== items.size)=true then _ else _) _ _ s
 rw[if_neg J_,CG]
 first
  |exact Zm (m:=aaV _) (aaS (Zp ⟨_,rfl,Zp h⟩) tJ)
  |exact Zm (m:=aaV _) (aaS (Zm (Zp (Zp ⟨_,rfl,Zp h⟩))) tJ)
  |exact Zm (Zm (m:=aaV _) (aaS (Zp (Zp ⟨_,rfl,Zp h⟩)) tJ))
  |exact Zm (Zm (m:=aaV _) (aaS (Zp ⟨_,rfl,Zp h⟩) tJ))
end
end HT
namespace L2
open PySem PySem.Spec PyProof.Rows
abbrev TO:=St->Hp->(Option Int->Hp->Prop)->Prop
noncomputable def PO (X:Cx)(e:Option Expr)(t:TO):Prop :=
 ∀(pins:List (Addr×Obj)) (s:Zo) (σ:St) (H:Hp) (Q:Option Int->Hp->Prop),Inv X pins σ H s->t σ H Q ->
  wpAny (model X.prog X.w) X.A (evalPart e X.env) (λu s'=>∃o H',Inv X pins σ H' s'/\ac7 u o/\Q o H') X.xe s
noncomputable def Ha:TO:=λ_ H Q=>Q none H
noncomputable def OW (t:TE):TO:=λσ H Q=>t σ H λx H1=>∃i,x = .int i/\Q (some i) H1
section
variable {X:Cx}{e:Expr}{te:TE}{lo hi:Option Expr}{tl th:TO}{pos p2:Pos}
theorem Hb:PO X none Ha:=by
 intro pins s σ H Q I h
 rw[evalPart_none]
 exact Zp ⟨none,H,I,.none,h⟩
theorem Hc (h:PE X e te):PO X (some e) (OW te):=by
 intro pins s σ H Q I hw
 rw[evalPart_some]
 refine bp (h pins s σ H _ I hw) λu s1 ⟨x,H1,I1,r1,q1⟩=>?_
 obtain⟨i,rfl,q⟩:=q1
 obtain⟨t,rfl⟩:=r1
 exact⟨some i,H1,I1,.int i t,q⟩
noncomputable def n_ (X:Cx)(r:V->Option Int->Option Int->Hp->VK->Prop):Prop :=
 ∀(pins:List (Addr×Obj)) (s:Zo) (σ:St) (H:Hp) (x:V) (v vl vu:Value) (lo hi:Option Int) (sl:Addr) (Q:VK),Inv X pins σ H s->RelV x v->s.heap.IsSliceOf sl vl vu .none->ac7 vl lo->ac7 vu hi->r x lo hi H Q ->
  ∃T id,typeLookup (.type T) "__getitem__" = pure (some (.builtin id))/\s.TypeIs v T/\wpAny (model X.prog X.w) X.A (ado v (.ref sl)) (EP X pins σ Q) X.xe s
theorem n_.or {r r':V->Option Int->Option Int->Hp->VK->Prop}(h:n_ X r)(h':n_ X r'):n_ X (λx lo hi H Q=>r x lo hi H Q\/r' x lo hi H Q):=by
 intro pins s σ H x v vl vu lo hi sl Q I rx hs pl pu q
 rcases q with q|q
 . exact h pins s σ H x v vl vu lo hi sl Q I rx hs pl pu q
 . exact h' pins s σ H x v vl vu lo hi sl Q I rx hs pl pu q
noncomputable def VV (r:V->Option Int->Option Int->Hp->VK->Prop)(te:TE)(tl th:TO):TE:=λσ H Q=>te σ H λx H1=>tl σ H1 λl H2=>th σ H2 λu H3=>r x l u H3 Q
theorem CH {r:V->Option Int->Option Int->Hp->VK->Prop}(hr:n_ X r)(he:PE X e te)(hl:PO X lo tl)(hu:PO X hi th):PE X (.Subscript e (.Slice lo hi none p2) pos) (VV r te tl th):=by
 intro pins s σ H Q I h
 refine Subscript_ (bp (he pins s σ H _ I h) λv s1 ⟨x,H1,I1,r1,q1⟩=>?_)
 refine wpAny_Slice (bp (hl pins s1 σ H1 _ I1 q1) λvl s2 ⟨l,H2,I2,pl,q2⟩=>bp (hu pins s2 σ H2 _ I2 q2) λvu s3 ⟨u,H3,I3,pu,q3⟩=>?_)
 rw[evalPart_none]
 refine Zp ?_
 have I4:Inv X pins σ H3 { s3 with heap:=s3.heap.push { cls:=.type "slice",data:=.fields #[vl,vu,.none] } }:=I3.kept (t':=s3.toks) λb ob q=>Zr _ q
 obtain⟨T,id,hT,ht,hg⟩:=hr pins { s3 with heap:=s3.heap.push { cls:=.type "slice",data:=.fields #[vl,vu,.none] } } σ H3 x v vl vu l u s3.heap.objs.size Q I4 r1 (Heap.IsSliceOf.new ..) pl pu q3
 show wpAny (model X.prog X.w) X.A (subscriptTail e (.Slice lo hi none p2) v (.ref s3.heap.objs.size)) (EP X pins σ Q) X.xe { s3 with heap:=s3.heap.push { cls:=.type "slice",data:=.fields #[vl,vu,.none] } }
 exact tail_any (ops:=[.ref s3.heap.objs.size,v]) ht hT hg (by with_unfolding_all rfl)
noncomputable def mq (xs:List V)(lo hi:Option Int):List V:=(xs.drop (HT.bG xs.length 0 lo)).take (HT.bG xs.length xs.length hi-HT.bG xs.length 0 lo)
theorem oa (xs:List V)(lo hi:Option Int):(mq xs lo hi).length<=xs.length:=by
 unfold mq
 rw[aaO,afY]
 omega
noncomputable def Ka (K:ZC):V->Option Int->Option Int->Hp->VK->Prop:=λx lo hi H Q=>∃a xs,x = .ref a/\dQ K H a xs /\
 ¬(HT.bG xs.length 0 lo=0/\HT.bG xs.length xs.length hi=xs.length) /\ ∀p,H p=none->Q (.ref p) (upd H p (.tup (mq xs lo hi)))
theorem Kb:n_ X (Ka X.K):=by
 intro pins s σ H x v vl vu lo hi sl Q I rx hs pl pu h
 obtain⟨a,xs,rfl,hx,hw,q⟩:=h
 cases rx
 obtain⟨aw,r,ht,hz⟩:=I.tuple hx
 have hlen:aw.toArray.size=xs.length:=by rw[Zt];exact r.length.symm
 refine⟨"tuple",_,aaw.lookup,ht.typeIs,?_⟩
 refine HT.nV ht hs pl pu (by rw[hlen];exact hw) ?_ (by rw[hlen];exact hz)
 rw[hlen]
 refine⟨.ref s.heap.objs.size,_,I.laid (t':=s.toks) (o:=.tup (mq xs lo hi)) (λb ob q=>Zr _ q) (Zy _) ?_,rfl,q _ (I.bK.fresh (Zy _))⟩
 exact⟨aa7 (oa xs lo hi) hz,_,(r.drop (HT.bG xs.length 0 lo)).take (HT.bG xs.length xs.length hi-HT.bG xs.length 0 lo),fz.new _ _⟩
noncomputable def OX (K:ZC):R2:=λx y H Q=>∃a b xs ys,x = .ref a/\y = .ref b/\dQ K H a xs/\dQ K H b ys/\xs ≠ []/\xs.length+ys.length<=ZM /\
 (ys = []->Q (.ref a) H)/\(ys ≠ []->∀p,H p=none->Q (.ref p) (upd H p (.tup (xs++ys))))
theorem Vals.qM {xs:List V}{us:List Value}(r:Vals xs us):us = []↔ xs = []:=by
 cases r with
 |nil=>simp
 |cons _ _=>simp
theorem He:bB X (aah .Add) (OX X.K):=by
 intro pins s σ H x y v u Q I rx ry h
 obtain⟨a,b,xs,ys,rfl,rfl,ha,hb,hx,hz,q1,q2⟩:=h
 cases rx
 cases ry
 obtain⟨aw,r1,p1,_⟩:=I.tuple ha
 obtain⟨oJ,r2,p2,_⟩:=I.tuple hb
 refine HT.G_ p1 p2 (λz=>hx (r1.qM.mp z)) (λz=>⟨.ref a,H,I,rfl,q1 (r2.qM.mp z)⟩) (λz=>?_) (by rw[<- r1.length,<- r2.length];exact hz)
 refine⟨.ref s.heap.objs.size,_,I.laid (t':=s.toks) (o:=.tup (xs++ys)) (λb ob q=>Zr _ q) (Zy _) ?_,rfl,q2 (λw=>z (r2.qM.mpr w)) _ (I.bK.fresh (Zy _))⟩
 exact⟨by rw[aaU];exact hz,_,r1.append r2,fz.new _ _⟩
end
noncomputable def kB (n:Nat)(i:Int):Option Nat:=if 0<=i then(if i<n then some i.toNat else none)else if -(n:Int)<=i then some (i+n).toNat else none
noncomputable def d6 {α:Type}(xs:List α)(i:Int):Option α:=(kB xs.length i).bind λj=>xs[j]?
theorem xb {n:Nat}{i:Int}{j:Nat}(h:kB n i=some j):afk i n=some j/\j<n /\ -(n:Int)<=i/\i<n:=by
 unfold kB at h
 by_cases h0:0<=i
 . rw[if_pos h0]at h
   by_cases h1:i<n
   . rw[if_pos h1]at h
     have e:i.toNat=j:=aaf h
     exact⟨by rw[afP h0 h1,e],by omega,by omega,h1⟩
   . rw[if_neg h1]at h;cases h
 . rw[if_neg h0]at h
   by_cases h1:-(n:Int)<=i
   . rw[if_pos h1]at h
     have e:(i+n).toNat=j:=aaf h
     exact⟨by rw[seqIndex_neg (by omega) h1,e],by omega,h1,by omega⟩
   . rw[if_neg h1]at h;cases h
theorem qN {α:Type}{xs:List α}{i:Int}{v:α}(h:d6 xs i=some v):∃j,afk i xs.length=some j/\xs[j]? = some v/\j<xs.length /\ -(xs.length:Int)<=i/\i<xs.length:=by
 unfold d6 at h
 cases e:kB xs.length i with
 |none=>rw[e]at h;cases h
 |some j =>
  rw[e]at h
  obtain⟨h1,h2,h3,h4⟩:=xb e
  exact⟨j,h1,h,h2,h3,h4⟩
theorem Hf {α:Type}{xs:List α}{j:Nat}{v:α}(h:xs[j]? = some v):d6 xs (j:Int)=some v:=by
 have hj:j<xs.length:=(Zs.mp h).1
 have e:kB xs.length (j:Int)=some j:=by
  unfold kB
  rw[if_pos (by omega),if_pos (by omega)];simp
 unfold d6;rw[e];exact h
def qO (b:Expr):Prop:=∀o i,subscripted b false o i=operate [o,i] (ado o i)
noncomputable def mr (X:Cx)(r:R2):Prop :=
 ∀(value slice:Expr) (pins:List (Addr×Obj)) (s:Zo) (σ:St) (H:Hp) (x y:V) (v u:Value) (Q:VK),Inv X pins σ H s->RelV x v->RelV y u->r x y H Q ->
  subscripted slice false v u=operate [v,u] (ado v u)->wpAny (model X.prog X.w) X.A (subscriptTail value slice v u) (EP X pins σ Q) X.xe s
noncomputable def Qk (X:Cx)(id:String)(r:V->List V->Hp->VK->Prop):Prop :=
 ∀(pins:List (Addr×Obj)) (s:Zo) (σ:St) (H:Hp) (x:V) (xs:List V) (v:Value) (us:List Value) (Q:VK),Inv X pins σ H s->RelV x v->Vals xs us->r x xs H Q ->
  wpAny (model X.prog X.w) X.A (call (.builtin id) (v::us)) (EP X pins σ Q) X.xe s
section
variable {X:Cx}{a b:Expr}{ta tb:TE}{pos:Pos}
theorem mr.or {r r':R2}(h:mr X r)(h':mr X r'):mr X (λx y H Q=>r x y H Q\/r' x y H Q):=by
 intro value slice pins s σ H x y v u Q I rx ry q hs
 rcases q with q|q
 . exact h value slice pins s σ H x y v u Q I rx ry q hs
 . exact h' value slice pins s σ H x y v u Q I rx ry q hs
theorem OY {r:R2}(hr:mr X r)(ha:PE X a ta)(hb:PE X b tb)(hs:qO b):PE X (.Subscript a b pos) (zY r ta tb):=by
 intro pins s σ H Q I h
 exact Subscript_ (Cv ha hb I h λv u s2 x y H2 I2 rx ry q=>hr a b pins s2 σ H2 x y v u Q I2 rx ry q (hs _ _))
noncomputable def Kc (K:ZC):R2:=λx y H Q=>∃p xs i v,x = .ref p/\y = .int i/\dz K H p xs/\d6 xs i=some v/\Q v H
noncomputable def Kd (K:ZC):R2:=λx y H Q=>∃p xs i v,x = .ref p/\y = .int i/\dQ K H p xs/\d6 xs i=some v/\Q v H
noncomputable def Ke:R2:=λx y H Q=>∃z i c,x = .str z/\y = .int i/\z.length<=ZM/\d6 z.cps.toList i=some c/\Q (.str ⟨#[c]⟩) H
theorem Hg:mr X (Kc X.K):=by
 intro value slice pins s σ H x y v u Q I rx ry h hs
 obtain⟨p,xs,i,z,rfl,rfl,hq,he,q⟩:=h
 cases rx
 obtain⟨t,rfl⟩:=ry
 obtain⟨aw,r,pl,hz⟩:=I.list hq
 obtain⟨j,h1,h2,h3,h4,h5⟩:=qN he
 obtain⟨w,ew,Af⟩:=r.get h2
 have hl:=r.length
 have hn:=ky
 have fin:EP X pins σ Q w s:=⟨z,H,I,Af,q⟩
 by_cases h0:0<=i
 . have hj:i.toNat=j:=by
    rw[afP h0 h5]at h1
    exact aaf h1
   exact item_listR pl.isList h0 (by omega) (by rw[hj];simpa using ew) fin hs
 . have hj:(i+(aw.toArray.size:Int)).toNat=j:=by
    rw[seqIndex_neg (by omega) h4]at h1
    rw[Zt,<- hl]
    exact aaf h1
   exact acQ (x:=w) pl.isList.typeIs slot_list_getitem.lookup
    (wpAny_getItem_list_neg (Q:=λr s'=>r=w/\EP X pins σ Q r s') pl.isList (by omega) (by rw[Zt]<;>omega) (by omega) (by rw[hj];simpa using ew) ⟨rfl,fin⟩) hs
theorem Kf:mr X (Kd X.K):=by
 intro value slice pins s σ H x y v u Q I rx ry h hs
 obtain⟨p,xs,i,z,rfl,rfl,hq,he,q⟩:=h
 cases rx
 obtain⟨t,rfl⟩:=ry
 obtain⟨aw,r,pl,hz⟩:=I.tuple hq
 obtain⟨j,h1,h2,h3,h4,h5⟩:=qN he
 obtain⟨w,ew,Af⟩:=r.get h2
 have hl:=r.length
 have hn:=ky
 have fin:EP X pins σ Q w s:=⟨z,H,I,Af,q⟩
 exact acQ (x:=w) pl.typeIs aaw.lookup
  (getItem_tuple (j:=j) (Q:=λr s'=>r=w/\EP X pins σ Q r s') pl (by omega) (by omega) (by rw[Zt,<- hl];exact h1) (by simpa using ew) ⟨rfl,fin⟩) hs
theorem Kg:mr X Ke:=by
 intro value slice pins s σ H x y v u Q I rx ry h hs
 obtain⟨z,i,c,rfl,rfl,hz,he,q⟩:=h
 obtain⟨t,rfl⟩:=rx
 obtain⟨t',rfl⟩:=ry
 obtain⟨j,h1,h2,h3,h4,h5⟩:=qN he
 have hl:z.cps.toList.length=z.length:=by simp[Str.length]
 rw[hl]at h1 h4 h5
 have hn:=ky
 exact tail_any (aeN s z t) slot_str_getitem.lookup (getItem_str (c:=c) (by
  have e1:decide (i < -(2 ^ 63:Int))=false:=decide_eq_false (by omega)
  have e2:decide (i>=2 ^ 63)=false:=decide_eq_false (by omega)
  rw[e1,e2,acS]) (by rw[h1];simpa using h2) ⟨.str ⟨#[c]⟩,H,I.tok _,⟨_,rfl⟩,q⟩) hs
noncomputable def VX (K:ZC):R2:=λx y H Q=>Kc K x y H Q\/Kd K x y H Q\/Ke x y H Q
theorem Ag:mr X (VX X.K):=Hg.or (Kf.or Kg)
theorem yF (aw:List Value)(n j:Nat)(u:Value):abn (·.setIfInBounds j u) { cls:=.type "list",data:=.seq aw.toArray n }={ cls:=.type "list",data:=.seq (aw.set j u).toArray n }:=by
 simp[abn]
theorem Inv.lst {pins:List (Addr×Obj)}{σ:St}{H:Hp}{s:Zo}{p:Addr}{xs:List V}(I:Inv X pins σ H s)(h:H p=some (.lst xs)):
  ∃(aw:List Value) (n:Nat),Vals xs aw/\s.heap.get? p=some { cls:=.type "list",data:=.seq aw.toArray n }/\xs.length<=ZM:=by
 obtain⟨z,aw,n,r,e⟩:=I.bK p _ h
 exact⟨aw,n,r,e,z⟩
theorem Inv.Kh {pins:List (Addr×Obj)}{σ:St}{H:Hp}{s:Zo}{p:Addr}{xs ys:List V}{aw its':List Value}{n n':Nat}{f:Obj->Obj}(I:Inv X pins σ H s)(h:H p=some (.lst xs))
  (ho:s.heap.get? p=some { cls:=.type "list",data:=.seq aw.toArray n }) (hf:f { cls:=.type "list",data:=.seq aw.toArray n }={ cls:=.type "list",data:=.seq its'.toArray n' }) (r:Vals ys its') (hz:ys.length<=ZM) (t:Nat):
  Inv X pins σ (upd H p (.lst ys)) { s with heap:=s.heap.update p f,toks:=t }:=by
 have e:(s.heap.update p f).get? p=some { cls:=.type "list",data:=.seq its'.toArray n' }:=by
  rw[abg f ho (by rw[hf]<;>rfl),hf]
 refine I.write (x:=p) (e:=p) (by rw[h];trivial) (.inl rfl) (λb u hb q=>(abB _ _ (acb hb)).trans q) ⟨_,e⟩ ?_
 exact⟨hz,its',n',r,e⟩
noncomputable def OZ:V->V->V->Hp->(Hp->Prop)->Prop:=λo i v H Q=>∃p xs k j,o = .ref p/\i = .int k/\H p=some (.lst xs)/\kB xs.length k=some j/\Q (upd H p (.lst (xs.set j v)))
theorem set_list:Cq X OZ:=by
 intro pins s σ H o i v ov iv u Q I ro ri rv h
 obtain⟨p,xs,k,j,rfl,rfl,hp,hj,q⟩:=h
 cases ro
 obtain⟨t,rfl⟩:=ri
 obtain⟨aw,n,r,ho,hz⟩:=I.lst hp
 obtain⟨h1,h2,h3,h4⟩:=xb hj
 have hl:=r.length
 have hn:=ky
 have I':Inv X pins σ (upd H p (.lst (xs.set j v))) { s with heap:=s.heap.update p (abn (·.setIfInBounds j u)) }:=
   I.Kh hp ho (yF aw n j u) (r.set rv j) (by rw[List.length_set];exact hz) s.toks
 by_cases h0:0<=k
 . have hk:k.toNat=j:=by
    rw[afP h0 h4]at h1
    exact aaf h1
   exact PySem.W.ki_setAt ho h0 (by omega) (by rw[Zt,<- hl];exact h4) (by rw[hk];exact⟨_,I',q⟩)
 . have hk:(k+(aw.toArray.size:Int)).toNat=j:=by
    rw[seqIndex_neg (by omega) h3]at h1
    rw[Zt,<- hl]
    exact aaf h1
   exact PySem.W.ki_setBack ho (by omega) (by rw[Zt,<- hl];exact h3) (by omega) (by rw[hk];exact⟨_,I',q⟩)
theorem uC (lo hi:Option Int)(n:Nat):(acw lo hi none n).1=((HT.bG n 0 lo:Nat):Int)/\(acw lo hi none n).2.1=((HT.bG n n hi:Nat):Int)/\(acw lo hi none n).2.2=1:=by
 refine⟨?_,?_,rfl⟩
 . cases lo with
   |none=>simp[acw,HT.bG]
   |some i =>
    simp only[acw,HT.bG,afZ,show(1:Int)>0 by decide,if_true]
    by_cases h:i<0
    . simp only[h,if_true]<;>omega
    . simp only[h,if_false]<;>omega
 . cases hi with
   |none=>simp[acw,HT.bG]
   |some i =>
    simp only[acw,HT.bG,afZ,show(1:Int)>0 by decide,if_true]
    by_cases h:i<0
    . simp only[h,if_true]<;>omega
    . simp only[h,if_false]<;>omega
theorem tw (aw:List Value)(lo hi:Option Int):slicePick aw.toArray lo hi none=((aw.drop (HT.bG aw.length 0 lo)).take (HT.bG aw.length aw.length hi-HT.bG aw.length 0 lo)).toArray:=by
 obtain⟨h1,h2,h3⟩:=uC lo hi aw.toArray.size
 unfold slicePick
 rw[h1,h2,h3]
 simp only[sliceRange_one,pick_run,Zt]<;>rfl
noncomputable def Ki (K:ZC):V->Option Int->Option Int->Hp->VK->Prop:=λx lo hi H Q=>∃a xs,x = .ref a/\dz K H a xs /\ ∀p,H p=none->Q (.ref p) (upd H p (.lst (mq xs lo hi)))
theorem Hh:n_ X (Ki X.K):=by
 intro pins s σ H x v vl vu lo hi sl Q I rx hs pl pu h
 obtain⟨a,xs,rfl,hx,q⟩:=h
 cases rx
 obtain⟨aw,r,ht,hz⟩:=I.list hx
 have hlen:=r.length
 refine⟨"list",_,slot_list_getitem.lookup,ht.isList.typeIs,?_⟩
 refine wpAny_getItem_list_slice ht.isList hs pl pu .none (by simp) ?_ (by rw[Zt]<;>omega)
 rw[tw,<- hlen]
 refine⟨.ref s.heap.objs.size,_,I.laid (t':=s.toks) (o:=.lst (mq xs lo hi)) (λb ob q=>Zr _ q) (Zy _) ?_,rfl,q _ (I.bK.fresh (Zy _))⟩
 exact⟨aa7 (oa xs lo hi) hz,_,0,(r.drop (HT.bG xs.length 0 lo)).take (HT.bG xs.length xs.length hi-HT.bG xs.length 0 lo),ZD _ rfl⟩
noncomputable def jn:V->Bool
 |.az=>true
 |.bl _=>true
 |.int _=>true
 |.str _=>true
 |_=>false
noncomputable def sm:V->V->Bool
 |.az,.az=>true
 |.bl a,.bl b=>a == b
 |.bl a,.int b=>(if a then 1 else 0)== b
 |.int a,.bl b=>a == (if b then 1 else 0)
 |.int a,.int b=>a == b
 |.str a,.str b=>a == b
 |_,_=>false
theorem Kj {A:ZV}{s:Zo}{y x:V}{u v:Value}(ry:RelV y u)(rx:RelV x v)(fy:jn y=true)(fx:jn x=true):SeqAt.EqAt A s u v (sm y x):=by
 cases y with
 |az =>
  cases ry
  cases x with
  |az=>cases rx;exact SeqAt.EqAt.same _
  |bl b=>cases rx;exact SeqAt.EqAt.none_bool b
  |int b=>obtain⟨t,rfl⟩:=rx;exact SeqAt.EqAt.none_int b t
  |str b=>obtain⟨t,rfl⟩:=rx;exact SeqAt.EqAt.none_str b t
  |_=>exact absurd (show false=true from fx) aaM
 |bl a =>
  cases ry
  cases x with
  |az=>cases rx;exact SeqAt.EqAt.bool_none a
  |bl b=>cases rx;exact SeqAt.EqAt.bool_bool a b
  |int b=>obtain⟨t,rfl⟩:=rx;exact SeqAt.EqAt.bool_int a b t
  |str b=>obtain⟨t,rfl⟩:=rx;exact SeqAt.EqAt.bool_str a b t
  |_=>exact absurd (show false=true from fx) aaM
 |int a =>
  obtain⟨t',rfl⟩:=ry
  cases x with
  |az=>cases rx;exact SeqAt.EqAt.int_none a t'
  |bl b=>cases rx;exact SeqAt.EqAt.int_bool a t' b
  |int b=>obtain⟨t,rfl⟩:=rx;exact SeqAt.EqAt.int_int a t' b t
  |str b=>obtain⟨t,rfl⟩:=rx;exact afc a t' b t
  |_=>exact absurd (show false=true from fx) aaM
 |str a =>
  obtain⟨t',rfl⟩:=ry
  cases x with
  |az=>cases rx;exact SeqAt.EqAt.str_none a t'
  |bl b=>cases rx;exact SeqAt.EqAt.str_bool a t' b
  |int b=>obtain⟨t,rfl⟩:=rx;exact afd a t' b t
  |str b=>obtain⟨t,rfl⟩:=rx;exact SeqAt.EqAt.str_str a t' b t
  |_=>exact absurd (show false=true from fx) aaM
 |_=>exact absurd (show false=true from fy) aaM
noncomputable def EB (x:V)(u:Value):Bool:=match u with
 |.none=>sm .az x
 |.bool b=>sm (.bl b) x
 |.int i _=>sm (.int i) x
 |.str z _=>sm (.str z) x
 |_=>false
theorem Ah {x y:V}{u:Value}(r:RelV y u)(f:jn y=true):EB x u=sm y x:=by
 cases y with
 |az=>cases r;rfl
 |bl b=>cases r;rfl
 |int i=>obtain⟨t,rfl⟩:=r;rfl
 |str z=>obtain⟨t,rfl⟩:=r;rfl
 |_=>exact absurd (show false=true from f) aaM
theorem uD {A:ZV}{s:Zo}{x:V}{v:Value}(rx:RelV x v)(fx:jn x=true):∀{xs:List V} {us:List Value},Vals xs us->xs.all jn=true->∀u∈us,SeqAt.EqAt A s u v (EB x u)
 |_,_,.nil,_=>λu hu=>by cases hu
 |y::xs,u::us,.cons r t,f=>λu' hu=>by
  rw[acu,Zn]at f
  rcases ZE.mp hu with rfl|hu
  . rw[Ah r f.1];exact Kj r rx f.1 fx
  . exact uD rx fx t f.2 u' hu
theorem uE:cz X (.builtin "len") (λxs H Q=>∃p ys,xs = [.ref p]/\(dz X.K H p ys\/dQ X.K H p ys)/\Q (.int ys.length) H):=by
 intro pins s σ H xs us Q I r h
 obtain⟨p,ys,rfl,hq,q⟩:=h
 obtain⟨u,rfl,rx⟩:=vals1 r
 cases rx
 have hn:=ky
 rcases hq with hq|hq
 . obtain⟨aw,r',pl,hz⟩:=I.list hq
   have hlen:=r'.length
   exact Calls.call_len_list pl.isList (by simp only[Zt]<;>omega) ⟨.int ys.length,H,I.tok _,⟨s.toks+1,by rw[Zt,hlen]⟩,q⟩
 . obtain⟨aw,r',pl,hz⟩:=I.tuple hq
   have hlen:=r'.length
   exact len_tuple pl (by simp only[Zt]<;>omega) ⟨.int ys.length,H,I.tok _,⟨s.toks+1,by rw[Zt,hlen]⟩,q⟩
theorem mv:cz X (.type "list") (λxs H Q=>∃p ys,xs = [.ref p]/\(dz X.K H p ys\/dQ X.K H p ys) /\ ∀l,H l=none->Q (.ref l) (upd H l (.lst ys))):=by
 intro pins s σ H xs us Q I r h
 obtain⟨p,ys,rfl,hq,q⟩:=h
 obtain⟨u,rfl,rx⟩:=vals1 r
 cases rx
 have fin:∀(aw:List Value),Vals ys aw->ys.length<=ZM->∀(h':Heap) (c':Nat),(∀b o',s.heap.get? b=some o'->h'.get? b=some o') ->
    h'.get? s.heap.objs.size=some { cls:=.type "list",dict:=none,data:=.seq aw.toArray c',slots:=#[] }->EP X pins σ Q (.ref s.heap.objs.size) { s with heap:=h' }:=λaw r' hz h' c' kp e =>
   ⟨.ref s.heap.objs.size,_,I.laid (t':=s.toks) kp (Zy _) (show cZ X.prog X.w _ h' _ (.lst ys) from⟨hz,aw,c',r',e⟩),rfl,q _ (I.bK.fresh (Zy _))⟩
 rcases hq with hq|hq
 . obtain⟨aw,r',pl,hz⟩:=I.list hq
   have hlen:=r'.length
   obtain⟨o,ho,hc,n,hd⟩:=pl.isList
   exact call_list_seq p (.inl rfl) ho hc hd (λh' c' kp e=>fin aw r' hz h' c' kp e) (by simp only[Zt]<;>omega)
 . obtain⟨aw,r',pl,hz⟩:=I.tuple hq
   have hlen:=r'.length
   obtain⟨o,ho,hc,n,hd⟩:=pl
   exact call_list_seq p (.inr rfl) ho hc hd (λh' c' kp e=>fin aw r' hz h' c' kp e) (by simp only[Zt]<;>omega)
theorem lP:cz X (.type "tuple") (λxs H Q=>∃p ys,xs = [.ref p]/\((dz X.K H p ys /\ ∀l,H l=none->Q (.ref l) (upd H l (.tup ys)))\/(dQ X.K H p ys/\Q (.ref p) H))):=by
 intro pins s σ H xs us Q I r h
 obtain⟨p,ys,rfl,h⟩:=h
 obtain⟨u,rfl,rx⟩:=vals1 r
 cases rx
 rcases h with⟨hq,q⟩|⟨hq,q⟩
 . obtain⟨aw,r',pl,hz⟩:=I.list hq
   have hlen:=r'.length
   refine call_tuple_list pl.isList (λh' kp=>?_) (by simp only[Zt]<;>omega)
   have I1:Inv X pins σ H { s with heap:=h' }:=I.kept (t':=s.toks) kp
   have I2:Inv X pins σ (upd H h'.objs.size (.tup ys)) { s with heap:=h'.push { cls:=.type "tuple",data:=.seq aw.toArray } }:=
    I1.laid (t':=s.toks) (λb o e=>Zr _ e) (Zy _) (show cZ X.prog X.w _ _ _ (.tup ys) from⟨hz,aw,r',fz.new _ _⟩)
   exact⟨.ref h'.objs.size,_,I2,rfl,q _ (I1.bK.fresh (Zy _))⟩
 . obtain⟨aw,r',pl,hz⟩:=I.tuple hq
   exact call_tuple_same pl ⟨.ref p,H,I,rfl,q⟩
def VY (K:ZC)(T:String)(x:V)(H:Hp):Prop:=match x with
 |.str _=>T = "str"
 |.int _=>T = "int"
 |.ref p=>(T = "list" /\ ∃xs,dz K H p xs)\/(T = "tuple" /\ ∃o,K.lookup p=some o/\o.cls = .type "tuple" /\ o.dict=none) \/
  (T = "dict" /\ ((∃dh,H p=some (.dK dh)) \/ ∃dh,H p=some (.dT dh)))\/(T = "set" /\ ∃S n,H p=some (.set S n))
 |_=>False
theorem Ai {pins:List (Addr×Obj)}{σ:St}{H:Hp}{s:Zo}{T:String}{x:V}{v:Value}(I:Inv X pins σ H s)(r:RelV x v)(ty:VY X.K T x H):
  s.TypeIs v T /\ ∀a,v = .ref a->∃ob,s.heap.get? a=some ob/\ob.dict=none:=by
 cases x with
 |str z =>
  obtain⟨t,rfl⟩:=r
  cases (show T = "str" from ty)
  exact⟨aeN s z t,λ_ e=>nomatch e⟩
 |int i =>
  obtain⟨t,rfl⟩:=r
  cases (show T = "int" from ty)
  exact⟨adT s i t,λ_ e=>nomatch e⟩
 |ref p =>
  cases r
  rcases ty with⟨rfl,xs,hq⟩|⟨rfl,o,hk,hc,hd⟩|⟨rfl,hk⟩|⟨rfl,S,n,hk⟩
  . obtain⟨aw,_,pl,_⟩:=I.list hq
    refine⟨pl.isList.typeIs,λa e=>?_⟩
    cases e
    obtain⟨o,n,e,c,hd,_⟩:=pl
    exact⟨o,e,hd⟩
  . refine⟨⟨o,I.i9 p o hk,hc⟩,λa e=>?_⟩
    cases e
    exact⟨o,I.i9 _ o hk,hd⟩
  . have z:∃o,s.heap.get? p=some o/\o.ExactDict:=by
     rcases hk with⟨dh,hk⟩|⟨dh,hk⟩
     . obtain⟨_,_,_,_,o,_,_,e,ex,_⟩:=I.bK p _ hk
       exact⟨o,e,ex⟩
     . obtain⟨_,_,_,_,o,_,_,e,ex,_⟩:=I.bK p _ hk
       exact⟨o,e,ex⟩
    obtain⟨o,e,ex⟩:=z
    refine⟨⟨o,e,ex.1⟩,λa e2=>?_⟩
    cases e2
    exact⟨o,e,ex.2.1⟩
  . obtain⟨o,_,_,_,e,ex,_⟩:=I.bK p _ hk
    refine⟨⟨o,e,ex.1⟩,λa e2=>?_⟩
    cases e2
    exact⟨o,e,ex.2.1⟩
 |_=>exact abL ty
variable {o e:Expr}{es:List Expr}{to:TE}{t:TA}{name:Str}{apos fW:Pos}{T id:String}{r:V->List V->Hp->VK->Prop}
end
noncomputable def Kk (X:Cx)(id:String)(r:V->List V->Hp->VK->Prop):Prop :=
 ∀(pins:List (Addr×Obj)) (s:Zo) (σ:St) (H:Hp) (x:V) (xs:List V) (v:Value) (us:List Value) (Q:VK),Inv X pins σ H s->RelV x v->Vals xs us->r x xs H Q ->
  wpAny (model X.prog X.w) X.A (call (.builtin id) (v::us)) (EP X pins σ Q) X.xe s
theorem Vals.one:∀{x:V} {us:List Value},Vals [x] us->∃u,us = [u]/\RelV x u
 |_,_,.cons r .nil=>⟨_,rfl,r⟩
theorem Vals.zero:∀{us:List Value},Vals [] us->us = []
 |_,.nil=>rfl
theorem Vals.dropLast {xs:List V}{us:List Value}(h:Vals xs us):Vals xs.dropLast us.dropLast:=by
 induction h with
 |nil=>exact .nil
 |cons r t ih =>
  cases t with
  |nil=>exact .nil
  |cons q t'=>exact .cons r ih
theorem Vals.eraseIdx:∀{xs:List V} {us:List Value} (i:Nat),Vals xs us->Vals (xs.eraseIdx i) (us.eraseIdx i)
 |_,_,_,.nil=>.nil
 |_,_,0,.cons _ t=>t
 |_,_,i+1,.cons r t=>.cons r (Vals.eraseIdx i t)
theorem Vals.rep {xs:List V}{us:List Value}(h:Vals xs us):∀k:Nat,Vals (ZR k xs).flatten (ZR k us).flatten
 | 0=>.nil
 |k+1=>by
  rw[aa4,aa4,abJ,abJ]
  exact Vals.append h (Vals.rep h k)
theorem yG {α:Type}(l:List α):l.eraseIdx (l.length-1)=l.dropLast:=by
 induction l with
 |nil=>rfl
 |cons a r ih =>
  cases r with
  |nil=>rfl
  |cons b r =>
   have e:(a::b::r).length-1=((b::r).length-1)+1:=by
    have h1:(a::b::r).length=r.length+2:=rfl
    have h2:(b::r).length=r.length+1:=rfl
    omega
   rw[e,aed,ih]
   all_goals rfl
theorem sr {α:Type}:∀(l:List α) (i:Nat),(l.eraseIdx i).length<=l.length
 | [],_=>Zy _
 |_::_,0=>ab7 _
 |_::r,i+1=>Nat.succ_le_succ (sr r i)
theorem foldl_rep (aw:List Value):∀(k:Nat) (acc:List Value),
  List.foldl (λx1 x2=>x1++x2) acc.toArray (ZR k aw.toArray)=(acc++(ZR k aw).flatten).toArray
 | 0,acc=>by simp
 |k+1,acc=>by
  have e:acc.toArray++aw.toArray=(acc++aw).toArray:=by simp
  have e2:(acc++aw)++(ZR k aw).flatten=acc++(ZR (k+1) aw).flatten:=by
   rw[aa4,abJ,aaY]
  rw[<- e2,<- foldl_rep aw k (acc++aw),<- e,aa4,ac9]
section
variable {X:Cx}{pins:List (Addr×Obj)}{σ:St}{H:Hp}{s:Zo}{l b:Addr}{xs ys zs:List V}
theorem Inv.CI {aw its':List Value}{n:Nat}{f:Array Value->Array Value}{t':Nat}(I:Inv X pins σ H s)(hH:H l=some (.lst xs))
  (e:s.heap.get? l=some { cls:=.type "list",data:=.seq aw.toArray n }) (hf:f aw.toArray=its'.toArray) (hv:Vals ys its') (hz:ys.length<=ZM):
  Inv X pins σ (upd H l (.lst ys)) { s with heap:=s.heap.update l (abn f),toks:=t' }:=by
 have q:=PySem.IsL.update e f
 rw[hf]at q
 refine I.write (x:=l) (e:=l) (by rw[hH];exact trivial) (.inl rfl) (λb' u hb hu=>(abB s.heap (abn f) (acb hb)).trans hu) ⟨_,q⟩ ?_
 exact⟨hz,its',_,hv,q⟩
theorem Inv.R4 {aw:List Value}{t':Nat}(I:Inv X pins σ H s)(hv:Vals ys aw)(hz:ys.length<=ZM):
  Inv X pins σ (upd H s.heap.objs.size (.lst ys)) { s with heap:=s.heap.push { cls:=.type "list",data:=.seq aw.toArray },toks:=t' }:=
 I.laid (λ_ _ q=>Zr _ q) (Zy _) ⟨hz,aw,0,hv,ZD _ rfl⟩
theorem Inv.fresh (I:Inv X pins σ H s):H s.heap.objs.size=none:=I.bK.fresh (Zy _)
theorem Inv.CJ (I:Inv X pins σ H s)(hH:H l=some (.lst xs)):xs.length<=ZM /\ ∃(aw:List Value) (n:Nat),Vals xs aw/\xs.length=aw.length/\s.heap.get? l=some { cls:=.type "list",data:=.seq aw.toArray n }:=by
 obtain⟨z,aw,n,r,e⟩:=I.bK l _ hH
 exact⟨z,aw,n,r,r.length,e⟩
end
section
variable {X:Cx}
noncomputable def Hi:V->List V->Hp->VK->Prop:=λx vs H Q=>∃l xs y,x = .ref l/\vs = [y]/\H l=some (.lst xs)/\xs.length<ZM/\Q .az (upd H l (.lst (xs ++ [y])))
theorem sv:Kk X "list.append" Hi:=by
 intro pins s σ H x vs v us Q I rx rv h
 obtain⟨l,xs,y,rfl,rfl,hH,hz,q⟩:=h
 cases rx
 obtain⟨u,rfl,ru⟩:=rv.one
 obtain⟨z,aw,n,r,hl,e⟩:=I.CJ hH
 refine acj F.slot_list_append ⟨_,e,rfl⟩ F.entry_list_append (F.args_list_append_2 _ _) (PySem.list_append l aw.toArray n u (by rw[Zt];omega)) ⟨e,?_⟩
 refine⟨.az,_,I.CI (its':=aw ++ [u]) hH e (by simp) (r.append (.cons ru .nil)) ?_,rfl,q⟩
 rw[aaU,aeA]
 omega
noncomputable def R5:V->List V->Hp->VK->Prop:=λx vs H Q=>∃l xs y,x = .ref l/\vs = []/\H l=some (.lst xs)/\xs[xs.length-1]? = some y/\Q y (upd H l (.lst xs.dropLast))
theorem Kl:Kk X "list.pop" R5:=by
 intro pins s σ H x vs v us Q I rx rv h
 obtain⟨l,xs,y,rfl,rfl,hH,hy,q⟩:=h
 cases rx
 have VZ:=rv.zero
 subst VZ
 obtain⟨z,aw,n,r,hl,e⟩:=I.CJ hH
 obtain⟨u,hu,ru⟩:=r.get hy
 have Km:aw.toArray[aw.toArray.size-1]? = some u:=by
   show aw.toArray[aw.length-1]? = some u
   rw[<- abG,<- hl]
   exact hu
 refine acj F.slot_list_pop ⟨_,e,rfl⟩ F.entry_list_pop (F.args_list_pop_1 _) (MeetsSeq.list_pop_last l aw.toArray n u Km (by rw[Zt];omega)) ⟨e,?_⟩
 refine⟨y,_,I.CI (its':=aw.dropLast) hH e ?_ r.dropLast ?_,ru,q⟩
 . show aw.toArray.eraseIdxIfInBounds (aw.toArray.size-1)=aw.dropLast.toArray
   rw[Zt,ac0,yG]
 . rw[List.length_dropLast]
   omega
noncomputable def Kn:V->List V->Hp->VK->Prop:=λx vs H Q=>∃l xs i k y,x = .ref l/\vs = [.int i]/\H l=some (.lst xs) /\ -(2 ^ 63)<=i/\i<2 ^ 63/\afk i xs.length=some k/\xs[k]? = some y/\Q y (upd H l (.lst (xs.eraseIdx k)))
theorem CK:Kk X "list.pop" Kn:=by
 intro pins s σ H x vs v us Q I rx rv h
 obtain⟨l,xs,i,k,y,rfl,rfl,hH,h1,h2,hk,hy,q⟩:=h
 cases rx
 obtain⟨u,rfl,ru⟩:=rv.one
 obtain⟨t,rfl⟩:=ru
 obtain⟨z,aw,n,r,hl,e⟩:=I.CJ hH
 obtain⟨w,hw,Af⟩:=r.get hy
 refine acj F.slot_list_pop ⟨_,e,rfl⟩ F.entry_list_pop (F.args_list_pop_2 _ _)
   (MeetsSeq.list_pop_at l aw.toArray n i t k w (fitsIndex_both h1 h2) (by rw[Zt,<- hl];exact hk) (by rw[<- abG];exact hw) (by rw[Zt];omega)) ⟨e,?_⟩
 refine⟨y,_,I.CI (its':=aw.eraseIdx k) hH e ?_ (r.eraseIdx k) ?_,Af,q⟩
 . show aw.toArray.eraseIdxIfInBounds k=(aw.eraseIdx k).toArray
   rw[ac0]
 . have:=sr xs k
   omega
theorem len_rep {α:Type}(xs:List α)(k:Nat):(ZR k xs).flatten.length=k*xs.length:=by
 induction k with
 |zero=>simp
 |succ k ih=>rw[aa4,abJ,aaU,ih,Nat.succ_mul,afl]
end
end L2
namespace Aj
open PySem PySem.W PySem.Calls PyProof.Rows
theorem pH {P:Params}{h:Heap}:∀(ns:List Int) (vs:List Value),WellAll P h vs (ns.map WData.int)->abS vs ns:=by
 intro ns
 induction ns with
 |nil =>
  intro vs w
  rw[List.map_nil]at w
  cases w
  exact .nil
 |cons n ns ih =>
  intro vs w
  rw[ZT]at w
  cases w with
  |cons a b =>
   cases a
   exact .cons _ _ (ih _ b)
theorem Ak {l:aci}{n:Nat}(hn:l.most=some n){P:Params}{h:Heap}{args:List WData}{vals:List Value}
  (yH:l.row.toRowW.claim.pre args=true) (Ko:WellAll P h vals args):
  ∃a vs ns,vals = [acg a]/\args = [WData.list (ns.map WData.int)]/\h.get? a=some { cls:=.type "list",data:=.seq vs.toArray }/\abS vs ns/\ns.length<=n:=by
 have V0:WShape.hasAll [] args [.list .int]=true:=(pre_splitW yH).1
 have hc:l.pre.holds [] { args:=args }=true:=(pre_splitW yH).2
 obtain⟨d,r,rfl,h1,h2⟩:=hasAllW_cons V0
 obtain rfl:=hasAllW_nil h2
 obtain⟨xs,rfl,h3⟩:=hasW_list h1
 obtain⟨ns,rfl⟩:=items_int h3
 have hlen:ns.length<=n:=by
  unfold OpenLaw.pre at hc
  have h4:(WTm.not (.lt (.lit (.int (n:Int))) (.len (.arg 0)))).holds [] { args:=[.list (ns.map .int)] }=true:=by
   have h4:=(holds_andW hc).1
   rw[hn]at h4
   exact h4
  have h5:=condW_of h4 (w_not (w_lt w_lit (w_len_list (w_arg rfl))))
  rw[ZN]at h5
  refine Nat.le_of_not_lt λq=>?_
  have q':(n:Int)<((ns.length:Nat):Int):=by omega
  first
   | (rw[decide_eq_true q']at h5;exact absurd h5 (by decide))
   | (simp at h5;omega)
 cases Ko with
 |cons w1 w2 =>
  cases w2
  cases w1 with
  |list ho kX=>exact⟨_,_,ns,rfl,rfl,ho,pH ns _ kX,hlen⟩
theorem Al (l:aci)(args:List WData):l.row.toRowW.claim.post args (.bool true) args=true :=
 postW_of (r:=l.row.toRowW) (X:=(true == true))
  (show WShape.has [] (.bool true) .bool=true by first|rfl|decide|simp[WShape.has,WShape.arms,WShape.armsAll])
  (show(WTm.eq .res (.lit (.bool true))).value [] { args:=args,res:=some (.bool true),after:=args }=some (.bool (true == true)) from w_eq_bool (w_res rfl) w_lit) rfl
theorem wO {l:aci}{n:Nat}{q:ZY}{loose:List Str}{XP:(Str->Option Value)->Heap->Prop}{YP:World->Heap->Prop}{d:DefRec}
  (hn:l.most=some n) (uF:d.params.defaults = [])
  (call:∀(w:World) (s₀ s₁:Zo) (mg mb:Str->Option Value) (fa:Addr) (o:Obj) (pm cd doc:Value) (a:Addr) (vs:List Value) (ns:List Int),
   Ground q loose [] XP w s₀ mg mb s₁.heap->YP w s₁.heap ->
   s₁.heap.get? fa=some o->o.data = .func (docDef d.name d.params d.body d.scope pm cd doc)->s₁.heap.CodeRec cd d.name->mg d.name=some (.ref fa) ->
   s₁.heap.get? a=some { cls:=.type "list",data:=.seq vs.toArray }->abS vs ns->ns.length<=n->s₁.gens = #[] ->
   adm (model l.prog w) adp (.call (.ref fa) ⟨[.ref a],[]⟩) (λr s'=>r = .ok (.ret (.bool true))/\OldK s₁.heap s'.heap/\s'.os=s₁.os/\acU s'.gens) s₁):
  WalkO q loose XP YP l.row.toRowW d [] (λf vs=>aeO f vs):=by
 intro w s₀ s₁ mg mb G Y fa o pm cd doc dV kV ho hd nX hD Kp hg args vals as yH YB YO Ko sA
 obtain rfl:dV = .none:=Dflts.none hD uF
 obtain rfl:kV = .none:=Dflts.noKw hD
 obtain⟨a,vs,ns,rfl,rfl,CL,hints,hlen⟩:=Ak hn yH Ko
 refine enter_call (ac4 (call w s₀ s₁ mg mb fa o pm cd doc a vs ns G Y ho (fd_plain hd) nX Kp CL hints hlen hg) λr s' hq=>?_)
 obtain⟨rfl,h2,h3,h4⟩:=hq
 exact⟨.inl ⟨.bool true,.bool true,[],rfl,λ_=>rfl,.bool true,Al l _,λ_=>⟨List.Pairwise.nil,λ_ hm=>(nomatch hm)⟩⟩,h2,h3,h4⟩
end Aj
namespace L2
open PySem PySem.Spec PyProof.Rows
theorem gG:∀{vs:List Value} {ns:List Int},abS vs ns->Vals (ns.map V.int) vs
 |_,_,.nil=>.nil
 |_,_,.cons n t h=>.cons ⟨t,rfl⟩ (gG h)
def CM (H:Hp):Prop:=∀b,H b=none \/ ∃o xs,H b=some (.kq o (.lst xs))
theorem CN {P:ZY}{w:World}{K:ZC}{mg mb:Str->Option Value}{CX:lO}{k:Nat}{fa a:Addr}{fd:aaA}{x:Str}{sp:Sp}{s₁:Zo}{vs:List Value}{ns:List Int}
  (KX:K.In s₁.heap) (EC:s₁.heap.Ns aal mg) (hb:s₁.heap.Ns adS mb) (Ql:∀x:Str,x ≠ "__name__"->mb x=aa6 x) (R6:s₁.heap.NoLimit) (hg:s₁.gens = #[])
  (ha:s₁.heap.get? a=some { cls:=.type "list",data:=.seq vs.toArray }) (hi:abS vs ns) (hl:ns.length<=ZM) (hr:aQ k adp)
  (F:∀base:Heap,K.In base->base.Ns aal mg->dM P w K mg base CX k fa fd [x] sp) (O0:∀(s:Zo) (u:Value),aez s fd ⟨[u],[]⟩ [(x,u)])
  (sj:∀H:Hp,CM H->dz K H a (ns.map V.int)->sp [.ref a] H (λv _=>v = .bl true) λ_ _ _=>False)
  (Kq:∀H e s',CX [] H s₁ (λ_ _ _=>False) e s'->False):
  adm (model P w) adp (.call (.ref fa) ⟨[.ref a],[]⟩) (λr s'=>r = .ok (.ret (.bool true))/\OldK s₁.heap s'.heap/\s'.os=s₁.os/\acU s'.gens) s₁:=by
 have rv:=gG hi
 have R7:=hi.length
 have core:∀H:Hp,CM H->dz K H a (ns.map V.int)->fA P w H s₁.heap->(∀b,H b≠none->b=a)->(H a≠none->K.lookup a=none) ->
    adm (model P w) adp (.call (.ref fa) ⟨[.ref a],[]⟩) (λr s'=>r = .ok (.ret (.bool true))/\OldK s₁.heap s'.heap/\s'.os=s₁.os/\acU s'.gens) s₁:=by
  intro H hO hS bK hA hK
  have base_of:∀{b:Addr} {o:Obj},s₁.heap.get? b=some o->H b=none->(kT s₁.heap H).get? b=some o:=λe n=>Cm e n
  have Ad:∀{b:Addr} {o:Obj} {es:Array ZX} {ep:Nat},s₁.heap.get? b=some o->o.data = .dict es ep->H b=none:=fun {b o es ep} e d=>by
    cases q:H b with
    |none=>rfl
    |some u =>
      have e':b=a:=hA b (by rw[q];simp)
      subst e'
      rw[ha]at e;cases e
      have d':Data.seq vs.toArray _=afm es ep:=d
      cases d'
  have ED:∀{b:Addr} {m:Str->Option Value},s₁.heap.Ns b m->(kT s₁.heap H).Ns b m:=fun {b m} ⟨o,es,ep,e,d,r⟩=>⟨o,es,ep,base_of e (Ad e d),d,r⟩
  have Qm:K.In (kT s₁.heap H):=λb o e=>base_of (KX b o e) (by
    cases q:H b with
    |none=>rfl
    |some u =>
      have e':b=a:=hA b (by rw[q];simp)
      subst e'
      rw[hK (by rw[q];simp)]at e;cases e)
  have hM:Mod K mg (kT s₁.heap H):=⟨Qm,ED EC,⟨mb,ED hb,Ql⟩,let⟨mc,h1,h2⟩:=R6;⟨mc,ED h1,h2⟩⟩
  have e0:yA P w K mg (kT s₁.heap H) adp [] s₁ H:=⟨rfl,hM,λb o e=>GJ e,Nat.le_of_eq (zO _ _),trivial,λb hb=>absurd (show b∈([]:List Addr) from hb) (by simp),bK,.of_eq hg⟩
  refine ac4 ((F _ Qm (ED EC)).run adp [] s₁ H ⟨[.ref a],[]⟩ [.ref a] [.ref a] _ _ hr e0 (O0 s₁ (.ref a)) (.cons rfl .nil) (sj H hO hS)) λr s' h=>?_
  cases r with
  |error e=>exact(Kq H e s' h).elim
  |ok fl =>
    cases fl with
    |next=>exact abL h
    |brk=>exact abL h
    |cont=>exact abL h
    |ret u =>
      obtain⟨v,H',os,bare,un,R8,r',q⟩:=h
      have q':v = .bl true:=q
      subst q'
      obtain rfl:u=abA true:=r'
      refine⟨rfl,OldK.of_keep λb o e=>?_,os,bare⟩
      cases q:H b with
      |none=>exact un.keep b o e q (by intro z;exact absurd (show b∈([]:List Addr) from z) (by simp)) (by simp)
      |some u =>
       rcases hO b with z|⟨ob,xs,z⟩
       . rw[q]at z;cases z
       . have z2:=un.kS b ob _ z
         obtain⟨e1,_⟩:=bK b _ z
         obtain⟨e2,_⟩:=R8 b _ z2
         rw[e]at e1;cases e1
         exact e2
 cases hk:K.lookup a with
 |some o =>
  have e:=KX a o hk
  rw[ha]at e
  cases e
  refine core (λ_=>none) (λ_=>.inl rfl) (.inr ⟨_,vs.toArray,_,hk,rfl,rfl,rfl,by rw[Zt,R7];exact hl,by simpa using rv⟩) (λb u z=>by have z':(none:Option HO)=some u:=z;cases z') (λb z=>absurd rfl z) λz=>absurd rfl z
 |none =>
  refine core (λb=>if b=a then some (.kq { cls:=.type "list",data:=.seq vs.toArray } (.lst (ns.map V.int)))else none) (λb=>?_) (.inl (.inr ⟨{ cls:=.type "list",data:=.seq vs.toArray },if_pos rfl⟩)) (λb u z=>?_) (λb z=>?_) λ_=>hk
  . by_cases hb:b=a
    . exact .inr ⟨_,_,if_pos hb⟩
    . exact .inl (if_neg hb)
  . by_cases hb:b=a
    . have z':=(if_pos hb).symm.trans z
      cases z'
      subst hb
      exact⟨ha,by rw[ZN];exact hl,vs,_,rv,ha⟩
    . have z':=(if_neg hb).symm.trans z
      cases z'
  . by_cases hb:b=a
    . exact hb
    . exact absurd (if_neg hb) z
theorem Hj {l:aci}{n k:Nat}{q:ZY}{loose:List Str}{XP:(Str->Option Value)->Heap->Prop}{YP:World->Heap->Prop}{d:DefRec}{K:Params->ZC}{CX:World->lO}{sp:World->Sp}{x:Str}
  (hn:l.most=some n) (V1:n<=ZM) (uF:d.params.defaults = []) (hr:aQ k adp)
  (hY:∀(w:World) (h:Heap),YP w h->(K w.params).In h)
  (F:∀(w:World) (mg:Str->Option Value) (fa:Addr) (h:Heap),(K w.params).In h->h.Ns aal mg->mg d.name=some (.ref fa) ->
   ∃fd:aaA,(∀(s:Zo) (u:Value),aez s fd ⟨[u],[]⟩ [(x,u)]) /\
    ∀base:Heap,(K w.params).In base->base.Ns aal mg->dM l.prog w (K w.params) mg base (CX w) k fa fd [x] (sp w))
  (sj:∀(w:World) (H:Hp) (a:Addr) (ns:List Int),ns.length<=n->CM H->dz (K w.params) H a (ns.map V.int)->sp w [.ref a] H (λv _=>v = .bl true) λ_ _ _=>False)
  (Kq:∀(w:World) (H:Hp) (s:Zo) (e:Value) (s':Zo),CX w [] H s (λ_ _ _=>False) e s'->False):
  aeZ q loose XP YP l.row.toRowW d [] (λf vs=>aeO f vs):=by
 refine Aj.wO hn uF λw s₀ s₁ mg mb fa o pm cd doc a vs ns G Y ho hd nX Kp CL hints hlen hg=>?_
 have KX:=hY w _ Y
 obtain⟨fd,hb,hF⟩:=F w mg fa _ KX G.T.g Kp
 exact CN KX G.T.g G.T.b G.T.builtins G.T.nolimit hg CL hints (aa7 hlen V1) hr hF hb (λH hO hS=>sj w H a ns hlen hO hS) λH e s'=>Kq w H s₁ e s'
noncomputable def jx (s:Stmt):Arguments:=match s with
 |.FunctionDef _ a _ _ _ _ _ _ _ _=>a
 |_=>{ posonlyargs:=[],args:=[],vararg:=none,kwonlyargs:=[],kw_defaults:=[],kwarg:=none,defaults:=[] }
noncomputable def eW (s:Stmt):List Stmt:=match s with
 |.FunctionDef _ _ b _ _ _ _ _ _ _=>b
 |_=>[]
noncomputable def bM (s:Stmt):Scope:=match s with
 |.FunctionDef _ _ _ _ _ _ sc _ _ _=>sc
 |_=>{ kind:=.function,names:=[],isGenerator:=false,isCoroutine:=false }
abbrev je:lO:=λ_ _ _ _ _ _=>False
abbrev E0:XK:=λ_ _ _=>False
theorem EE {X:Cx}:Passes je X E0:=λ_ _ _ _ _ _ _ h=>h.elim
structure xc (K:ZC)(x qual:Str)(st:Stmt)(f:Addr)(fd:aaA):Prop where
 ex:∃(oc:Value) (od:Option Addr) (kV doc pm:Value) (an:Option Addr) (et ct:Value) (uz:Array (Option Value)),
  fd=abV x qual (jx st) (eW st) (bM st) .none kV doc pm an et ct/\K.lookup f=some ⟨oc,od,.func fd,uz⟩/\adn K et qual=true
 kp:aaX K (.ref f)=true
section
variable {P:ZY}{w:World}{K:ZC}{mg:Str->Option Value}{base:Heap}
theorem xc.ok {x qual:Str}{st:Stmt}{f:Addr}{fd:aaA}{N ps:List Str}{k:Nat}{sp:Sp}(F:xc K x qual st f fd)(S:jw N ps (bM st))(len:∀vs H Q E,sp vs H Q E->vs.length=ps.length)
  (yC:∀(et:Value) (A:ZV) (outer:List Env) (s:Zo) (H:Hp) (vs:List V) (Q:VK) (E:XK),aQ k (A.deeper (ac5 qual (bM st) s.heap.objs.size f et))->sp vs H Q E ->
   ∃t,gS (ml je P w K mg base N qual (bM st) f et A outer s H E).w8 (eW st) t/\t { nx:=λ_ H'=>Q .az H',rt:=Q } (start N vs) H):dM P w K mg base je (k+1) f fd ps sp:=by
 obtain⟨oc,od,kV,doc,pm,an,et,ct,uz,rfl,lk,nX⟩:=F.ex
 refine OU lk nX S len λA outer s H vs Q E hr sj=>?_
 obtain⟨t,h,q⟩:=yC et A outer s H vs Q E hr sj
 exact⟨t,h.w8,q⟩
theorem Kr {x qual:Str}{st:Stmt}{f:Addr}{oc:Value}{od an:Option Addr}{uz:Array (Option Value)}{kV doc pm et ct:Value}(l:K.lookup f=some ⟨oc,od,.func (abV x qual (jx st) (eW st) (bM st) .none kV doc pm an et ct),uz⟩)
 (c:adn K et qual=true) (k:aaX K (.ref f)=true):xc K x qual st f (abV x qual (jx st) (eW st) (bM st) .none kV doc pm an et ct):=⟨⟨oc,od,kV,doc,pm,an,et,ct,uz,rfl,l,c⟩,k⟩
end
end L2
namespace L3
open PySem PySem.Spec PyProof.Rows L2
inductive D where
 |az|bl (b:Bool)|int (i:Int)|str (x:Str)|tup (xs:List D)|lst (xs:List D)|dA|ref (n:Nat)|aI (n:Nat)|fn (x:Str)
structure KW where
 fr:ZC
 w:World
 mg:Str->Option Value
instance:Coe KW ZC:=⟨KW.fr⟩
noncomputable abbrev _root_.L2.Cx.kw (X:L2.Cx):KW:=⟨X.K,X.w,X.mg⟩
abbrev G:=List (List D)
abbrev Sg:=List (Option D)
structure Ix where
 ix:List Addr
 hd:List Addr
 kd:Nat->Nat
noncomputable def kb:Nat->Bool
 | 0=>false
 |_+1=>true
def d_ (ι:Ix)(n:Nat)(a:Addr)(b:Bool):Prop:=ι.ix[n]? = some a/\kb (ι.kd n)=b
noncomputable def Ix.more (ι:Ix)(p:Addr)(b:Nat):Ix:=⟨ι.ix ++ [p],ι.hd,λi=>if i=ι.ix.length then b else ι.kd i⟩
mutual
noncomputable def bD:Nat->D->Bool
 |_,.az=>true
 |_,.int _=>true
 |_,.str _=>true
 |n+1,.tup xs=>eY n xs
 |_,_=>false
noncomputable def eY:Nat->List D->Bool
 |_,[]=>true
 |n,d::ds=>bD n d&&eY n ds
end
mutual
noncomputable def hD (w:World):D->Int
 |.int i=>hashInt i
 |.str x=>hashStr w x
 |.az=>reduceHash 0xFCA86420
 |.tup xs=>reduceHash (adU (Am w xs))
 |_=>0
noncomputable def Am (w:World):List D->List Int
 | []=>[]
 |d::ds=>hD w d::Am w ds
end
noncomputable def dO (a:Addr)(es:List ZX)(c:Nat):HO:=.ext λh=>h.get? a=some { cls:=.type "dict",data:=.dict es.toArray (es.length-c) }
noncomputable def jq:List ZX->List Value
 | []=>[]
 |e::es=>e.key::e.val::jq es
noncomputable def aT:List D->List D
 |k::_::r=>k::aT r
 |_=>[]
inductive jH (w:World):List D->List ZX->Prop
 |nil:jH w [] []
 |cons {k v:D} {r:List D} {e:ZX} {es:List ZX}:bD 6 k=true->e.hash=hD w k->jH w r es->jH w (k::v::r) (e::es)
inductive OV (K:KW)(a:Addr)(xs:List D):Nat->HO->List V->Prop
 |l (vs:List V):OV K a xs 0 (.lst vs) vs
 |d (c:Nat) (es:List ZX) (vs:List V):c<=es.length->Vals vs (jq es)->jH K.w xs es->(aT xs).Nodup->(a == aa9)=false->es.length<=ZM->OV K a xs (c+1) (dO a es c) vs
noncomputable def kC (K:KW)(H:Hp)(ι:Ix)(a:Addr)(xs:List V):Prop :=
 (Rd H a (.lst xs)/\a ∉ ι.ix/\a ∉ ι.hd) \/
  ∃(o:Obj) (aw:Array Value) (n:Nat),K.fr.lookup a=some o/\o.cls = .type "list" /\ o.dict=none/\o.data = .seq aw n/\aw.size<=ZM/\Vals xs aw.toList
theorem kC.sq {K H ι a xs}(h:kC K H ι a xs):dz K H a xs:=by
 rcases h with⟨h,_⟩|h
 . exact .inl h
 . exact .inr h
noncomputable def jI (K:KW)(H:Hp)(ι:Ix)(a:Addr)(xs:List V):Prop :=
 (Rd H a (.tup xs)/\a ∉ ι.ix) \/
  ∃(o:Obj) (aw:Array Value) (n:Nat),K.fr.lookup a=some o/\o.cls = .type "tuple" /\ o.dict=none/\o.data = .seq aw n/\aw.size<=ZM/\Vals xs aw.toList
theorem jI.sq {K H ι a xs}(h:jI K H ι a xs):dQ K H a xs:=by
 rcases h with⟨h,_⟩|h
 . exact .inl h
 . exact .inr h
mutual
noncomputable def Rel (K:KW)(H:Hp)(ι:Ix):D->V->Prop
 |.az,v=>v = .az
 |.bl b,v=>v = .bl b
 |.int i,v=>v = .int i
 |.str x,v=>v = .str x
 |.tup xs,v=>∃a vs,v = .ref a/\jI K H ι a vs/\ao K H ι xs vs
 |.lst xs,v=>∃a vs,v = .ref a/\kC K H ι a vs/\ao K H ι xs vs
 |.dA,v=>∃a,v = .ref a/\H a=some (.dK [])/\a ∉ ι.ix
 |.ref n,v=>∃a,v = .ref a/\d_ ι n a false
 |.aI n,v=>∃a,v = .ref a/\d_ ι n a true
 |.fn x,v=>∃a,v = .ref a/\K.mg x=some (.ref a)
noncomputable def ao (K:KW)(H:Hp)(ι:Ix):List D->List V->Prop
 | [],vs=>vs = []
 |x::xs,vs=>∃v vr,vs=v::vr/\Rel K H ι x v/\ao K H ι xs vr
end
structure Ext (H:Hp)(ι:Ix)(H':Hp)(ι':Ix):Prop where
 same:∀a o,H a=some o->a ∉ ι.ix->H' a=some o
 there:∀a,H a≠none->H' a≠none
 more:∃m,ι'.ix=ι.ix++m /\ ∀a∈m,H a=none
 cL:ι'.hd=ι.hd
 lQ:∀i,i < ι.ix.length->ι'.kd i=ι.kd i
structure aB (K:KW)(H:Hp)(ι:Ix)(g:G):Prop where
 nd:ι.ix.Nodup
 len:ι.ix.length=g.length
 cL:∀b∈ι.hd,b ∉ ι.ix/\H b≠none
 at_:∀(i:Nat) xs,g[i]? = some xs->∃a o vs,ι.ix[i]? = some a/\H a=some o/\OV K a xs (ι.kd i) o vs/\ao K H ι xs vs
noncomputable def bR (K:KW)(H:Hp)(ι:Ix)(σd:Sg)(σ:L2.St):Prop :=
 σd.length=σ.length /\ ∀(i:Nat) d,σd[i]? = some (some d)->∃v,σ[i]? = some (some v)/\Rel K H ι d v
theorem Ext.refl {H ι}:Ext H ι H ι:=⟨λ_ _ h _=>h,λ_ h=>h,⟨[],by simp,λ_ h=>by simp at h⟩,rfl,λ_ _=>rfl⟩
theorem Ext.old {H ι H1 ι1}(a:Ext H ι H1 ι1){c:Addr}{o:HO}(h:H c=some o)(n:c ∉ ι.ix):c ∉ ι1.ix:=λz=>by
 obtain⟨m1,e1,f1⟩:=a.more
 rw[e1]at z
 rcases Zw.mp z with z|z
 . exact n z
 . rw[f1 c z]at h;cases h
theorem Ext.trans {H ι H1 ι1 H2 ι2}(a:Ext H ι H1 ι1)(b:Ext H1 ι1 H2 ι2):Ext H ι H2 ι2:=by
 obtain⟨m1,e1,f1⟩:=a.more
 obtain⟨m2,e2,f2⟩:=b.more
 refine⟨λc o h n=>b.same c o (a.same c o h n) (a.old h n),λc h=>b.there c (a.there c h),⟨m1++m2,by rw[e2,e1,aaY],λc z=>?_⟩,b.cL.trans a.cL,λi hi=>(b.lQ i (by rw[e1,aaU];omega)).trans (a.lQ i hi)⟩
 rcases Zw.mp z with z|z
 . exact f1 c z
 . cases q:H c with
   |none=>rfl
   |some o=>exact absurd (f2 c z) (a.there c (by rw[q];simp))
theorem Ext.at {H ι H1 ι1}(a:Ext H ι H1 ι1){i:Nat}{c:Addr}{b:Bool}(h:d_ ι i c b):d_ ι1 i c b:=by
 obtain⟨m1,e1,_⟩:=a.more
 have hl:=(Zs.mp h.1).1
 refine⟨?_,by rw[a.lQ i hl];exact h.2⟩
 rw[e1,ZL hl];exact h.1
theorem kC.ext {K H ι H1 ι1 a xs}(e:Ext H ι H1 ι1)(h:kC K H ι a xs):kC K H1 ι1 a xs:=by
 rcases h with⟨h|⟨o,h⟩,n,k⟩|h
 . exact .inl ⟨.inl (e.same _ _ h n),e.old h n,by rw[e.cL];exact k⟩
 . exact .inl ⟨.inr ⟨o,e.same _ _ h n⟩,e.old h n,by rw[e.cL];exact k⟩
 . exact .inr h
theorem jI.ext {K H ι H1 ι1 a xs}(e:Ext H ι H1 ι1)(h:jI K H ι a xs):jI K H1 ι1 a xs:=by
 rcases h with⟨h|⟨o,h⟩,n⟩|h
 . exact .inl ⟨.inl (e.same _ _ h n),e.old h n⟩
 . exact .inl ⟨.inr ⟨o,e.same _ _ h n⟩,e.old h n⟩
 . exact .inr h
mutual
theorem Rel.ext {K H ι H1 ι1}(e:Ext H ι H1 ι1):∀(d:D) {v:V},Rel K H ι d v->Rel K H1 ι1 d v
 |.az,v,h=>by simpa[Rel]using h
 |.bl _,v,h=>by simpa[Rel]using h
 |.int _,v,h=>by simpa[Rel]using h
 |.str _,v,h=>by simpa[Rel]using h
 |.tup xs,v,h=>by
  simp only[Rel]at h ⊢
  obtain⟨a,vs,e1,hq,hr⟩:=h
  exact⟨a,vs,e1,hq.ext e,ao.ext e xs hr⟩
 |.lst xs,v,h=>by
  simp only[Rel]at h ⊢
  obtain⟨a,vs,e1,hq,hr⟩:=h
  exact⟨a,vs,e1,hq.ext e,ao.ext e xs hr⟩
 |.dA,v,h=>by
  simp only[Rel]at h ⊢
  obtain⟨a,e1,hq,hr⟩:=h
  exact⟨a,e1,e.same _ _ hq hr,e.old hq hr⟩
 |.ref n,v,h=>by
  simp only[Rel]at h ⊢
  obtain⟨a,e1,hq⟩:=h
  exact⟨a,e1,e.at hq⟩
 |.aI n,v,h=>by
  simp only[Rel]at h ⊢
  obtain⟨a,e1,hq⟩:=h
  exact⟨a,e1,e.at hq⟩
 |.fn x,v,h=>by simpa[Rel]using h
theorem ao.ext {K H ι H1 ι1}(e:Ext H ι H1 ι1):∀(ds:List D) {vs:List V},ao K H ι ds vs->ao K H1 ι1 ds vs
 | [],vs,h=>by simpa[ao]using h
 |d::ds,vs,h=>by
  simp only[ao]at h ⊢
  obtain⟨v,vr,e1,hq,hr⟩:=h
  exact⟨v,vr,e1,Rel.ext e d hq,ao.ext e ds hr⟩
end
theorem bR.ext {K H ι H1 ι1 σd σ}(e:Ext H ι H1 ι1)(h:bR K H ι σd σ):bR K H1 ι1 σd σ :=
 ⟨h.1,λi d q=>let⟨v,a,b⟩:=h.2 i d q;⟨v,a,Rel.ext e d b⟩⟩
theorem ao.length {K H ι}:∀{ds:List D} {vs:List V},ao K H ι ds vs->ds.length=vs.length
 | [],vs,h=>by simp only[ao]at h;subst h;rfl
 |d::ds,vs,h=>by
  simp only[ao]at h
  obtain⟨v,vr,rfl,_,hr⟩:=h
  simp[ao.length hr]
theorem ao.append {K H ι}:∀{ds es:List D} {vs us:List V},ao K H ι ds vs->ao K H ι es us->ao K H ι (ds++es) (vs++us)
 | [],es,vs,us,h,k=>by simp only[ao]at h;subst h;exact k
 |d::ds,es,vs,us,h,k=>by
  simp only[ao]at h
  obtain⟨v,vr,rfl,hv,hr⟩:=h
  simp only[abx,ao]
  exact⟨v,_,rfl,hv,ao.append hr k⟩
theorem ao.get {K H ι}:∀{ds:List D} {vs:List V} {i:Nat} {d:D},ao K H ι ds vs->ds[i]? = some d->∃v,vs[i]? = some v/\Rel K H ι d v
 | [],_,_,_,_,e=>by simp at e
 |x::ds,vs,0,d,h,e=>by
  simp only[ao]at h
  obtain⟨v,vr,rfl,hv,hr⟩:=h
  simp at e;subst e;exact⟨v,rfl,hv⟩
 |x::ds,vs,i+1,d,h,e=>by
  simp only[ao]at h
  obtain⟨v,vr,rfl,hv,hr⟩:=h
  obtain⟨u,h1,h2⟩:=ao.get (i:=i) hr (by simpa using e)
  exact⟨u,by simpa using h1,h2⟩
theorem ao.set {K H ι d v}(hv:Rel K H ι d v):∀{ds:List D} {vs:List V} (i:Nat),ao K H ι ds vs->ao K H ι (ds.set i d) (vs.set i v)
 | [],_,_,h=>by simp only[ao]at h;subst h;simp[ao]
 |x::ds,vs,0,h=>by
  simp only[ao]at h
  obtain⟨u,vr,rfl,hu,hr⟩:=h
  simp only[List.set_cons_zero,ao]
  exact⟨v,vr,rfl,hv,hr⟩
 |x::ds,vs,i+1,h=>by
  simp only[ao]at h
  obtain⟨u,vr,rfl,hu,hr⟩:=h
  simp only[List.set_cons_succ,ao]
  exact⟨u,_,rfl,hu,ao.set hv i hr⟩
theorem ao.take {K H ι}:∀{ds:List D} {vs:List V} (n:Nat),ao K H ι ds vs->ao K H ι (ds.take n) (vs.take n)
 |_,_,0,_=>by simp[ao]
 | [],_,n+1,h=>by simp only[ao]at h;subst h;simp[ao]
 |x::ds,vs,n+1,h=>by
  simp only[ao]at h
  obtain⟨u,vr,rfl,hu,hr⟩:=h
  simp only[ae5,ao]
  exact⟨u,_,rfl,hu,ao.take n hr⟩
theorem ao.drop {K H ι}:∀{ds:List D} {vs:List V} (n:Nat),ao K H ι ds vs->ao K H ι (ds.drop n) (vs.drop n)
 |_,_,0,h=>h
 | [],_,n+1,h=>by simp only[ao]at h;subst h;simp[ao]
 |x::ds,vs,n+1,h=>by
  simp only[ao]at h
  obtain⟨u,vr,rfl,hu,hr⟩:=h
  simp only[List.drop_succ_cons]
  exact ao.drop n hr
theorem aB.at {K H ι g}(h:aB K H ι g){n:Nat}{xs:List D}{a:Addr}(e:g[n]? = some xs)(ha:d_ ι n a false):∃vs,H a=some (.lst vs)/\ao K H ι xs vs:=by
 obtain⟨b,o,vs,hb,h1,ov,h2⟩:=h.at_ n xs e
 rw[ha.1]at hb;cases hb
 have hb:=ha.2
 generalize ι.kd n=k at ov hb
 cases ov with
 |l=>exact⟨vs,h1,h2⟩
 |d=>cases hb
theorem aB.lR {K H ι g}(h:aB K H ι g){n:Nat}{xs:List D}{a:Addr}(e:g[n]? = some xs)(ha:d_ ι n a true):
  ∃es vs c,H a=some (dO a es c)/\ι.kd n=c+1/\c<=es.length/\Vals vs (jq es)/\jH K.w xs es/\(aT xs).Nodup/\(a == aa9)=false/\es.length<=ZM/\ao K H ι xs vs:=by
 obtain⟨b,o,vs,hb,h1,ov,h2⟩:=h.at_ n xs e
 rw[ha.1]at hb;cases hb
 have hb:=ha.2
 generalize ι.kd n=k at ov hb
 cases ov with
 |l=>cases hb
 |d c es vs h0 h3 h4 h5 h6 h7=>exact⟨es,vs,c,h1,rfl,h0,h3,h4,h5,h6,h7,h2⟩
theorem aB.rW {K H ι g}(h:aB K H ι g){a:Addr}(ha:a∈ι.ix):H a≠none:=by
 obtain⟨i,hi,e⟩:=aax.mp ha
 have hg:i<g.length:=by rw[<- h.len];exact hi
 obtain⟨b,_,vs,hb,h1,_⟩:=h.at_ i _ (Zq hg)
 rw[Zq hi,e]at hb
 cases hb
 rw[h1];simp
theorem Ext.lay {H ι p o}(hp:H p=none):Ext H ι (upd H p o) ι :=
 ⟨λa u h _=>by rw[bh (b_ h hp)];exact h,λa h=>by
  by_cases e:a=p
  . subst e;exact absurd hp h
  . rw[bh e];exact h,⟨[],by simp,λ_ h=>by simp at h⟩,rfl,λ_ _=>rfl⟩
theorem aB.ext {K H ι g H1}(h:aB K H ι g)(e:Ext H ι H1 ι)(k:∀a∈ι.ix,H1 a=H a):aB K H1 ι g :=
 ⟨h.nd,h.len,λb hb=>⟨(h.cL b hb).1,e.there b (h.cL b hb).2⟩,λi xs q=>by
  obtain⟨a,o,vs,h1,h2,ov,h3⟩:=h.at_ i xs q
  exact⟨a,o,vs,h1,by rw[k a (Z_ h1)];exact h2,ov,ao.ext e xs h3⟩⟩
theorem aB.lay {K H ι g p o}(h:aB K H ι g)(hp:H p=none):aB K (upd H p o) ι g :=
 h.ext (Ext.lay hp) λa ha=>bh λe=>by subst e;exact h.rW ha hp
theorem aB.fresh {K H ι g p}(h:aB K H ι g)(hp:H p=none):p ∉ ι.ix:=λha=>h.rW ha hp
theorem aB.iQ {K H ι g p}(h:aB K H ι g)(hp:H p=none):p ∉ ι.hd:=λha=>(h.cL p ha).2 hp
theorem Ext.iM {H ι p o b}(hp:H p=none):Ext H ι (upd H p o) (ι.more p b):=by
 have e:=Ext.lay (ι:=ι) (o:=o) hp
 refine⟨e.same,e.there,⟨[p],rfl,λa ha=>by simp at ha;subst ha;exact hp⟩,rfl,λi hi=>?_⟩
 show(if i=ι.ix.length then b else ι.kd i)=ι.kd i
 rw[if_neg (by omega)]
theorem Ext.push {H ι p o}(hp:H p=none):Ext H ι (upd H p o) (ι.more p 0):=Ext.iM hp
theorem aB.iM {K H ι g p o xs vs b}(h:aB K H ι g)(hp:H p=none)(ov:OV K p xs b o vs)(r:ao K H ι xs vs):aB K (upd H p o) (ι.more p b) (g ++ [xs]):=by
 have hn:=h.fresh hp
 refine⟨?_,by simp[Ix.more,h.len],λb hb=>⟨λz=>?_,(Ext.iM (ι:=ι) (o:=o) (b:=0) hp).there b (h.cL b hb).2⟩,λi ys q=>?_⟩
 . show(ι.ix ++ [p]).Nodup
   rw[aaD]
   refine⟨h.nd,by simp,λa ha b hb=>?_⟩
   simp at hb;subst hb
   intro e;subst e;exact hn ha
 . rcases Zw.mp z with z|z
   . exact(h.cL b hb).1 z
   . simp at z;subst z;exact(h.cL _ hb).2 hp
 . by_cases hi:i<g.length
   . rw[ZL hi]at q
     obtain⟨a,o',us,h1,h2,V2,h3⟩:=h.at_ i ys q
     refine⟨a,o',us,(by show(ι.ix ++ [p])[i]? = some a;rw[ZL (by rw[h.len];exact hi)];exact h1),?_,?_,ao.ext (Ext.iM hp) ys h3⟩
     . rw[bh (b_ h2 hp)];exact h2
     . show OV K _ _ (if i=ι.ix.length then b else ι.kd i) o' us
       rw[if_neg (by rw[h.len];omega)];exact V2
   . rw[aas (by omega)]at q
     have V4:i-g.length=0:=by
       cases e:i-g.length with
       |zero=>rfl
       |succ k=>rw[e]at q;simp at q
     rw[V4]at q
     have e:xs=ys:=by simpa using q
     subst e
     have An:i=ι.ix.length:=by rw[h.len];omega
     refine⟨p,o,vs,?_,bC,?_,ao.ext (Ext.iM hp) xs r⟩
     . show(ι.ix ++ [p])[i]? = some p
       rw[An];simp
     . show OV K _ _ (if i=ι.ix.length then b else ι.kd i) o vs
       rw[if_pos An];exact ov
theorem aB.push {K H ι g p xs vs}(h:aB K H ι g)(hp:H p=none)(r:ao K H ι xs vs):aB K (upd H p (.lst vs)) (ι.more p 0) (g ++ [xs]):=h.iM hp (.l vs) r
theorem d_.new {ι:Ix}{p:Addr}{k:Nat}{n:Nat}(h:ι.ix.length=n):d_ (ι.more p k) n p (kb k):=by
 subst h
 exact⟨by show(ι.ix ++ [p])[ι.ix.length]? = some p;simp,by show kb (if ι.ix.length=ι.ix.length then k else ι.kd ι.ix.length)=kb k;rw[if_pos rfl]⟩
theorem Ext.put {H ι}{n:Nat}{a o o'}{b:Bool}(ha:d_ ι n a b)(h:H a=some o):Ext H ι (upd H a o') ι :=
 ⟨λb o q nb=>by rw[bh (λe=>nb (by rw[e];exact Z_ ha.1))];exact q,λb q=>by
  by_cases e:b=a
  . subst e;rw[bC];simp
  . rw[bh e];exact q,⟨[],by simp,λ_ z=>by simp at z⟩,rfl,λ_ _=>rfl⟩
theorem aB.Ks {K H ι g}{n:Nat}{a o o' xs ws}{b:Bool}(h:aB K H ι g)(ha:d_ ι n a b)(hv:H a=some o)(ov:OV K a xs (ι.kd n) o' ws)(r:ao K H ι xs ws):aB K (upd H a o') ι (g.set n xs):=by
 refine⟨h.nd,by simp[h.len],λb hb=>⟨(h.cL b hb).1,(Ext.put ha hv).there b (h.cL b hb).2⟩,λi ys q=>?_⟩
 by_cases e:i=n
 . subst e
   have hi:i<g.length:=by rw[<- h.len];exact(Zs.mp ha.1).1
   rw[aay hi]at q
   cases q
   exact⟨a,o',ws,ha.1,bC,ov,ao.ext (Ext.put ha hv) _ r⟩
 . rw[Z6 (acb e)]at q
   obtain⟨b,o2,us,h1,h2,V5,h3⟩:=h.at_ i ys q
   refine⟨b,o2,us,h1,?_,V5,ao.ext (Ext.put ha hv) ys h3⟩
   rw[bh ?_]
   . exact h2
   . intro z
     subst z
     obtain⟨hi,e1⟩:=Zs.mp h1
     obtain⟨hn,e2⟩:=Zs.mp ha.1
     exact e ((ad3 h.nd).mp (e1.trans e2.symm))
theorem aB.put {K H ι g}{n:Nat}{a vs xs ws}(h:aB K H ι g)(ha:d_ ι n a false)(hv:H a=some (.lst vs))(r:ao K H ι xs ws):aB K (upd H a (.lst ws)) ι (g.set n xs):=h.Ks ha hv (by
 have hb:=ha.2
 cases e:ι.kd n with
 |zero=>exact .l ws
 |succ k=>rw[e]at hb;cases hb) r
noncomputable def Ix.hide (ι:Ix)(p:Addr):Ix:=⟨ι.ix,p::ι.hd,ι.kd⟩
mutual
theorem Rel.show {K H ι p}:∀(d:D) {v:V},Rel K H (Ix.hide ι p) d v->Rel K H ι d v
 |.az,v,h=>by simpa[Rel]using h
 |.bl _,v,h=>by simpa[Rel]using h
 |.int _,v,h=>by simpa[Rel]using h
 |.str _,v,h=>by simpa[Rel]using h
 |.tup xs,v,h=>by
  simp only[Rel]at h ⊢
  obtain⟨a,vs,e1,hq,hr⟩:=h
  exact⟨a,vs,e1,hq,ao.show xs hr⟩
 |.lst xs,v,h=>by
  simp only[Rel]at h ⊢
  obtain⟨a,vs,e1,hq,hr⟩:=h
  refine⟨a,vs,e1,?_,ao.show xs hr⟩
  rcases hq with⟨h,n,k⟩|h
  . exact .inl ⟨h,n,λz=>k (ZQ _ z)⟩
  . exact .inr h
 |.dA,v,h=>by simpa[Rel,Ix.hide]using h
 |.ref n,v,h=>by simpa[Rel,Ix.hide,d_]using h
 |.aI n,v,h=>by simpa[Rel,Ix.hide,d_]using h
 |.fn x,v,h=>by simpa[Rel]using h
theorem ao.show {K H ι p}:∀(ds:List D) {vs:List V},ao K H (Ix.hide ι p) ds vs->ao K H ι ds vs
 | [],vs,h=>by simpa[ao]using h
 |d::ds,vs,h=>by
  simp only[ao]at h ⊢
  obtain⟨v,vr,e1,hq,hr⟩:=h
  exact⟨v,vr,e1,Rel.show d hq,ao.show ds hr⟩
end
mutual
theorem Rel.hide {K H ι p o}(hp:H p=none):∀(d:D) {v:V},Rel K H ι d v->Rel K (upd H p o) (Ix.hide ι p) d v
 |.az,v,h=>by simpa[Rel]using h
 |.bl _,v,h=>by simpa[Rel]using h
 |.int _,v,h=>by simpa[Rel]using h
 |.str _,v,h=>by simpa[Rel]using h
 |.tup xs,v,h=>by
  simp only[Rel]at h ⊢
  obtain⟨a,vs,e1,hq,hr⟩:=h
  refine⟨a,vs,e1,?_,ao.hide hp xs hr⟩
  rcases hq with⟨h|⟨u,h⟩,n⟩|h
  . exact .inl ⟨.inl (by rw[bh (b_ h hp)];exact h),n⟩
  . exact .inl ⟨.inr ⟨u,by rw[bh (b_ h hp)];exact h⟩,n⟩
  . exact .inr h
 |.lst xs,v,h=>by
  simp only[Rel]at h ⊢
  obtain⟨a,vs,e1,hq,hr⟩:=h
  refine⟨a,vs,e1,?_,ao.hide hp xs hr⟩
  have out:∀{u:HO},H a=some u->a ∉ ι.hd->a ∉ (Ix.hide ι p).hd:=λh k z=>by
    rcases ZE.mp z with z|z
    . exact b_ h hp z
    . exact k z
  rcases hq with⟨h|⟨u,h⟩,n,k⟩|h
  . exact .inl ⟨.inl (by rw[bh (b_ h hp)];exact h),n,out h k⟩
  . exact .inl ⟨.inr ⟨u,by rw[bh (b_ h hp)];exact h⟩,n,out h k⟩
  . exact .inr h
 |.dA,v,h=>by
  simp only[Rel]at h ⊢
  obtain⟨a,e1,hq,hr⟩:=h
  exact⟨a,e1,by rw[bh (b_ hq hp)];exact hq,hr⟩
 |.ref n,v,h=>by simpa[Rel,Ix.hide,d_]using h
 |.aI n,v,h=>by simpa[Rel,Ix.hide,d_]using h
 |.fn x,v,h=>by simpa[Rel]using h
theorem ao.hide {K H ι p o}(hp:H p=none):∀(ds:List D) {vs:List V},ao K H ι ds vs->ao K (upd H p o) (Ix.hide ι p) ds vs
 | [],vs,h=>by simpa[ao]using h
 |d::ds,vs,h=>by
  simp only[ao]at h ⊢
  obtain⟨v,vr,e1,hq,hr⟩:=h
  exact⟨v,vr,e1,Rel.hide hp d hq,ao.hide hp ds hr⟩
end
mutual
theorem Rel.grow {K H ι p us ws}(hp:H p=some (.lst us)):∀(d:D) {v:V},Rel K H (Ix.hide ι p) d v->Rel K (upd H p (.lst ws)) (Ix.hide ι p) d v
 |.az,v,h=>by simpa[Rel]using h
 |.bl _,v,h=>by simpa[Rel]using h
 |.int _,v,h=>by simpa[Rel]using h
 |.str _,v,h=>by simpa[Rel]using h
 |.tup xs,v,h=>by
  simp only[Rel]at h ⊢
  obtain⟨a,vs,e1,hq,hr⟩:=h
  refine⟨a,vs,e1,?_,ao.grow hp xs hr⟩
  rcases hq with⟨h|⟨u,h⟩,n⟩|h
  . exact .inl ⟨.inl (by rw[bh (yp h hp (by simp))];exact h),n⟩
  . exact .inl ⟨.inr ⟨u,by rw[bh (yp h hp (by simp))];exact h⟩,n⟩
  . exact .inr h
 |.lst xs,v,h=>by
  simp only[Rel]at h ⊢
  obtain⟨a,vs,e1,hq,hr⟩:=h
  refine⟨a,vs,e1,?_,ao.grow hp xs hr⟩
  rcases hq with⟨h,n,k⟩|h
  . have ne:a≠p:=λz=>k (by rw[z];exact ZO)
    rcases h with h|⟨u,h⟩
    . exact .inl ⟨.inl (by rw[bh ne];exact h),n,k⟩
    . exact .inl ⟨.inr ⟨u,by rw[bh ne];exact h⟩,n,k⟩
  . exact .inr h
 |.dA,v,h=>by
  simp only[Rel]at h ⊢
  obtain⟨a,e1,hq,hr⟩:=h
  exact⟨a,e1,by rw[bh (yp hq hp (by simp))];exact hq,hr⟩
 |.ref n,v,h=>by simpa[Rel,Ix.hide,d_]using h
 |.aI n,v,h=>by simpa[Rel,Ix.hide,d_]using h
 |.fn x,v,h=>by simpa[Rel]using h
theorem ao.grow {K H ι p us ws}(hp:H p=some (.lst us)):∀(ds:List D) {vs:List V},ao K H (Ix.hide ι p) ds vs->ao K (upd H p (.lst ws)) (Ix.hide ι p) ds vs
 | [],vs,h=>by simpa[ao]using h
 |d::ds,vs,h=>by
  simp only[ao]at h ⊢
  obtain⟨v,vr,e1,hq,hr⟩:=h
  exact⟨v,vr,e1,Rel.grow hp d hq,ao.grow hp ds hr⟩
end
theorem aB.hide {K H ι p o g}(hp:H p=none)(h:aB K H ι g):aB K (upd H p o) (Ix.hide ι p) g :=
 ⟨h.nd,h.len,λb hb=>by
  rcases ZE.mp hb with rfl|hb
  . exact⟨h.fresh hp,by rw[bC];simp⟩
  . refine⟨(h.cL b hb).1,?_⟩
    by_cases e:b=p
    . subst e;rw[bC];simp
    . rw[bh e];exact(h.cL b hb).2,λi xs q=>by
  obtain⟨a,o,vs,h1,h2,ov,h3⟩:=h.at_ i xs q
  exact⟨a,o,vs,h1,by rw[bh (b_ h2 hp)];exact h2,ov,ao.hide hp xs h3⟩⟩
theorem aB.show {K H ι p g}(h:aB K H (Ix.hide ι p) g):aB K H ι g :=
 ⟨h.nd,h.len,λb hb=>h.cL b (ZQ _ hb),λi xs q=>by
  obtain⟨a,o,vs,h1,h2,ov,h3⟩:=h.at_ i xs q
  exact⟨a,o,vs,h1,h2,ov,ao.show xs h3⟩⟩
theorem aB.grow {K H ι p us ws g}(hp:H p=some (.lst us))(h:aB K H (Ix.hide ι p) g):aB K (upd H p (.lst ws)) (Ix.hide ι p) g :=
 ⟨h.nd,h.len,λb hb=>⟨(h.cL b hb).1,by
   by_cases e:b=p
   . subst e;rw[bC];simp
   . rw[bh e];exact(h.cL b hb).2⟩,λi xs q=>by
  obtain⟨a,o,vs,h1,h2,ov,h3⟩:=h.at_ i xs q
  refine⟨a,o,vs,h1,?_,ov,ao.grow hp xs h3⟩
  rw[bh (λe=>(h.cL p ZO).1 (by rw[<- e];exact Z_ h1))];exact h2⟩
abbrev FE:=Sg->G->Option (D×G)
abbrev FT:=Sg->G->Option (Bool×G)
abbrev FA:=Sg->G->Option (List D×G)
def gD (K:KW)(H:Hp)(ι:Ix)(d:D)(g':G)(Q:VK):Prop:=∀H' ι' v,Ext H ι H' ι'->aB K H' ι' g'->Rel K H' ι' d v->Q v H'
def O1 (K:KW)(H:Hp)(ι:Ix)(ds:List D)(g':G)(Q:List V->Hp->Prop):Prop:=∀H' ι' vs,Ext H ι H' ι'->aB K H' ι' g'->ao K H' ι' ds vs->Q vs H'
def pI (K:KW)(H:Hp)(ι:Ix)(g':G)(Q:Hp->Prop):Prop:=∀H' ι',Ext H ι H' ι'->aB K H' ι' g'->Q H'
inductive tD (K:KW)(f:FE)(σ:L2.St)(H:Hp)(Q:VK):Prop
 |mk (ι:Ix) (σd:Sg) (g:G) (d:D) (g':G) (h0:aB K H ι g) (h1:bR K H ι σd σ) (h2:f σd g=some (d,g')) (h3:gD K H ι d g' Q):tD K f σ H Q
inductive jf (K:KW)(f:FA)(σ:L2.St)(H:Hp)(Q:(List V->Hp->Prop)):Prop
 |mk (ι:Ix) (σd:Sg) (g:G) (d:List D) (g':G) (h0:aB K H ι g) (h1:bR K H ι σd σ) (h2:f σd g=some (d,g')) (h3:O1 K H ι d g' Q):jf K f σ H Q
inductive kE (K:KW)(f:FT)(σ:L2.St)(H:Hp)(Q:(Bool->Hp->Prop)):Prop
 |mk (ι:Ix) (σd:Sg) (g:G) (b:Bool) (g':G) (h0:aB K H ι g) (h1:bR K H ι σd σ) (h2:f σd g=some (b,g')) (h3:pI K H ι g' (Q b)):kE K f σ H Q
structure DE (X:Cx)(e:Expr)(f:FE):Prop where of ::
 un:PE X e (tD X.kw f)
structure DA (X:Cx)(es:List Expr)(f:FA):Prop where of ::
 un:PA X es (jf X.kw f)
structure DT (X:Cx)(e:Expr)(f:FT):Prop where of ::
 un:PT X e (kE X.kw f)
structure DW (X:Cx)(e:Expr)(f:FT):Prop where of ::
 un:PW X e (kE X.kw f)
theorem PE.imp {X:Cx}{e:Expr}{t t':TE}(h:PE X e t)(i:∀σ H Q,t' σ H Q->t σ H Q):PE X e t':=λpins s σ H Q I q=>h pins s σ H Q I (i σ H Q q)
theorem PT.imp {X:Cx}{e:Expr}{t t':TT}(h:PT X e t)(i:∀σ H Q,t' σ H Q->t σ H Q):PT X e t':=λpins s σ H Q I q=>h pins s σ H Q I (i σ H Q q)
theorem PW.imp {X:Cx}{e:Expr}{t t':TT}(h:PW X e t)(i:∀σ H Q,t' σ H Q->t σ H Q):PW X e t':=λw pins s σ H Q I q=>h w pins s σ H Q I (i σ H Q q)
theorem PA.imp {X:Cx}{e:List Expr}{t t':TA}(h:PA X e t)(i:∀σ H Q,t' σ H Q->t σ H Q):PA X e t':=λpos pins s σ H Q I q=>h pos pins s σ H Q I (i σ H Q q)
theorem gD.mono {K H ι H1 ι1 d g' Q}(e:Ext H ι H1 ι1)(p:gD K H ι d g' Q):gD K H1 ι1 d g' Q:=λH' ι' v e' r q=>p H' ι' v (e.trans e') r q
theorem pI.mono {K H ι H1 ι1 g' Q}(e:Ext H ι H1 ι1)(p:pI K H ι g' Q):pI K H1 ι1 g' Q:=λH' ι' e' r=>p H' ι' (e.trans e') r
theorem tD.bind {K f}{σ:L2.St}{H:Hp}{Q:VK}{ι σd g d g'}(G0:aB K H ι g)(S0:bR K H ι σd σ)(h:f σd g=some (d,g'))
  (k:∀H1 ι1 v,Ext H ι H1 ι1->aB K H1 ι1 g'->bR K H1 ι1 σd σ->Rel K H1 ι1 d v->Q v H1):tD K f σ H Q :=
 ⟨ι,σd,g,d,g',G0,S0,h,λH' ι' v e r q=>k H' ι' v e r (S0.ext e) q⟩
theorem jf.bind {K f}{σ:L2.St}{H:Hp}{Q:List V->Hp->Prop}{ι σd g d g'}(G0:aB K H ι g)(S0:bR K H ι σd σ)(h:f σd g=some (d,g'))
  (k:∀H1 ι1 v,Ext H ι H1 ι1->aB K H1 ι1 g'->bR K H1 ι1 σd σ->ao K H1 ι1 d v->Q v H1):jf K f σ H Q :=
 ⟨ι,σd,g,d,g',G0,S0,h,λH' ι' v e r q=>k H' ι' v e r (S0.ext e) q⟩
theorem kE.bind {K f}{σ:L2.St}{H:Hp}{Q:Bool->Hp->Prop}{ι σd g d g'}(G0:aB K H ι g)(S0:bR K H ι σd σ)(h:f σd g=some (d,g'))
  (k:∀H1 ι1,Ext H ι H1 ι1->aB K H1 ι1 g'->bR K H1 ι1 σd σ->Q d H1):kE K f σ H Q :=
 ⟨ι,σd,g,d,g',G0,S0,h,λH' ι' e r=>k H' ι' e r (S0.ext e)⟩
section
variable {X:Cx}{a b c e:Expr}{es rest:List Expr}{pos:Pos}{fa fb fc:FE}{fr:FA}{ga gb:FT}
noncomputable def fC (d:D):FE:=λ_ g=>some (d,g)
noncomputable def aa (i:Nat):FE:=λσ g=>match σ[i]? with|some (some d)=>some (d,g)|_=>none
theorem Kt {i j pos}:DE X (.Constant (.int i) j pos) (fC (.int i)):=.of (PE.imp Jw λσ H Q h=>by
 obtain⟨ι,σd,g,d,g',G0,S0,h,p⟩:=h
 cases h;exact p H ι _ Ext.refl G0 (by simp[Rel]))
theorem Ku {i j pos}:DE X (.Constant (.str i) j pos) (fC (.str i)):=.of (PE.imp Jy λσ H Q h=>by
 obtain⟨ι,σd,g,d,g',G0,S0,h,p⟩:=h
 cases h;exact p H ι _ Ext.refl G0 (by simp[Rel]))
theorem O2 {i j pos}:DE X (.Constant (.bool i) j pos) (fC (.bl i)):=.of (PE.imp OB λσ H Q h=>by
 obtain⟨ι,σd,g,d,g',G0,S0,h,p⟩:=h
 cases h;exact p H ι _ Ext.refl G0 (by simp[Rel]))
theorem Kv {j pos}:DE X (.Constant .none j pos) (fC .az):=.of (PE.imp Jx λσ H Q h=>by
 obtain⟨ι,σd,g,d,g',G0,S0,h,p⟩:=h
 cases h;exact p H ι _ Ext.refl G0 (by simp[Rel]))
theorem Kw (i:Nat){x:Str}{pos:Pos}(hN:X.N[i]? = some x:=by rfl)(hv:Jr X.env.scope x:=by first|exact Or.inl rfl|exact Or.inr (Or.inl rfl)|exact Or.inr (Or.inr rfl))(hd:(x == ("__debug__":Str))=false:=by decide)
   (nX:(x == ("__classdict__":Str))=false:=by decide):DE X (.Name x pos) (aa i):=.of (PE.imp (Jv hN hv hd nX) λσ H Q h=>by
 obtain⟨ι,σd,g,d,g',G0,S0,h,p⟩:=h
 unfold aa at h
 split at h
 . rename_i d' e
   obtain⟨rfl,rfl⟩:d'=d/\g=g':=by cases h;exact⟨rfl,rfl⟩
   obtain⟨v,h1,h2⟩:=S0.2 i _ e
   exact⟨v,h1,p H ι v Ext.refl G0 h2⟩
 . cases h)
theorem Hk {x:Str}{v:V}{u:Value}{d:D}(hg:Gl X x)(hm:X.mg x=some u)(r:RelV v u)(rd:∀K H ι,Rel K H ι d v)(hd:(x == ("__debug__":Str))=false:=by decide):DE X (.Name x pos) (fC d):=.of (
 PE.imp (w6 hg hm r hd) λσ H Q h=>by
  obtain⟨ι,σd,g,d,g',G0,S0,h,p⟩:=h
  cases h;exact p H ι _ Ext.refl G0 (rd _ _ _))
inductive cJ (K:KW)(o:D->D->G->Option (D×G))(x:V)(y:V)(H:Hp)(Q:VK):Prop
 |mk (ι:Ix) (g:G) (d1:D) (d2:D) (d:D) (g':G) (h0:aB K H ι g) (h1:Rel K H ι d1 x) (h2:Rel K H ι d2 y) (h3:o d1 d2 g=some (d,g')) (h4:gD K H ι d g' Q):cJ K o x y H Q
inductive Kx (K:KW)(o:D->G->Option (D×G))(x:V)(H:Hp)(Q:VK):Prop
 |mk (ι:Ix) (g:G) (d1:D) (d:D) (g':G) (h0:aB K H ι g) (h1:Rel K H ι d1 x) (h2:o d1 g=some (d,g')) (h3:gD K H ι d g' Q):Kx K o x H Q
inductive gH (K:KW)(o:List D->G->Option (D×G))(xs:List V)(H:Hp)(Q:VK):Prop
 |mk (ι:Ix) (g:G) (ds:List D) (d:D) (g':G) (h0:aB K H ι g) (h1:ao K H ι ds xs) (h2:o ds g=some (d,g')) (h3:gD K H ι d g' Q):gH K o xs H Q
noncomputable def aj (o:D->D->G->Option (D×G))(fa fb:FE):FE:=λσ g=>(fa σ g).bind λr=>(fb σ r.2).bind λq=>o r.1 q.1 q.2
noncomputable def uG (o:D->G->Option (D×G))(fa:FE):FE:=λσ g=>(fa σ g).bind λr=>o r.1 r.2
theorem bind_some {α β:Type}{x:Option α}{f:α->Option β}{b:β}(h:x.bind f=some b):∃a,x=some a/\f a=some b:=by
 cases x with
 |none=>cases h
 |some a=>exact⟨a,rfl,h⟩
theorem pJ {K}{o:D->D->G->Option (D×G)}{σ:L2.St}{H:Hp}{Q:VK}(h:tD K (aj o fa fb) σ H Q):zY (cJ K o) (tD K fa) (tD K fb) σ H Q:=by
 obtain⟨ι,σd,g,d,g',G0,S0,h,p⟩:=h
 obtain⟨⟨d1,g1⟩,h1,h⟩:=bind_some h
 obtain⟨⟨d2,g2⟩,h2,h⟩:=bind_some h
 refine tD.bind G0 S0 h1 λH1 ι1 v e1 G1 S1 r1=>?_
 refine tD.bind G1 S1 h2 λH2 ι2 u e2 G2 S2 r2=>?_
 exact⟨ι2,g2,d1,d2,d,g',G2,Rel.ext e2 _ r1,r2,h,p.mono (e1.trans e2)⟩
theorem jr {op:Operator}{o:D->D->G->Option (D×G)}(ho:bB X (aah op) (cJ X.kw o))(ha:DE X a fa)(hb:DE X b fb):DE X (.BinOp a op b pos) (aj o fa fb):=.of (
 PE.imp (OM ho ha.un hb.un) λσ H Q h=>pJ h)
theorem Ao {op:CmpOp}{o:D->D->G->Option (D×G)}(ho:bB X (Z8 op) (cJ X.kw o))(ha:DE X a fa)(hb:DE X b fb)(hm:ab1 op b=false:=by first|exact Ky _|with_unfolding_all rfl):DE X (.Compare a [op] [b] pos) (aj o fa fb):=.of (
 PE.imp (GX ho ha.un hb.un hm) λσ H Q h=>pJ h)
theorem O3 {op:UnaryOp}{o:D->G->Option (D×G)}(ho:zX X (unaryOp op) (Kx X.kw o))(ha:DE X a fa):DE X (.UnaryOp op a pos) (uG o fa):=.of (
 PE.imp (ON ho ha.un) λσ H Q h=>by
  obtain⟨ι,σd,g,d,g',G0,S0,h,p⟩:=h
  obtain⟨⟨d1,g1⟩,h1,h⟩:=bind_some h
  refine tD.bind G0 S0 h1 λH1 ι1 v e1 G1 S1 r1=>?_
  exact⟨ι1,g1,d1,d,g',G1,r1,h,p.mono e1⟩)
noncomputable def jg (r:Option (D×G)):Option (Bool×G):=r.bind λr=>match r.1 with|.bl b=>some (b,r.2)|_=>none
theorem kY {r:Option (D×G)}{b:Bool}{g:G}(h:jg r=some (b,g)):r=some (.bl b,g):=by
 obtain⟨⟨d,g1⟩,h1,h⟩:=bind_some h
 cases d with
 |bl k=>cases h;exact h1
 |_=>cases h
noncomputable def aF (f:FE):FT:=λσ g=>jg (f σ g)
theorem uH {K f}{σ:L2.St}{H:Hp}{Q:Bool->Hp->Prop}(h:kE K (aF f) σ H Q):pB (tD K f) σ H Q:=by
 obtain⟨ι,σd,g,b,g',G0,S0,h,p⟩:=h
 obtain⟨⟨d,g1⟩,h1,h⟩:=bind_some h
 cases d with
 |bl k =>
  cases h
  exact tD.bind G0 S0 h1 λH1 ι1 v e1 G1 S1 r1=>⟨b,by simpa[Rel]using r1,p H1 ι1 e1 G1⟩
 |_=>cases h
theorem pK {t t':TE}(i:∀σ H Q,t' σ H Q->t σ H Q){σ:L2.St}{H:Hp}{Q:Bool->Hp->Prop}(h:pB t' σ H Q):pB t σ H Q:=i σ H _ h
theorem Ap {op:CmpOp}{o:D->D->G->Option (D×G)}(ho:bB X (Z8 op) (cJ X.kw o))(ha:DE X a fa)(hb:DE X b fb)(hm:ab1 op b=false:=by first|exact Ky _|with_unfolding_all rfl):DT X (.Compare a [op] [b] pos) (aF (aj o fa fb)):=.of (
 PT.imp (GY ho ha.un hb.un hm) λσ H Q h=>pK (λ_ _ _=>pJ) (uH h))
noncomputable def gU (o o':D->D->G->Option (D×G))(fa fb fc:FE):FE:=λσ g=>(fa σ g).bind λr=>(fb σ r.2).bind λq=>(jg (o r.1 q.1 q.2)).bind λk =>
 if k.1=true then(fc σ k.2).bind λw=>o' q.1 w.1 w.2 else some (.bl false,k.2)
theorem sC {K}{o o':D->D->G->Option (D×G)}{σ:L2.St}{H:Hp}{Q:VK}(h:tD K (gU o o' fa fb fc) σ H Q):ux (cJ K o) (cJ K o') (tD K fa) (tD K fb) (tD K fc) σ H Q:=by
 obtain⟨ι,σd,g,d,g',G0,S0,h,p⟩:=h
 obtain⟨⟨d1,g1⟩,h1,h⟩:=bind_some h
 obtain⟨⟨d2,g2⟩,h2,h⟩:=bind_some h
 obtain⟨⟨k,g3⟩,h3,h⟩:=bind_some h
 have h3:=kY h3
 refine tD.bind G0 S0 h1 λH1 ι1 v e1 G1 S1 r1=>?_
 refine tD.bind G1 S1 h2 λH2 ι2 u e2 G2 S2 r2=>?_
 refine⟨ι2,g2,d1,d2,_,g3,G2,Rel.ext e2 _ r1,r2,h3,λH3 ι3 z e3 G3 r3=>⟨k,by simpa[Rel]using r3,?_⟩⟩
 clear h3
 cases k with
 |true =>
  simp only[if_true]at h ⊢
  obtain⟨⟨d4,g4⟩,h4,h⟩:=bind_some h
  refine tD.bind G3 (S2.ext e3) h4 λH4 ι4 w' e4 G4 S4 r4=>?_
  exact⟨ι4,g4,d2,d4,d,g',G4,Rel.ext (e3.trans e4) _ r2,r4,h,p.mono (e1.trans (e2.trans (e3.trans e4)))⟩
 |false =>
  simp only[ZG,if_false]at h ⊢
  cases h
  exact p H3 ι3 _ (e1.trans (e2.trans e3)) G3 (by simp[Rel])
theorem CO {op cv:CmpOp}{o o':D->D->G->Option (D×G)}(ho:bB X (Z8 op) (cJ X.kw o))(ia:bB X (Z8 cv) (cJ X.kw o'))(ha:DE X a fa)(hb:DE X b fb)(hc:DE X c fc)
  (hm:afi [op,cv] [b,c]=false:=by with_unfolding_all rfl):DE X (.Compare a [op,cv] [b,c] pos) (gU o o' fa fb fc):=.of (
 PE.imp (Cy ho ia ha.un hb.un hc.un hm) λσ H Q h=>sC h)
theorem CP {op cv:CmpOp}{o o':D->D->G->Option (D×G)}(ho:bB X (Z8 op) (cJ X.kw o))(ia:bB X (Z8 cv) (cJ X.kw o'))(ha:DE X a fa)(hb:DE X b fb)(hc:DE X c fc)
  (hm:afi [op,cv] [b,c]=false:=by with_unfolding_all rfl):DT X (.Compare a [op,cv] [b,c] pos) (aF (gU o o' fa fb fc)):=.of (
 PT.imp (Cz ho ia ha.un hb.un hc.un hm) λσ H Q h=>pK (λ_ _ _=>sC) (uH h))
noncomputable def gE (d:D)(g:G):Option Bool:=match d with
 |.az=>some false
 |.bl b=>some b
 |.int i=>some (i != 0)
 |.tup xs=>some (!xs.isEmpty)
 |.lst xs=>some (!xs.isEmpty)
 |.dA=>some false
 |.ref n=>match g[n]? with|some xs=>some (!xs.isEmpty)|none=>none
 |.str _=>none
 |.aI _=>none
 |.fn _=>none
noncomputable def bN (f:FE):FT:=λσ g=>(f σ g).bind λr=>(gE r.1 r.2).map λb=>(b,r.2)
theorem ao.isEmpty {K H ι}{ds:List D}{vs:List V}(h:ao K H ι ds vs):ds.isEmpty=vs.isEmpty:=by
 have:=h.length
 cases ds<;>cases vs<;>simp_all
theorem xf {K H ι g d v b}(G0:aB K H ι g)(r:Rel K H ι d v)(h:gE d g=some b):CA K v H b:=by
 cases d with
 |az=>simp only[Rel]at r;subst r;cases h;rfl
 |bl x=>simp only[Rel]at r;subst r;cases h;rfl
 |int x=>simp only[Rel]at r;subst r;cases h;rfl
 |str x=>cases h
 |tup xs =>
  simp only[Rel]at r;obtain⟨a,vs,rfl,hq,hr⟩:=r;cases h
  exact .inr (.inl ⟨vs,hq.sq,by rw[hr.isEmpty]⟩)
 |lst xs =>
  simp only[Rel]at r;obtain⟨a,vs,rfl,hq,hr⟩:=r;cases h
  exact .inl ⟨vs,hq.sq,by rw[hr.isEmpty]⟩
 |dA =>
  simp only[Rel]at r;obtain⟨a,rfl,hq,_⟩:=r;cases h
  exact .inr (.inr ⟨[],hq,rfl⟩)
 |ref n =>
  simp only[Rel]at r;obtain⟨a,rfl,ha⟩:=r
  simp only[gE]at h
  split at h
  . rename_i xs e
    cases h
    obtain⟨vs,h1,h2⟩:=G0.at e ha
    exact .inl ⟨vs,.of h1,by rw[h2.isEmpty]⟩
  . cases h
 |aI n=>cases h
 |fn x=>cases h
theorem Kz (ha:DE X a fa)(he:∀whole,isTrue a X.env whole=(do let v <- whole;aex a.pos;ace [v] (truthy v)):=by intro _;rfl):DT X a (bN fa):=.of (
 PT.imp (CB ha.un he) λσ H Q h=>by
  obtain⟨ι,σd,g,b,g',G0,S0,h,p⟩:=h
  obtain⟨⟨d,g1⟩,h1,h⟩:=bind_some h
  cases ht:gE d g1 with
  |none=>rw[ht]at h;cases h
  |some k =>
   rw[ht]at h;cases h
   exact tD.bind G0 S0 h1 λH1 ι1 v e1 G1 S1 r1=>⟨b,xf G1 r1 ht,p H1 ι1 e1 G1⟩)
noncomputable def fX (ga gb:FT):FT:=λσ g=>(ga σ g).bind λr=>if r.1=true then gb σ r.2 else some (false,r.2)
noncomputable def gW (ga gb:FT):FT:=λσ g=>(ga σ g).bind λr=>if r.1=true then some (true,r.2)else gb σ r.2
noncomputable def b5 (ga:FT):FT:=λσ g=>(ga σ g).bind λr=>some (!r.1,r.2)
theorem Hl (ha:DT X a ga):DW X (.BoolOp .And [a] pos) ga:=.of (GN ha.un)
theorem KA (ha:DT X a ga):DW X (.BoolOp .Or [a] pos) ga:=.of (Jz ha.un)
theorem KC (ha:DT X a ga)(hb:DW X (.BoolOp .And (b::rest) pos) gb):DW X (.BoolOp .And (a::b::rest) pos) (fX ga gb):=.of (
 PW.imp (JA ha.un hb.un) λσ H Q h=>by
  obtain⟨ι,σd,g,k,g',G0,S0,h,p⟩:=h
  obtain⟨⟨k1,g1⟩,h1,h⟩:=bind_some h
  refine kE.bind G0 S0 h1 λH1 ι1 e1 G1 S1=>?_
  cases k1 with
  |true=>simp only[if_true]at h ⊢;exact⟨ι1,σd,g1,k,g',G1,S1,h,p.mono e1⟩
  |false=>simp only[ZG,if_false]at h ⊢;cases h;exact p H1 ι1 e1 G1)
theorem O4 (ha:DT X a ga)(hb:DW X (.BoolOp .Or (b::rest) pos) gb):DW X (.BoolOp .Or (a::b::rest) pos) (gW ga gb):=.of (
 PW.imp (OC ha.un hb.un) λσ H Q h=>by
  obtain⟨ι,σd,g,k,g',G0,S0,h,p⟩:=h
  obtain⟨⟨k1,g1⟩,h1,h⟩:=bind_some h
  refine kE.bind G0 S0 h1 λH1 ι1 e1 G1 S1=>?_
  cases k1 with
  |false=>simp only[ZG,if_false]at h ⊢;exact⟨ι1,σd,g1,k,g',G1,S1,h,p.mono e1⟩
  |true=>simp only[if_true]at h ⊢;cases h;exact p H1 ι1 e1 G1)
theorem DW.dt (h:DW X a ga):DT X a ga:=.of (PW.pt h.un)
theorem KD (ha:DT X a ga):DT X (.UnaryOp .Not a pos) (b5 ga):=.of (
 PT.imp (JB ha.un) λσ H Q h=>by
  obtain⟨ι,σd,g,k,g',G0,S0,h,p⟩:=h
  obtain⟨⟨k1,g1⟩,h1,h⟩:=bind_some h
  cases h
  exact kE.bind G0 S0 h1 λH1 ι1 e1 G1 S1=>p H1 ι1 e1 G1)
noncomputable def dS (fa fb:FE):FE:=λσ g=>(jg (fa σ g)).bind λr=>if r.1=true then fb σ r.2 else some (.bl false,r.2)
noncomputable def mw (fa fb:FE):FE:=λσ g=>(jg (fa σ g)).bind λr=>if r.1=true then some (.bl true,r.2)else fb σ r.2
noncomputable def pL (fa:FE):FE:=λσ g=>(jg (fa σ g)).bind λr=>some (.bl (!r.1),r.2)
theorem KG {op}(h:DE X a fa):DE X (.BoolOp op [a] pos) fa:=.of (JC h.un)
theorem Aq (ha:DE X a fa)(hb:DE X (.BoolOp .And (b::rest) pos) fb):DE X (.BoolOp .And (a::b::rest) pos) (dS fa fb):=.of (
 PE.imp (JD ha.un hb.un) λσ H Q h=>by
  obtain⟨ι,σd,g,d,g',G0,S0,h,p⟩:=h
  obtain⟨⟨k1,g1⟩,h1,h⟩:=bind_some h
  have h1:=kY h1
  refine tD.bind G0 S0 h1 λH1 ι1 v e1 G1 S1 r1=>⟨k1,by simpa[Rel]using r1,?_⟩
  cases k1 with
  |true=>simp only[if_true]at h ⊢;exact⟨ι1,σd,g1,d,g',G1,S1,h,p.mono e1⟩
  |false=>simp only[ZG,if_false]at h ⊢;cases h;exact p H1 ι1 _ e1 G1 (by simp[Rel]))
theorem O5 (ha:DE X a fa)(hb:DE X (.BoolOp .Or (b::rest) pos) fb):DE X (.BoolOp .Or (a::b::rest) pos) (mw fa fb):=.of (
 PE.imp (OF ha.un hb.un) λσ H Q h=>by
  obtain⟨ι,σd,g,d,g',G0,S0,h,p⟩:=h
  obtain⟨⟨k1,g1⟩,h1,h⟩:=bind_some h
  have h1:=kY h1
  refine tD.bind G0 S0 h1 λH1 ι1 v e1 G1 S1 r1=>⟨k1,by simpa[Rel]using r1,?_⟩
  cases k1 with
  |false=>simp only[ZG,if_false]at h ⊢;exact⟨ι1,σd,g1,d,g',G1,S1,h,p.mono e1⟩
  |true=>simp only[if_true]at h ⊢;cases h;exact p H1 ι1 _ e1 G1 (by simp[Rel]))
theorem KH (ha:DE X a fa):DE X (.UnaryOp .Not a pos) (pL fa):=.of (
 PE.imp (JE ha.un) λσ H Q h=>by
  obtain⟨ι,σd,g,d,g',G0,S0,h,p⟩:=h
  obtain⟨⟨k1,g1⟩,h1,h⟩:=bind_some h
  have h1:=kY h1
  cases h
  exact tD.bind G0 S0 h1 λH1 ι1 v e1 G1 S1 r1=>⟨k1,by simpa[Rel]using r1,p H1 ι1 _ e1 G1 (by simp[Rel])⟩)
noncomputable def oK (ga:FT)(fa fb:FE):FE:=λσ g=>(ga σ g).bind λr=>if r.1=true then fa σ r.2 else fb σ r.2
theorem KI (hc:DT X c ga)(ha:DE X a fa)(hb:DE X b fb):DE X (.IfExp c a b pos) (oK ga fa fb):=.of (
 PE.imp (Cn hc.un ha.un hb.un) λσ H Q h=>by
  obtain⟨ι,σd,g,d,g',G0,S0,h,p⟩:=h
  obtain⟨⟨k1,g1⟩,h1,h⟩:=bind_some h
  refine kE.bind G0 S0 h1 λH1 ι1 e1 G1 S1=>?_
  cases k1 with
  |true=>simp only[if_true]at h ⊢;exact⟨ι1,σd,g1,d,g',G1,S1,h,p.mono e1⟩
  |false=>simp only[ZG,if_false]at h ⊢;exact⟨ι1,σd,g1,d,g',G1,S1,h,p.mono e1⟩)
noncomputable def ag:FA:=λ_ g=>some ([],g)
noncomputable def af (fa:FE)(fr:FA):FA:=λσ g=>(fa σ g).bind λr=>(fr σ r.2).bind λq=>some (r.1::q.1,q.2)
theorem uI:DA X [] ag:=.of (PA.imp pD λσ H Q h=>by
 obtain⟨ι,σd,g,d,g',G0,S0,h,p⟩:=h
 cases h;exact p H ι _ Ext.refl G0 (by simp[ao]))
theorem nh (ha:DE X e fa)(hr:DA X es fr)(hs:ZS (e::es) X.env=(false,eval e X.env)::ZS es X.env:=by rfl):DA X (e::es) (af fa fr):=.of (
 PA.imp (kz ha.un hr.un hs) λσ H Q h=>by
  obtain⟨ι,σd,g,d,g',G0,S0,h,p⟩:=h
  obtain⟨⟨d1,g1⟩,h1,h⟩:=bind_some h
  obtain⟨⟨d2,g2⟩,h2,h⟩:=bind_some h
  cases h
  refine tD.bind G0 S0 h1 λH1 ι1 v e1 G1 S1 r1=>?_
  refine jf.bind G1 S1 h2 λH2 ι2 u e2 G2 S2 r2=>?_
  refine p H2 ι2 _ (e1.trans e2) G2 ?_
  simp only[ao]
  exact⟨_,_,rfl,Rel.ext e2 _ r1,r2⟩)
noncomputable def aD (n:Nat):Bool:=decide (n<=16777216)
theorem aD.le {n:Nat}(h:aD n=true):n<=ZM:=by rw[abk];exact of_decide_eq_true h
noncomputable def aJ (ds:List D)(g:G):Option (D×G):=if aD ds.length=true then some (.tup ds,g)else none
noncomputable def c_ (ds:List D)(g:G):Option (D×G):=if aD ds.length=true then some (.lst ds,g)else none
noncomputable def mkRef (ds:List D)(g:G):Option (D×G):=if aD ds.length=true then some (.ref g.length,g ++ [ds])else none
theorem CQ {K H ι g ds vs d g' Q}(G0:aB K H ι g)(r:ao K H ι ds vs)(h:aJ ds g=some (d,g'))(p:gD K H ι d g' Q):vs.length<=ZM /\ ∀q,H q=none->Q (.ref q) (upd H q (.tup vs)):=by
 unfold aJ at h
 split at h
 . rename_i z
   cases h
   refine⟨by rw[<- r.length];exact aD.le z,λq hq=>p _ _ _ (Ext.lay hq) (G0.lay hq) ?_⟩
   simp only[Rel]
   exact⟨q,vs,rfl,.inl ⟨.inl bC,G0.fresh hq⟩,ao.ext (Ext.lay hq) _ r⟩
 . cases h
theorem CS {K H ι g ds vs d g' Q}(G0:aB K H ι g)(r:ao K H ι ds vs)(h:c_ ds g=some (d,g'))(p:gD K H ι d g' Q):vs.length<=ZM /\ ∀q,H q=none->Q (.ref q) (upd H q (.lst vs)):=by
 unfold c_ at h
 split at h
 . rename_i z
   cases h
   refine⟨by rw[<- r.length];exact aD.le z,λq hq=>p _ _ _ (Ext.lay hq) (G0.lay hq) ?_⟩
   simp only[Rel]
   exact⟨q,vs,rfl,.inl ⟨.inl bC,G0.fresh hq,G0.iQ hq⟩,ao.ext (Ext.lay hq) _ r⟩
 . cases h
theorem CT {K H ι g ds vs d g' Q}(G0:aB K H ι g)(r:ao K H ι ds vs)(h:mkRef ds g=some (d,g'))(p:gD K H ι d g' Q):vs.length<=ZM /\ ∀q,H q=none->Q (.ref q) (upd H q (.lst vs)):=by
 unfold mkRef at h
 split at h
 . rename_i z
   cases h
   refine⟨by rw[<- r.length];exact aD.le z,λq hq=>p _ _ _ (Ext.push hq) (G0.push hq r) ?_⟩
   simp only[Rel]
   exact⟨q,rfl,d_.new G0.len⟩
 . cases h
noncomputable def aO (m:List D->G->Option (D×G))(fr:FA):FE:=λσ g=>(fr σ g).bind λr=>m r.1 r.2
theorem Ar {x1}(h:DA X es fr):DE X (.Tuple es x1 pos) (aO aJ fr):=.of (PE.imp (J5 h.un) λσ H Q h=>by
 obtain⟨ι,σd,g,d,g',G0,S0,h,p⟩:=h
 obtain⟨⟨d1,g1⟩,h1,h⟩:=bind_some h
 exact jf.bind G0 S0 h1 λH1 ι1 v e1 G1 S1 r1=>CQ G1 r1 h (p.mono e1))
theorem KJ (h:DA X es fr):DE X (.List es pos) (aO c_ fr):=.of (PE.imp (z_ h.un) λσ H Q h=>by
 obtain⟨ι,σd,g,d,g',G0,S0,h,p⟩:=h
 obtain⟨⟨d1,g1⟩,h1,h⟩:=bind_some h
 exact jf.bind G0 S0 h1 λH1 ι1 v e1 G1 S1 r1=>CS G1 r1 h (p.mono e1))
theorem As (h:DA X es fr):DE X (.List es pos) (aO mkRef fr):=.of (PE.imp (z_ h.un) λσ H Q h=>by
 obtain⟨ι,σd,g,d,g',G0,S0,h,p⟩:=h
 obtain⟨⟨d1,g1⟩,h1,h⟩:=bind_some h
 exact jf.bind G0 S0 h1 λH1 ι1 v e1 G1 S1 r1=>CT G1 r1 h (p.mono e1))
end
inductive F where
 |nx|rt (d:D)|bk|ct
abbrev FS:=Sg->G->Option (F×Sg×G)
noncomputable def tK (K:KW)(H:Hp)(ι:Ix)(r:F)(cf:Sg)(g':G)(Dn:Ends):Prop :=
 ∀H' ι',Ext H ι H' ι'->aB K H' ι' g'->match r with
  |.nx=>∀σ',bR K H' ι' cf σ'->Dn.nx σ' H'
  |.bk=>∀σ',bR K H' ι' cf σ'->Dn.bk σ' H'
  |.ct=>∀σ',bR K H' ι' cf σ'->Dn.ct σ' H'
  |.rt d=>∀v,Rel K H' ι' d v->Dn.rt v H'
inductive EF (K:KW)(f:FS)(Dn:Ends)(σ:L2.St)(H:Hp):Prop
 |mk (ι:Ix) (σd:Sg) (g:G) (r:F) (cf:Sg) (g':G) (h0:aB K H ι g) (h1:bR K H ι σd σ) (h2:f σd g=some (r,cf,g')) (h3:tK K H ι r cf g' Dn):EF K f Dn σ H
structure DS (X:Cx)(st:Stmt)(f:FS):Prop where of ::
 un:PS X st (EF X.kw f)
structure jZ (X:Cx)(og:List Stmt)(f:FS):Prop where of ::
 un:gS X og (EF X.kw f)
theorem PS.imp {X:Cx}{e:Stmt}{t t':TS}(h:PS X e t)(i:∀Dn σ H,t' Dn σ H->t Dn σ H):PS X e t':=λpins s σ H Q I q=>h pins s σ H Q I (i Q σ H q)
theorem gS.imp {X:Cx}{e:List Stmt}{t t':TS}(h:gS X e t)(i:∀Dn σ H,t' Dn σ H->t Dn σ H):gS X e t':=λpins s σ H Q I q=>h pins s σ H Q I (i Q σ H q)
theorem tK.mono {K H ι H1 ι1 r cf g' Dn}(e:Ext H ι H1 ι1)(p:tK K H ι r cf g' Dn):tK K H1 ι1 r cf g' Dn:=λH' ι' e' G'=>p H' ι' (e.trans e') G'
noncomputable def aL:FS:=λσ g=>some (.nx,σ,g)
noncomputable def av (f1 f2:FS):FS:=λσ g=>(f1 σ g).bind λr=>match r.1 with|.nx=>f2 r.2.1 r.2.2|_=>some r
noncomputable def aG (f:FE):FS:=λσ g=>(f σ g).bind λr=>some (.rt r.1,σ,r.2)
noncomputable def da (f:FE):FS:=λσ g=>(f σ g).bind λr=>some (.nx,σ,r.2)
noncomputable def bq (c:FT)(f1 f2:FS):FS:=λσ g=>(c σ g).bind λr=>if r.1=true then f1 σ r.2 else f2 σ r.2
section
variable {X:Cx}{st:Stmt}{rest:List Stmt}{f1 f2:FS}{e:Expr}{fe:FE}{pos:Pos}{gc:FT}
theorem Hm:jZ X [] aL:=.of (gS.imp GO λDn σ H h=>by
 obtain⟨ι,σd,g,r,cf,g',G0,S0,h,p⟩:=h
 cases h
 exact p H ι Ext.refl G0 σ S0)
theorem CU (h1:DS X st f1)(h2:jZ X rest f2):jZ X (st::rest) (av f1 f2):=.of (gS.imp (Co h1.un h2.un) λDn σ H h=>by
 obtain⟨ι,σd,g,r,cf,g',G0,S0,h,p⟩:=h
 obtain⟨⟨r1,σ1,g1⟩,h1,h⟩:=bind_some h
 refine⟨ι,σd,g,r1,σ1,g1,G0,S0,h1,λH1 ι1 e1 G1=>?_⟩
 cases r1 with
 |nx=>exact λσ' S1=>⟨ι1,σ1,g1,r,cf,g',G1,S1,h,p.mono e1⟩
 |bk=>cases h;exact p H1 ι1 e1 G1
 |ct=>cases h;exact p H1 ι1 e1 G1
 |rt d=>cases h;exact p H1 ι1 e1 G1)
theorem Hn (h1:DS X st f1):jZ X [st] f1:=.of (GP h1.un)
theorem Ho:DS X (.Pass pos) aL:=.of (PS.imp GQ λDn σ H h=>by
 obtain⟨ι,σd,g,r,cf,g',G0,S0,h,p⟩:=h
 cases h
 exact p H ι Ext.refl G0 σ S0)
theorem KL (he:DE X e fe):DS X (.Return (some e) pos) (aG fe):=.of (PS.imp (JH he.un) λDn σ H h=>by
 obtain⟨ι,σd,g,r,cf,g',G0,S0,h,p⟩:=h
 obtain⟨⟨d1,g1⟩,h1,h⟩:=bind_some h
 cases h
 exact tD.bind G0 S0 h1 λH1 ι1 v e1 G1 S1 r1=>p H1 ι1 e1 G1 v r1)
theorem Hq (he:DE X e fe)(hs:ach e none pos.line X.env=pure false:=by rfl):DS X (.Expr e pos) (da fe):=.of (PS.imp (GR he.un hs) λDn σ H h=>by
 obtain⟨ι,σd,g,r,cf,g',G0,S0,h,p⟩:=h
 obtain⟨⟨d1,g1⟩,h1,h⟩:=bind_some h
 cases h
 exact tD.bind G0 S0 h1 λH1 ι1 v e1 G1 S1 r1=>p H1 ι1 e1 G1 σ S1)
theorem KN {x j pos pos'}:DS X (.Expr (.Constant (.str x) j pos) pos') aL:=.of (PS.imp JG λDn σ H h=>by
 obtain⟨ι,σd,g,r,cf,g',G0,S0,h,p⟩:=h
 cases h
 exact p H ι Ext.refl G0 σ S0)
theorem O6 {c:Expr}{a b:List Stmt}(hc:DT X c gc)(ha:jZ X a f1)(hb:jZ X b f2):DS X (.If c a b pos) (bq gc f1 f2):=.of (PS.imp (OH hc.un ha.un hb.un) λDn σ H h=>by
 obtain⟨ι,σd,g,r,cf,g',G0,S0,h,p⟩:=h
 obtain⟨⟨k,g1⟩,h1,h⟩:=bind_some h
 refine kE.bind G0 S0 h1 λH1 ι1 e1 G1 S1=>?_
 cases k with
 |true=>simp only[if_true]at h ⊢;exact⟨ι1,σd,g1,r,cf,g',G1,S1,h,p.mono e1⟩
 |false=>simp only[ZG,if_false]at h ⊢;exact⟨ι1,σd,g1,r,cf,g',G1,S1,h,p.mono e1⟩)
abbrev FG:=D->Sg->G->Option (Sg×G)
abbrev oh:=List D->Sg->G->Option (Sg×G)
inductive KO (K:KW)(f:FG)(v:V)(σ:L2.St)(H:Hp)(Q:(L2.St->Hp->Prop)):Prop
 |mk (ι:Ix) (σd:Sg) (g:G) (d:D) (cf:Sg) (g':G) (h0:aB K H ι g) (h1:bR K H ι σd σ) (h2:Rel K H ι d v) (h3:f d σd g=some (cf,g')) (h4:∀H' ι' σ',Ext H ι H' ι'->aB K H' ι' g'->bR K H' ι' cf σ'->Q σ' H'):KO K f v σ H Q
inductive KP (K:KW)(f:oh)(v:List V)(σ:L2.St)(H:Hp)(Q:(L2.St->Hp->Prop)):Prop
 |mk (ι:Ix) (σd:Sg) (g:G) (d:List D) (cf:Sg) (g':G) (h0:aB K H ι g) (h1:bR K H ι σd σ) (h2:ao K H ι d v) (h3:f d σd g=some (cf,g')) (h4:∀H' ι' σ',Ext H ι H' ι'->aB K H' ι' g'->bR K H' ι' cf σ'->Q σ' H'):KP K f v σ H Q
structure DG (X:Cx)(tg:Expr)(f:FG):Prop where of ::
 un:PG X tg (KO X.kw f)
structure Au (X:Cx)(tg:List Expr)(f:oh):Prop where of ::
 un:nY X tg (KP X.kw f)
theorem PG.imp {X:Cx}{e:Expr}{t t':TG}(h:PG X e t)(i:∀v σ H Q,t' v σ H Q->t v σ H Q):PG X e t':=λpins s σ H v u Q I r q=>h pins s σ H v u Q I r (i v σ H Q q)
theorem nY.imp {X:Cx}{e:List Expr}{t t':r_}(h:nY X e t)(i:∀v σ H Q,t' v σ H Q->t v σ H Q):nY X e t':=λpins s σ H v u Q I r q=>h pins s σ H v u Q I r (i v σ H Q q)
noncomputable def gN (i:Nat):FG:=λd σ g=>some (σ.set i (some d),g)
theorem bR.set {K H ι σd σ d v}(S:bR K H ι σd σ)(r:Rel K H ι d v)(i:Nat):bR K H ι (σd.set i (some d)) (σ.set i (some v)):=by
 refine⟨by simp[S.1],λj d' q=>?_⟩
 by_cases e:i=j
 . subst e
   have hi:i < σd.length:=by
    by_cases hi:i < σd.length
    . exact hi
    . rw[adV.mpr (by simpa using hi)]at q;cases q
   rw[aay hi]at q
   cases q
   exact⟨v,by rw[aay (by rw[<- S.1];exact hi)],r⟩
 . rw[Z6 e]at q ⊢
   exact S.2 j d' q
theorem xg {i:Nat}{x:Str}(hN:X.N.Nodup)(hi:X.N[i]? = some x)(hx:Loc X.env.scope x)(hf:X.fn x=true\/X.env.scope.names.lookup x=some .local:=by first|exact .inl rfl|exact .inr rfl|assumption):DG X (.Name x pos) (gN i):=.of (
 PG.imp (GS hN hi hx hf) λv σ H Q h=>by
  obtain⟨ι,σd,g,d,cf,g',G0,S0,r,h,p⟩:=h
  cases h
  exact p H ι _ Ext.refl G0 (S0.set r i))
noncomputable def aM:oh:=λds σ g=>match ds with| []=>some (σ,g)|_=>none
noncomputable def au (t:FG)(u:oh):oh:=λds σ g=>match ds with|d::r=>(t d σ g).bind λq=>u r q.1 q.2| []=>none
theorem Hr:Au X [] aM:=.of (nY.imp GU λv σ H Q h=>by
 obtain⟨ι,σd,g,d,cf,g',G0,S0,r,h,p⟩:=h
 cases d with
 |nil=>cases h;simp only[ao]at r;exact⟨r,p H ι _ Ext.refl G0 S0⟩
 |cons _ _=>cases h)
theorem CV {e:Expr}{es:List Expr}{t:FG}{u:oh}(h1:DG X e t)(h2:Au X es u)
  (hs:(aaN (e::es) X.env).map (·.2)=acr e X.env::(aaN es X.env).map (·.2):=by rfl):Au X (e::es) (au t u):=.of (nY.imp (Cr h1.un h2.un hs) λv σ H Q h=>by
 obtain⟨ι,σd,g,d,cf,g',G0,S0,r,h,p⟩:=h
 cases d with
 |nil=>cases h
 |cons d ds =>
  simp only[ao]at r
  obtain⟨v0,vr,rfl,r0,rr⟩:=r
  obtain⟨⟨σ1,g1⟩,h1,h⟩:=bind_some h
  exact⟨v0,vr,rfl,ι,σd,g,d,σ1,g1,G0,S0,r0,h1,λH1 ι1 σ' e1 G1 S1=>⟨ι1,σ1,g1,ds,cf,g',G1,S1,ao.ext e1 _ rr,h,λH2 ι2 σ2 e2 G2 S2=>p H2 ι2 σ2 (e1.trans e2) G2 S2⟩⟩)
noncomputable def gT (n:Nat)(t:oh):FG:=λd σ g=>match d with|.tup xs=>if xs.length=n then t xs σ g else none|_=>none
theorem KQ {es:List Expr}{k:Nat}{t:oh}{n:Nat}(hc:X.calm=true)(h:Au X es t)
  (hn:(aaN es X.env).length=n:=by rfl) (cH:(aaN es X.env).findIdx? (·.1)=none:=by rfl):DG X (.Tuple es k pos) (gT n t):=.of (PG.imp (JI hc h.un hn cH) λv σ H Q h=>by
 obtain⟨ι,σd,g,d,cf,g',G0,S0,r,h,p⟩:=h
 cases d with
 |tup xs =>
  simp only[Rel]at r
  obtain⟨a,vs,rfl,hq,hr⟩:=r
  simp only[gT]at h
  split at h
  . rename_i z
    exact⟨a,vs,rfl,hq.sq,by rw[<- hr.length];exact z,ι,σd,g,xs,cf,g',G0,S0,hr,h,p⟩
  . cases h
 |_=>cases h)
noncomputable def aA (f:FE)(t:FG):FS:=λσ g=>(f σ g).bind λr=>(t r.1 σ r.2).bind λq=>some (.nx,q.1,q.2)
theorem Hs {K t}{fe:FE}{Dn σ H}(h:EF K (aA fe t) Dn σ H):Ct (tD K fe) (KO K t) Dn σ H:=by
 obtain⟨ι,σd,g,r,cf,g',G0,S0,h,p⟩:=h
 obtain⟨⟨d1,g1⟩,h1,h⟩:=bind_some h
 obtain⟨⟨σ1,g2⟩,h2,h⟩:=bind_some h
 cases h
 exact tD.bind G0 S0 h1 λH1 ι1 v e1 G1 S1 r1=>⟨ι1,σd,g1,d1,σ1,g2,G1,S1,r1,h2,λH2 ι2 σ' e2 G2 S2=>p H2 ι2 (e1.trans e2) G2 σ' S2⟩
theorem uJ {tg:Expr}{t:FG}(he:DE X e fe)(hg:DG X tg t)(hs:adG [tg] e pos.line X.env=pure false:=by rfl)(hw:acR [tg] e X.env=pure none:=by rfl)
 (h1:(aaN [tg] X.env).map (·.2)= [acr tg X.env]:=by rfl):DS X (.Assign [tg] e pos) (aA fe t):=.of (PS.imp (JK he.un hg.un hs hw h1) λDn σ H h=>Hs h)
theorem Av {i:Nat}{x:Str}{pos':Pos}(hN:X.N.Nodup)(hi:X.N[i]? = some x)(hx:Loc X.env.scope x)(he:DE X e fe)(hs:ach e (some (.Name x pos')) pos.line X.env=pure false:=by rfl)(hf:X.fn x=true\/X.env.scope.names.lookup x=some .local:=by first|exact .inl rfl|exact .inr rfl|assumption):
  DS X (.Assign [.Name x pos'] e pos) (aA fe (gN i)):=.of (PS.imp (JL hN hi hx he.un hs hf) λDn σ H h=>by
 obtain⟨ι,σd,g,r,cf,g',G0,S0,h,p⟩:=h
 obtain⟨⟨d1,g1⟩,h1,h⟩:=bind_some h
 cases h
 exact tD.bind G0 S0 h1 λH1 ι1 v e1 G1 S1 r1=>p H1 ι1 e1 G1 _ (S1.set r1 i))
noncomputable def putD (o i v:D)(g:G):Option G:=match o,i with
 |.ref n,.int k=>match g[n]? with
  |some xs=>match kB xs.length k with
   |some j=>some (g.set n (xs.set j v))
   |none=>none
  |none=>none
 |_,_=>none
end
abbrev FI:=Sg->G->Option (List D×G)
structure ib (H:Hp)(ι:Ix)(H':Hp)(ι':Ix):Prop where
 same:∀a o,H a=some o->a ∉ ι.ix->H' a=some o
 there:∀a,H a≠none->H' a≠none
 more:∃m,ι'.ix=ι.ix++m /\ ∀a∈m,H a=none
 cL:∃hs,ι'.hd=hs++ι.hd /\ ∀b∈hs,H b=none
 lQ:∀i,i < ι.ix.length->ι'.kd i=ι.kd i
theorem Ext.eu {H ι H1 ι1}(e:Ext H ι H1 ι1):ib H ι H1 ι1:=⟨e.same,e.there,e.more,⟨[],e.cL,λ_ z=>by simp at z⟩,e.lQ⟩
theorem ib.old {H ι H1 ι1}(a:ib H ι H1 ι1){c:Addr}{o:HO}(h:H c=some o)(n:c ∉ ι.ix):c ∉ ι1.ix:=λz=>by
 obtain⟨m1,e1,f1⟩:=a.more
 rw[e1]at z
 rcases Zw.mp z with z|z
 . exact n z
 . rw[f1 c z]at h;cases h
theorem ib.KR {H ι H1 ι1}(a:ib H ι H1 ι1){c:Addr}{o:HO}(h:H c=some o)(n:c ∉ ι.hd):c ∉ ι1.hd:=λz=>by
 obtain⟨m1,e1,f1⟩:=a.cL
 rw[e1]at z
 rcases Zw.mp z with z|z
 . rw[f1 c z]at h;cases h
 . exact n z
theorem ib.at {H ι H1 ι1}(a:ib H ι H1 ι1){i:Nat}{c:Addr}{b:Bool}(h:d_ ι i c b):d_ ι1 i c b:=by
 obtain⟨m1,e1,_⟩:=a.more
 have hl:=(Zs.mp h.1).1
 refine⟨?_,by rw[a.lQ i hl];exact h.2⟩
 rw[e1,ZL hl];exact h.1
theorem kC.eu {K H ι H1 ι1 a xs}(e:ib H ι H1 ι1)(h:kC K H ι a xs):kC K H1 ι1 a xs:=by
 rcases h with⟨h|⟨o,h⟩,n,k⟩|h
 . exact .inl ⟨.inl (e.same _ _ h n),e.old h n,e.KR h k⟩
 . exact .inl ⟨.inr ⟨o,e.same _ _ h n⟩,e.old h n,e.KR h k⟩
 . exact .inr h
theorem jI.eu {K H ι H1 ι1 a xs}(e:ib H ι H1 ι1)(h:jI K H ι a xs):jI K H1 ι1 a xs:=by
 rcases h with⟨h|⟨o,h⟩,n⟩|h
 . exact .inl ⟨.inl (e.same _ _ h n),e.old h n⟩
 . exact .inl ⟨.inr ⟨o,e.same _ _ h n⟩,e.old h n⟩
 . exact .inr h
mutual
theorem Rel.eu {K H ι H1 ι1}(e:ib H ι H1 ι1):∀(d:D) {v:V},Rel K H ι d v->Rel K H1 ι1 d v
 |.az,v,h=>by simpa[Rel]using h
 |.bl _,v,h=>by simpa[Rel]using h
 |.int _,v,h=>by simpa[Rel]using h
 |.str _,v,h=>by simpa[Rel]using h
 |.tup xs,v,h=>by
  simp only[Rel]at h ⊢
  obtain⟨a,vs,e1,hq,hr⟩:=h
  exact⟨a,vs,e1,hq.eu e,ao.eu e xs hr⟩
 |.lst xs,v,h=>by
  simp only[Rel]at h ⊢
  obtain⟨a,vs,e1,hq,hr⟩:=h
  exact⟨a,vs,e1,hq.eu e,ao.eu e xs hr⟩
 |.dA,v,h=>by
  simp only[Rel]at h ⊢
  obtain⟨a,e1,hq,hr⟩:=h
  exact⟨a,e1,e.same _ _ hq hr,e.old hq hr⟩
 |.ref n,v,h=>by
  simp only[Rel]at h ⊢
  obtain⟨a,e1,hq⟩:=h
  exact⟨a,e1,e.at hq⟩
 |.aI n,v,h=>by
  simp only[Rel]at h ⊢
  obtain⟨a,e1,hq⟩:=h
  exact⟨a,e1,e.at hq⟩
 |.fn x,v,h=>by simpa[Rel]using h
theorem ao.eu {K H ι H1 ι1}(e:ib H ι H1 ι1):∀(ds:List D) {vs:List V},ao K H ι ds vs->ao K H1 ι1 ds vs
 | [],vs,h=>by simpa[ao]using h
 |d::ds,vs,h=>by
  simp only[ao]at h ⊢
  obtain⟨v,vr,e1,hq,hr⟩:=h
  exact⟨v,vr,e1,Rel.eu e d hq,ao.eu e ds hr⟩
end
noncomputable def kZ (K:KW)(J:It)(H:Hp)(ι:Ix)(ds:List D):Prop :=
 ∀(i:Nat) H1 ι1 g1,ib H ι H1 ι1->aB K H1 ι1 g1->(ds.length<=i->J.stop i H1) /\ ∀d,ds[i]? = some d->J.go i H1 /\ ∀x H2,J.uv i H1 x H2->Ext H1 ι1 H2 ι1/\aB K H2 ι1 g1/\Rel K H2 ι1 d x
inductive Qn (K:KW)(f:FI)(σ:L2.St)(H:Hp)(R:(It->Hp->Prop)):Prop
 |mk (ι:Ix) (σd:Sg) (g:G) (ds:List D) (g':G) (h0:aB K H ι g) (h1:bR K H ι σd σ) (h2:f σd g=some (ds,g')) (h3:∀H' ι' J,Ext H ι H' ι'->aB K H' ι' g'->kZ K J H' ι' ds->R J H'):Qn K f σ H R
structure DI (X:Cx)(tg iter:Expr)(f:FI):Prop where of ::
 un:PI X tg iter (Qn X.kw f)
theorem PI.imp {X:Cx}{tg e:Expr}{t t':TI}(h:PI X tg e t)(i:∀σ H Q,t' σ H Q->t σ H Q):PI X tg e t':=λpins s σ H Q I q=>h pins s σ H Q I (i σ H Q q)
theorem kZ.lst {K H ι a vs ds}(hq:kC K H ι a vs)(hr:ao K H ι ds vs):kZ K (EA K a) H ι ds:=λi H1 ι1 g1 e1 G1 =>
 ⟨λhl=>⟨vs,(hq.eu e1).sq,by rw[<- hr.length];exact hl⟩,λd hd=>by
  obtain⟨v,hv,rv⟩:=(ao.eu e1 _ hr).get hd
  refine⟨⟨vs,v,(hq.eu e1).sq,hv⟩,λx H2 y=>?_⟩
  obtain⟨rfl,y⟩:=y
  have:=y vs (hq.eu e1).sq
  rw[hv]at this;cases this
  exact⟨Ext.refl,G1,rv⟩⟩
theorem kZ.R9 {K H ι a vs ds}(hq:jI K H ι a vs)(hr:ao K H ι ds vs):kZ K (JO K a) H ι ds:=λi H1 ι1 g1 e1 G1 =>
 ⟨λhl=>⟨vs,(hq.eu e1).sq,by rw[<- hr.length];exact hl⟩,λd hd=>by
  obtain⟨v,hv,rv⟩:=(ao.eu e1 _ hr).get hd
  refine⟨⟨vs,v,(hq.eu e1).sq,hv⟩,λx H2 y=>?_⟩
  obtain⟨rfl,y⟩:=y
  have:=y vs (hq.eu e1).sq
  rw[hv]at this;cases this
  exact⟨Ext.refl,G1,rv⟩⟩
theorem kZ.cU {K H ι}{lo:Int}{n:Nat}:kZ K (zS lo n) H ι ((Zx n).map λ(k:Nat)=>D.int (lo+k)):=λi H1 ι1 g1 e1 G1 =>
 ⟨λhl=>(by show n<=i;simpa using hl),λd hd=>by
  have hi:i<n:=by
   have:=(Zs.mp hd).1
   simpa using this
  refine⟨hi,λx H2 y=>?_⟩
  obtain⟨rfl,rfl⟩:=y
  have e:d=D.int (lo+i):=by simpa[Z1,ae6 hi]using hd.symm
  subst e
  exact⟨Ext.refl,G1,by simp[Rel]⟩⟩
section
variable {X:Cx}{tg l a b:Expr}{fe:FE}{fr:FA}{pos p:Pos}
noncomputable def tL (f:FE):FI:=λσ g=>(f σ g).bind λr=>match r.1 with|.tup xs=>some (xs,r.2)|_=>none
noncomputable def tM (f:FE):FI:=λσ g=>(f σ g).bind λr=>match r.1 with|.lst xs=>some (xs,r.2)|_=>none
theorem KS (hl:DE X l fe):DI X tg l (tL fe):=.of (PI.imp (JP hl.un) λσ H Q h=>by
 obtain⟨ι,σd,g,ds,g',G0,S0,h,p⟩:=h
 obtain⟨⟨d1,g1⟩,h1,h⟩:=bind_some h
 cases d1 with
 |tup xs =>
  cases h
  refine tD.bind G0 S0 h1 λH1 ι1 v e1 G1 S1 r1=>?_
  simp only[Rel]at r1
  obtain⟨a,vs,rfl,hq,hr⟩:=r1
  exact⟨a,rfl,⟨vs,hq.sq⟩,p H1 ι1 _ e1 G1 (.R9 hq hr)⟩
 |_=>cases h)
theorem KU (hl:DE X l fe):DI X tg l (tM fe):=.of (PI.imp (w9 hl.un) λσ H Q h=>by
 obtain⟨ι,σd,g,ds,g',G0,S0,h,p⟩:=h
 obtain⟨⟨d1,g1⟩,h1,h⟩:=bind_some h
 cases d1 with
 |lst xs =>
  cases h
  refine tD.bind G0 S0 h1 λH1 ι1 v e1 G1 S1 r1=>?_
  simp only[Rel]at r1
  obtain⟨a,vs,rfl,hq,hr⟩:=r1
  exact⟨a,rfl,⟨vs,hq.sq⟩,p H1 ι1 _ e1 G1 (.lst hq hr)⟩
 |_=>cases h)
noncomputable def gI (i:Int):Bool:=ab2 i.natAbs 4611686018427387903
theorem gI.and {i:Int}(h:gI i=true):-(2 ^ 62)<=i/\i<2 ^ 62:=by
 have:=aao h
 omega
theorem gI.of {i:Int}(h1:-1000000<=i)(h2:i<=1000000):gI i=true:=abh (by omega)
noncomputable def fS (fr:FA):FI:=λσ g=>(fr σ g).bind λr=>match r.1 with| [.int j]=>if gI j=true then some ((Zx j.toNat).map λ(k:Nat)=>D.int (0+k),r.2)else none|_=>none
noncomputable def sD (fr:FA):FI:=λσ g=>(fr σ g).bind λr=>match r.1 with| [.int i,.int j]=>if(gI i&&gI j)=true then some ((Zx (j-i).toNat).map λ(k:Nat)=>D.int (i+k),r.2)else none|_=>none
theorem O7 (hg:Gl X "range")(hm:X.mg "range" = none)(ha:DA X [a] fr)(hs:ZS [a] X.env = [(false,eval a X.env)]:=by rfl):DI X tg (.Call (.Name "range" p) [a] [] pos) (fS fr):=.of (
 PI.imp (zU hg hm ha.un hs) λσ H Q h=>by
  obtain⟨ι,σd,g,ds,g',G0,S0,h,p⟩:=h
  obtain⟨⟨d1,g1⟩,h1,h⟩:=bind_some h
  refine jf.bind G0 S0 h1 λH1 ι1 v e1 G1 S1 r1=>?_
  dsimp only at h
  split at h
  . rename_i j
    split at h
    . rename_i z
      cases h
      simp only[ao,Rel]at r1
      obtain⟨_,_,rfl,rfl,rfl⟩:=r1
      exact⟨j,rfl,(gI.and z).1,(gI.and z).2,p H1 ι1 _ e1 G1 .cU⟩
    . cases h
  . cases h)
theorem O8 (hg:Gl X "range")(hm:X.mg "range" = none)(ha:DA X [a,b] fr)(hs:ZS [a,b] X.env = [(false,eval a X.env),(false,eval b X.env)]:=by rfl)(kr:ZS [b] X.env = [(false,eval b X.env)]:=by rfl):DI X tg (.Call (.Name "range" p) [a,b] [] pos) (sD fr):=.of (
 PI.imp (zV hg hm ha.un hs kr) λσ H Q h=>by
  obtain⟨ι,σd,g,ds,g',G0,S0,h,p⟩:=h
  obtain⟨⟨d1,g1⟩,h1,h⟩:=bind_some h
  refine jf.bind G0 S0 h1 λH1 ι1 v e1 G1 S1 r1=>?_
  dsimp only at h
  split at h
  . rename_i i j
    split at h
    . rename_i z
      rw[Zn]at z
      cases h
      simp only[ao,Rel]at r1
      obtain⟨_,_,rfl,rfl,_,_,rfl,rfl,rfl⟩:=r1
      exact⟨i,j,rfl,⟨(gI.and z.1).1,(gI.and z.1).2,(gI.and z.2).1,(gI.and z.2).2⟩,p H1 ι1 _ e1 G1 .cU⟩
    . cases h
  . cases h)
noncomputable def forL (t:FG)(b:FS):List D->FS
 | [],σ,g=>some (.nx,σ,g)
 |d::ds,σ,g=>(t d σ g).bind λq=>(b q.1 q.2).bind λr=>match r.1 with
  |.nx=>forL t b ds r.2.1 r.2.2
  |.ct=>forL t b ds r.2.1 r.2.2
  |.bk=>some (.nx,r.2.1,r.2.2)
  |.rt d=>some (.rt d,r.2.1,r.2.2)
noncomputable def cj (i:FI)(t:FG)(b:FS):FS:=λσ g=>(i σ g).bind λr=>forL t b r.1 σ r.2
noncomputable def jJ (c:FT)(b:FS):Nat->FS
 | 0,_,_=>none
 |n+1,σ,g=>(c σ g).bind λk=>if k.1=true then(b σ k.2).bind λr=>match r.1 with
   |.nx=>jJ c b n r.2.1 r.2.2
   |.ct=>jJ c b n r.2.1 r.2.2
   |.bk=>some (.nx,r.2.1,r.2.2)
   |.rt d=>some (.rt d,r.2.1,r.2.2)
  else some (.nx,σ,k.2)
noncomputable def mx (n:Nat)(c:FT)(b:FS):FS:=jJ c b n
inductive KY (X:Cx)(gc:FT)(b:FS)(H:Hp)(ι:Ix)(r:F)(cf:Sg)(g':G)(m:Nat)(σ2:L2.St)(H2:Hp):Prop
 |mk (ι2:Ix) (lS:Sg) (g2:G) (e2:Ext H ι H2 ι2) (G2:aB X.kw H2 ι2 g2) (S2:bR X.kw H2 ι2 lS σ2) (hf:jJ gc b m lS g2=some (r,cf,g')):KY X gc b H ι r cf g' m σ2 H2
theorem CW {c:Expr}{body:List Stmt}{gc:FT}{b:FS}(n:Nat)(hp:acV (model X.prog X.w) X.A X.env X.xe)(hc:DT X c gc)(hb:jZ X body b):DS X (.While c body [] pos) (mx n gc b):=.of (PS.imp (Cu hp hc.un hb.un) λDn σ H h=>by
 obtain⟨ι,σd,g,r,cf,g',G0,S0,h,p⟩:=h
 refine⟨KY X gc b H ι r cf g',⟨n,ι,σd,g,Ext.refl,G0,S0,h⟩,?_⟩
 rintro m σ2 H2 ⟨ι2,lS,g2,e2,G2,S2,hf⟩
 cases m with
 |zero=>cases hf
 |succ m =>
  simp only[jJ]at hf
  obtain⟨⟨k,g3⟩,h3,hf⟩:=bind_some hf
  refine kE.bind G2 S2 h3 λH3 ι3 e3 G3 S3=>?_
  cases k with
  |false =>
   simp only[ZG,if_false]at hf ⊢
   cases hf
   exact p H3 ι3 (e2.trans e3) G3 σ2 S3
  |true =>
   simp only[if_true]at hf ⊢
   obtain⟨⟨r4,σ4,g4⟩,h4,hf⟩:=bind_some hf
   refine⟨KY X gc b H ι r cf g' m,λσ5 H5 q=>⟨m,ack _,q⟩,?_⟩
   refine⟨ι3,lS,g3,r4,σ4,g4,G3,S3,h4,λH7 ι7 e7 G7=>?_⟩
   have k_:=e2.trans (e3.trans e7)
   cases r4 with
   |nx=>exact λσ' S7=>⟨ι7,σ4,g4,k_,G7,S7,hf⟩
   |ct=>exact λσ' S7=>⟨ι7,σ4,g4,k_,G7,S7,hf⟩
   |bk=>cases hf;exact λσ' S7=>p H7 ι7 k_ G7 σ' S7
   |rt d=>cases hf;exact λv r7=>p H7 ι7 k_ G7 v r7)
end
abbrev Fn:=List D->G->Option (D×G)
noncomputable def my (K:KW)(n:Nat)(fn:Fn):Sp:=λvs H Q _=>vs.length=n /\ ∃ι g ds d g',aB K H ι g/\ao K H ι ds vs/\fn ds g=some (d,g')/\gD K H ι d g' Q
mutual
noncomputable def bz (n:Nat):D->Bool
 |.ref k=>decide (k<n)
 |.aI k=>decide (k<n)
 |.tup xs=>aY n xs
 |.lst xs=>aY n xs
 |_=>true
noncomputable def aY (n:Nat):List D->Bool
 | []=>true
 |d::ds=>bz n d&&aY n ds
end
noncomputable def settle (n:Nat)(d:D)(g':G):Option (D×G):=
 if g'.length=n then some (d,g')else
  if(g'.take n).all (aY n)then
   match d with
   |.ref k=>if k<n then some (d,g'.take n)else match g'[k]? with
    |some xs=>if aY n xs then some (.lst xs,g'.take n)else none
    |none=>none
   |d=>if bz n d then some (d,g'.take n)else none
  else none
noncomputable def aC (keep:Bool)(nN nP:Nat)(b:FS):Fn:=λds g =>
 if ds.length=nP then(b (ds.map some++ZR (nN-nP) none) g).bind λr=>match r.1 with
  |.rt d=>if keep then some (d,r.2.2)else settle g.length d r.2.2
  |.nx=>if keep then some (.az,r.2.2)else settle g.length .az r.2.2
  |_=>none
 else none
noncomputable def Ix.cut (ι:Ix)(n:Nat):Ix:=⟨ι.ix.take n,ι.hd,ι.kd⟩
mutual
theorem Rel.cut {K H ι}(n:Nat):∀(d:D) {v:V},bz n d=true->Rel K H ι d v->Rel K H (Ix.cut ι n) d v
 |.az,v,_,h=>by simpa[Rel]using h
 |.bl _,v,_,h=>by simpa[Rel]using h
 |.int _,v,_,h=>by simpa[Rel]using h
 |.str _,v,_,h=>by simpa[Rel]using h
 |.tup xs,v,z,h=>by
  simp only[Rel]at h ⊢
  obtain⟨a,vs,e1,hq,hr⟩:=h
  refine⟨a,vs,e1,?_,ao.cut n xs z hr⟩
  rcases hq with⟨hq,hn⟩|hq
  . exact .inl ⟨hq,λm=>hn (aaP m)⟩
  . exact .inr hq
 |.lst xs,v,z,h=>by
  simp only[Rel]at h ⊢
  obtain⟨a,vs,e1,hq,hr⟩:=h
  refine⟨a,vs,e1,?_,ao.cut n xs z hr⟩
  rcases hq with⟨hq,hn,hh⟩|hq
  . exact .inl ⟨hq,λm=>hn (aaP m),hh⟩
  . exact .inr hq
 |.dA,v,_,h=>by
  simp only[Rel]at h ⊢
  obtain⟨a,e1,hq,hr⟩:=h
  exact⟨a,e1,hq,λm=>hr (aaP m)⟩
 |.ref k,v,z,h=>by
  simp only[Rel]at h ⊢
  obtain⟨a,e1,hq⟩:=h
  have z':k<n:=of_decide_eq_true z
  exact⟨a,e1,by show(ι.ix.take n)[k]? = some a;rw[Z4 z'];exact hq.1,hq.2⟩
 |.aI k,v,z,h=>by
  simp only[Rel]at h ⊢
  obtain⟨a,e1,hq⟩:=h
  have z':k<n:=of_decide_eq_true z
  exact⟨a,e1,by show(ι.ix.take n)[k]? = some a;rw[Z4 z'];exact hq.1,hq.2⟩
 |.fn x,v,_,h=>by simpa[Rel]using h
theorem ao.cut {K H ι}(n:Nat):∀(ds:List D) {vs:List V},aY n ds=true->ao K H ι ds vs->ao K H (Ix.cut ι n) ds vs
 | [],vs,_,h=>by simpa[ao]using h
 |d::ds,vs,z,h=>by
  simp only[ao]at h ⊢
  simp only[aY,Zn]at z
  obtain⟨v,vr,e1,hq,hr⟩:=h
  exact⟨v,vr,e1,Rel.cut n d z.1 hq,ao.cut n ds z.2 hr⟩
end
theorem aB.cut {K H ι g}(n:Nat)(h:aB K H ι g)(z:(g.take n).all (aY n)=true):aB K H (Ix.cut ι n) (g.take n):=by
 refine⟨h.nd.sublist (afC _ _),by simp[Ix.cut,h.len],λb hb=>⟨λm=>(h.cL b hb).1 (aaP m),(h.cL b hb).2⟩,λi xs q=>?_⟩
 have hi:i<n:=by
  have:=(Zs.mp q).1
  rw[aaO]at this;omega
 rw[Z4 hi]at q
 obtain⟨a,o,vs,h1,h2,ov,h3⟩:=h.at_ i xs q
 refine⟨a,o,vs,(by show(ι.ix.take n)[i]? = some a;rw[Z4 hi];exact h1),h2,ov,ao.cut n xs ?_ h3⟩
 exact ZH.mp z xs (Z_ (i:=i) (by rw[Z4 hi];exact q))
theorem Ext.cut {H ι H' ι' n}(e:Ext H ι H' ι')(hn:ι.ix.length=n):Ext H ι H' (Ix.cut ι' n):=by
 obtain⟨m,e1,f⟩:=e.more
 refine⟨e.same,e.there,⟨[],?_,λ_ z=>by simp at z⟩,e.cL,e.lQ⟩
 subst hn
 show ι'.ix.take _=_
 rw[e1];simp
theorem Aw {K H ι g H' ι' g' d Qo dd v}(G0:aB K H ι g)(e:Ext H ι H' ι')(G1:aB K H' ι' g')(r:Rel K H' ι' d v)(h:settle g.length d g'=some (dd,Qo)):
   ∃kF,Ext H ι H' kF/\aB K H' kF Qo/\Rel K H' kF dd v:=by
 unfold settle at h
 split at h
 . cases h;exact⟨ι',e,G1,r⟩
 split at h
 . rename_i z
   refine⟨Ix.cut ι' g.length,e.cut G0.len,?_⟩
   have Gc:=G1.cut g.length z
   split at h
   . rename_i k
     split at h
     . rename_i hk
       cases h
       exact⟨Gc,Rel.cut _ _ (decide_eq_true hk) r⟩
     . rename_i hk
       split at h
       . rename_i xs hx
         split at h
         . rename_i hz
           cases h
           refine⟨Gc,?_⟩
           simp only[Rel]at r ⊢
           obtain⟨a,rfl,ha⟩:=r
           obtain⟨vs,hv,hr⟩:=G1.at hx ha
           refine⟨a,vs,rfl,.inl ⟨.inl hv,λm=>?_,λm=>(G1.cL a m).1 (Z_ ha.1)⟩,ao.cut _ _ hz hr⟩
           obtain⟨j,hj,ej⟩:=aax.mp (show a∈ι'.ix.take g.length from m)
           have j0:j<g.length:=by rw[aaO]at hj;omega
           have YQ:j < ι'.ix.length:=by rw[aaO]at hj;omega
           rw[List.getElem_take]at ej
           obtain⟨pM,ek⟩:=Zs.mp ha.1
           have:j=k:=(ad3 G1.nd).mp (ej.trans ek.symm)
           omega
         . cases h
       . cases h
   . split at h
     . rename_i hz
       cases h
       exact⟨Gc,Rel.cut _ _ hz r⟩
     . cases h
 . cases h
section
variable {P:ZY}{w:World}{K:KW}{mg:Str->Option Value}{base:Heap}
theorem Ht {k n f fd ps}{fn:Fn}(hn:∀ds g,fn ds g=none):dM P K.w K.fr K.mg base je k f fd ps (my K n fn):=
 ⟨λvs H Q E ⟨_,ι,g,ds,d,g',_,_,h,_⟩=>(by rw[hn]at h;cases h),λA outer s H args us vs Q E _ _ _ _ ⟨_,ι,g,ds,d,g',_,_,h,_⟩=>(by rw[hn]at h;cases h)⟩
theorem yI {K H ι ds vs}{N:List Str}(r:ao K H ι ds vs)(hl:ds.length<=N.length):bR K H ι (ds.map some++ZR (N.length-ds.length) none) (L2.start N vs):=by
 have e:=r.length
 refine⟨by unfold L2.start;simp[e],λi d q=>?_⟩
 have hi:i<ds.length:=by
  by_cases hi:i<ds.length
  . exact hi
  . rw[aas (by simpa using hi),aec]at q
    split at q<;>cases q
 rw[ZL (by simpa using hi),Z1]at q
 cases hd:ds[i]? with
 |none=>rw[hd]at q;cases q
 |some d' =>
  rw[hd]at q;cases q
  obtain⟨v,hv,rv⟩:=r.get hd
  refine⟨v,?_,rv⟩
  unfold L2.start
  rw[ZL (by rw[ZN,<- e];exact hi),Z1,hv];rfl
theorem O9 {x qual:Str}{st:Stmt}{f:Addr}{fd:aaA}{N ps:List Str}{k:Nat}{keep:Bool}{b:FS}(F:xc K.fr x qual st f fd)(S:jw N ps (bM st))(hN:ps.length<=N.length)
  (hb:∀(et:Value) (A:ZV) (outer:List Env) (s:Zo) (H:Hp) (E:XK),aQ k (A.deeper (ac5 qual (bM st) s.heap.objs.size f et)) ->
   jZ (ml je P K.w K.fr K.mg base N qual (bM st) f et A outer s H E).w8 (eW st) b):dM P K.w K.fr K.mg base je (k+1) f fd ps (my K ps.length (aC keep N.length ps.length b)):=by
 refine F.ok S (λvs H Q E h=>h.1) (λet A outer s H vs Q E hr h=>?_)
 obtain⟨hl,ι,g,ds,d,g',G0,r,h,p⟩:=h
 refine⟨_,(hb et A outer s H E hr).un,?_⟩
 unfold aC at h
 have pG:ds.length=ps.length:=by rw[r.length];exact hl
 rw[if_pos pG]at h
 obtain⟨⟨r1,σ1,g1⟩,h1,h⟩:=bind_some h
 refine⟨ι,_,g,r1,σ1,g1,G0,yI r (by rw[pG];exact hN),by rw[pG];exact h1,λH1 ι1 e1 G1=>?_⟩
 have fin:∀{dd v},Rel K H1 ι1 dd v->(if keep then some (dd,g1)else settle g.length dd g1)=some (d,g')->Q v H1:=fun {dd v} rv hh=>by
  cases keep with
  |true=>simp only[if_true]at hh;cases hh;exact p H1 ι1 v e1 G1 rv
  |false =>
   simp only[ZG,if_false]at hh
   obtain⟨ι2,e2,G2,r2⟩:=Aw G0 e1 G1 rv hh
   exact p H1 ι2 v e2 G2 r2
 cases r1 with
 |rt dd=>exact λv rv=>fin rv h
 |nx=>exact λσ' S'=>fin (v:=.az) (by simp[Rel]) h
 |bk=>cases h
 |ct=>cases h
end
section
variable {X:Cx}{x:Str}{p pos:Pos}{e:Expr}{es:List Expr}{fr:FA}{k:Nat}{f:Addr}{fd:aaA}{ps:List Str}{fn:Fn}{n:Nat}
noncomputable def aq (fn:Fn)(fr:FA):FE:=λσ g=>(fr σ g).bind λr=>fn r.1 r.2
theorem uK {K}{n:Nat}(hn:∀ds g r,fn ds g=some r->ds.length=n){σ:L2.St}{H:Hp}{Q:VK}(h:tD K (aq fn fr) σ H Q):yB (my K n fn) [] E0 (jf K fr) σ H Q:=by
 obtain⟨ι,σd,g,d,g',G0,S0,h,p⟩:=h
 obtain⟨⟨ds,g1⟩,h1,h⟩:=bind_some h
 refine jf.bind G0 S0 h1 λH1 ι1 vs e1 G1 S1 r1=>?_
 rw[acx]
 exact⟨by rw[<- r1.length];exact hn _ _ _ h,ι1,g1,ds,d,g',G1,r1,h,p.mono e1⟩
theorem Hu (F:dM X.prog X.w X.kw X.mg X.base je k f fd ps (my X.kw n fn))(hr:aQ k X.A)(hm:X.mg x=some (.ref f))(hk:aaX X.kw (.ref f)=true)(hb:Binds X.kw fd ps [])(hn:∀ds g r,fn ds g=some r->ds.length=n)
  (ha:DA X (e::es) fr) (hg:Gl X x:=by rfl) (jF:(x == ("__debug__":Str))=false:=by decide) (he:ZS (e::es) X.env=(false,eval e X.env)::ZS es X.env:=by rfl) (jY:(abU pos (ZS es X.env)).any (·.1)=false:=by rfl):
  DE X (.Call (.Name x p) (e::es) [] pos) (aq fn fr):=.of (
 PE.imp (GZ F hr hg hm hk hb .nil EE ha.un jF he jY) λσ H Q h=>uK hn h)
theorem CY (F:dM X.prog X.w X.kw X.mg X.base je k f fd ps (my X.kw n fn))(hr:aQ k X.A)(hm:X.mg x=some (.ref f))(hk:aaX X.kw (.ref f)=true)(hb:Binds X.kw fd ps [])(hn:∀ds g r,fn ds g=some r->ds.length=n)
  (hg:Gl X x:=by rfl) (jF:(x == ("__debug__":Str))=false:=by decide):
  DE X (.Call (.Name x p) [] [] pos) (aq fn ag):=.of (
 PE.imp (CD F hr hg hm hk hb .nil EE jF) λσ H Q h=>by
  have q:=uK hn h
  obtain⟨ι,σd,g,d,g',G0,S0,h,p⟩:=q
  cases h
  exact p H ι [] Ext.refl G0 (by simp[ao]))
theorem sE {keep:Bool}{nN nP:Nat}{b:FS}:∀ds g r,aC keep nN nP b ds g=some r->ds.length=nP:=λds g r h=>by
 unfold aC at h
 split at h
 . assumption
 . cases h
theorem uL {id:String}{o:Fn}(hc:cz X (.builtin id) (gH X.kw o))(hm:X.mg x=none)(hv:aa6 x=some (.builtin id))(ha:DA X (e::es) fr)(hg:Gl X x:=by rfl)(hn:x ≠ "__name__":=by decide)(jF:(x == ("__debug__":Str))=false:=by decide)
  (he:ZS (e::es) X.env=(false,eval e X.env)::ZS es X.env:=by rfl) (jY:(abU pos (ZS es X.env)).any (·.1)=false:=by rfl):DE X (.Call (.Name x p) (e::es) [] pos) (aq o fr):=.of (
 PE.imp (uA hc hg hm hv ha.un hn jF he jY) λσ H Q h=>by
  obtain⟨ι,σd,g,d,g',G0,S0,h,p⟩:=h
  obtain⟨⟨ds,g1⟩,h1,h⟩:=bind_some h
  exact jf.bind G0 S0 h1 λH1 ι1 vs e1 G1 S1 r1=>⟨ι1,g1,ds,d,g',G1,r1,h,p.mono e1⟩)
theorem Ax {T:String}{o:Fn}(hc:cz X (.type T) (gH X.kw o))(hm:X.mg x=none)(hv:aa6 x=some (.type T))(ha:DA X (e::es) fr)(hg:Gl X x:=by rfl)(hn:x ≠ "__name__":=by decide)(jF:(x == ("__debug__":Str))=false:=by decide)
  (he:ZS (e::es) X.env=(false,eval e X.env)::ZS es X.env:=by rfl) (jY:(abU pos (ZS es X.env)).any (·.1)=false:=by rfl):DE X (.Call (.Name x p) (e::es) [] pos) (aq o fr):=.of (
 PE.imp (Ae hc hg hm hv ha.un hn jF he jY) λσ H Q h=>by
  obtain⟨ι,σd,g,d,g',G0,S0,h,p⟩:=h
  obtain⟨⟨ds,g1⟩,h1,h⟩:=bind_some h
  exact jf.bind G0 S0 h1 λH1 ι1 vs e1 G1 S1 r1=>⟨ι1,g1,ds,d,g',G1,r1,h,p.mono e1⟩)
end
noncomputable def ki (scope:Scope)(env:Env):List (Str×Addr):=(scope.names.filterMap λx=>if x.2 == .free then(env.cells.lookup x.1).map λc=>(x.1,c)else none).reverse
theorem tx {scope:Scope}{env:Env}(h:∀x∈scope.names,x.2 = .free->∃c,env.cells.lookup x.1=some c):closureFor scope env=pure (ki scope env):=by
 have key:∀(l:List (Str×abw)) (acc:List (Str×Addr)),(∀x∈l,x.2 = .free->∃c,env.cells.lookup x.1=some c) ->
   (forIn l acc λx r=>if(x.2 == aaF)=true then(do let c <- cellOf env x.1;pure (abo ((x.1,c)::r)))else pure (abo r):Sem (List (Str×Addr)))=
     pure ((l.filterMap λx=>if x.2 == .free then(env.cells.lookup x.1).map λc=>(x.1,c)else none).reverse++acc):=by
  intro l
  induction l with
  |nil=>intro acc _;rfl
  |cons x r ih =>
   intro acc hx
   rw[ac_]
   by_cases hk:x.2 = .free
   . obtain⟨c,hc⟩:=hx x ZO hk
     have hb:(x.2 == aaF)=true:=by rw[hk];rfl
     rw[if_pos hb]
     simp only[cellOf,hc,pure_bind,aa3,hb,if_true,aab,ab9,aaY,acW]
     exact ih _ λy hy=>hx y (ZQ _ hy)
   . have hb:(x.2 == aaF)=false:=by simpa using hk
     simp only[hb,ZG,if_false,pure_bind,aa3]
     exact ih _ λy hy=>hx y (ZQ _ hy)
 have:=key scope.names [] h
 rw[acx]at this
 unfold closureFor ki
 simp only[bind_pure_comp]at this ⊢
 first
  | (simpa using this)
  |exact this
noncomputable def cellsOf (scope:Scope)(env:Env)(C:Addr):List (Str×Addr):=aaH (C+1) scope.names (ki scope env)
theorem kG {n:Nat}{y:Str}{k:abw}{r:List (Str×abw)}{acc:List (Str×Addr)}:aaH n ((y,k)::r) acc=if(k == aat)=true then aaH (n+1) r ((y,n)::acc)else aaH n r acc:=rfl
theorem j3 {x:Str}{c:Addr}:∀{names:List (Str×abw)} {n:Nat} {acc:List (Str×Addr)},(aaH n names acc).lookup x=some c->((x,aat)∈names/\n<=c)\/(acc.lookup x=some c/\(x,aat) ∉ names)
 | [],_,_,h=>.inr ⟨h,by simp⟩
 | (y,k)::r,n,acc,h=>by
  rw[kG]at h
  split at h
  . rename_i hk
    have hk:k=aat:=by simpa using hk
    subst hk
    rcases j3 h with⟨h1,h2⟩|⟨h1,h2⟩
    . exact .inl ⟨ZQ _ h1,by omega⟩
    . by_cases e:x=y
      . subst e
        rw[aac,show(x == x)=true by simp]at h1
        cases h1
        exact .inl ⟨ZO,Zy _⟩
      . rw[aac,show(x == y)=false by simpa using e]at h1
        exact .inr ⟨h1,λz=>by rcases ZE.mp z with z|z;(cases z;exact e rfl);exact h2 z⟩
  . rename_i hk
    rcases j3 h with⟨h1,h2⟩|⟨h1,h2⟩
    . exact .inl ⟨ZQ _ h1,h2⟩
    . exact .inr ⟨h1,λz=>by rcases ZE.mp z with z|z;(cases z;exact hk rfl);exact h2 z⟩
theorem pN {x:Str}{c:Addr}:∀{names:List (Str×abw)} {n:Nat} {acc:List (Str×Addr)},(x,aat) ∉ names->acc.lookup x=some c->(aaH n names acc).lookup x=some c
 | [],_,_,_,h=>h
 | (y,k)::r,n,acc,hn,h=>by
  have hr:(x,aat) ∉ r:=λz=>hn (ZQ _ z)
  rw[kG]
  split
  . rename_i hk
    have hk:k=aat:=by simpa using hk
    subst hk
    refine pN hr ?_
    have e:x≠y:=λe=>hn (by rw[e];exact ZO)
    rw[aac,show(x == y)=false by simpa using e]
    exact h
  . exact pN hr h
theorem uM {x:Str}:∀{names:List (Str×abw)} {n:Nat} {acc:List (Str×Addr)},((x,aat)∈names \/ ∃c,acc.lookup x=some c)->∃c,(aaH n names acc).lookup x=some c
 | [],_,_,h=>by rcases h with h|h;(cases h);exact h
 | (y,k)::r,n,acc,h=>by
  rw[kG]
  split
  . rename_i hk
    refine uM ?_
    rcases h with h|⟨c,h⟩
    . rcases ZE.mp h with z|z
      . cases z;exact .inr ⟨n,by simp⟩
      . exact .inl z
    . right
      rw[aac]
      split
      . exact⟨_,rfl⟩
      . exact⟨c,h⟩
  . rename_i hk
    refine uM ?_
    rcases h with h|h
    . rcases ZE.mp h with z|z
      . cases z;exact absurd rfl hk
      . exact .inl z
    . exact .inr h
theorem uN:∀{names:List (Str×abw)} {n:Nat} {acc:List (Str×Addr)},(∀x c,acc.lookup x=some c->c<n)->(∀x y c,acc.lookup x=some c->acc.lookup y=some c->x=y)->∀x y c,(aaH n names acc).lookup x=some c->(aaH n names acc).lookup y=some c->x=y
 | [],_,_,_,hi=>hi
 | (z,k)::r,n,acc,hl,hi=>by
  intro x y c
  rw[kG]
  split
  . refine uN (λx c h=>?_) (λx y c h1 h2=>?_) x y c
    . rw[aac]at h
      split at h
      . cases h;exact ack _
      . exact aak (hl x c h)
    . rw[aac]at h1 h2
      split at h1
      . rename_i e1
        cases h1
        split at h2
        . rename_i e2
          rw[eq_of_beq e1,eq_of_beq e2]
        . exact absurd (hl y _ h2) (aa_ _)
      . split at h2
        . cases h2;exact absurd (hl x _ h1) (aa_ _)
        . exact hi x y c h1 h2
  . exact uN hl hi x y c
theorem oM {M:Model}{A:ZV}{E:Value->Zo->Prop}:∀(names:List (Str×abw)) (acc:List (Str×Addr)) (s:Zo) (Q:List (Str×Addr)->Zo->Prop),
  (∀x c,acc.lookup x=some c->c<s.heap.objs.size) ->
  (∀h',(∀b o,s.heap.get? b=some o->h'.get? b=some o)->(∀x c,(aaH s.heap.objs.size names acc).lookup x=some c->s.heap.objs.size<=c->h'.IsCell c none)->Q (aaH s.heap.objs.size names acc) { s with heap:=h' }) ->
  wpAny M A (forIn names acc λx r=>if(x.2 == aat)=true then(do let c <- alloc { cls:=aan "cell",data:=ady none };pure (abo ((x.1,c)::r)))else pure (abo r)) Q E s
 | [],acc,s,Q,hl,h=>by
  rw[aeB]
  exact Zp (h s.heap (λ_ _ e=>e) λx c e1 e2=>absurd (hl x c e1) (Nat.not_lt.mpr e2))
 | (y,k)::r,acc,s,Q,hl,h=>by
  rw[ac_]
  rw[kG]at h
  dsimp only
  split
  . rename_i hk
    rw[if_pos hk]at h
    refine Zm (Zm (afQ (Zp ?_)))
    have sz:(s.heap.push { cls:=aan "cell",data:=ady none }).objs.size=s.heap.objs.size+1:=abi ..
    refine oM r _ _ Q (λx c e=>?_) λh' k1 k2=>?_
    . show c<(s.heap.push _).objs.size
      rw[sz]
      rw[aac]at e
      split at e
      . cases e;exact ack _
      . exact aak (hl x c e)
    . have k2:∀x c,(aaH (s.heap.push { cls:=aan "cell",data:=ady none }).objs.size r ((y,s.heap.objs.size)::acc)).lookup x=some c->(s.heap.push { cls:=aan "cell",data:=ady none }).objs.size<=c->h'.IsCell c none:=k2
      show Q (aaH (s.heap.push { cls:=aan "cell",data:=ady none }).objs.size r ((y,s.heap.objs.size)::acc)) _
      rw[sz]at k2 ⊢
      refine h h' (λb o e=>k1 b o (Zr _ e)) λx c e1 e2=>?_
      rcases Nat.lt_or_eq_of_le e2 with e3|e3
      . exact k2 x c e1 e3
      . subst e3
        exact⟨_,k1 _ _ (ZD _ rfl),rfl⟩
  . rename_i hk
    rw[if_neg hk]at h
    refine Zm (Zp ?_)
    exact oM r acc s Q hl h
theorem wQ {M:Model}{A:ZV}{E:Value->Zo->Prop}{s:Zo}{scope:Scope}{env:Env}{gl:Addr}{cl:List (Str×Addr)}{qual:Str}{Q:Env->Zo->Prop}(hl:∀x c,cl.lookup x=some c->c<s.heap.objs.size)
   (h:∀h4:Heap,h4.Ns s.heap.objs.size (λ_=>none)->(∀b o,s.heap.get? b=some o->h4.get? b=some o)->(∀x c,(aaH (s.heap.objs.size+1) scope.names cl).lookup x=some c->s.heap.objs.size+1<=c->h4.IsCell c none) ->
    Q (newEnv scope s.heap.objs.size gl (aaH (s.heap.objs.size+1) scope.names cl) qual none ab3 (some env) adS) { s with heap:=h4 }):
   wpAny M A (newFunctionEnv scope gl cl [] qual none ab3 (some env)) Q E s:=by
 unfold newFunctionEnv
 have sz:∀o:Obj,(s.heap.push o).objs.size=s.heap.objs.size+1:=λo=>abi ..
 refine Zm (afQ (Zm ?_))
 refine oM scope.names cl _ _ (λx c e=>?_) λh' k1 k2=>?_
 . show c<(s.heap.push _).objs.size
   rw[sz];exact aak (hl x c e)
 . refine Zm ?_
   rw[aeB]
   refine Zp (Zp ?_)
   have k2:∀x c,(aaH (s.heap.push { cls:=aan (if(some env).isSome=true then "dict" else "frame"),data:=afm #[] }).objs.size scope.names cl).lookup x=some c->(s.heap.push { cls:=aan (if(some env).isSome=true then "dict" else "frame"),data:=afm #[] }).objs.size<=c->h'.IsCell c none:=k2
   rw[sz]at k2
   have:=h h' ⟨_,_,_,k1 _ _ (ZD _ rfl),rfl,by intro k hk;simp at hk,λ_=>rfl⟩ (λb o e=>k1 b o (Zr _ e)) k2
   show Q (newEnv scope s.heap.objs.size gl (aaH (s.heap.push { cls:=aan (if(some env).isSome=true then "dict" else "frame"),data:=afm #[] }).objs.size scope.names cl) qual none ab3 (some env) adS) { s with heap:=h' }
   rw[sz]
   exact this
noncomputable def bP (X:Cx)(N:List Str)(scope:Scope)(C:Addr)(s3:Zo)(H:Hp)(fp:List Addr)(pins:List (Addr×Obj)):Cx where
 prog:=X.prog
 w:=X.w
 K:=X.kw
 mg:=X.mg
 base:=X.base
 A:=X.A
 N:=N
 s₀:=s3
 H₀:=H
 env:=compEnvC scope (cellsOf scope X.env C) C X.env
 outer:=X.stack
 stack:=X.stack
 ex:=fp
 calm:=X.calm
 fn:=λx=>scope.names.any λy=>y.1 == x&&y.2 == .cell
 pn:=X.pn++pins
 xe:=λ_ _=>False
structure fB (X:Cx)(N:List Str)(fr:List (Option Nat))(scope:Scope):Prop where
 kind:scope.kind = .function
 cells:∀y∈scope.names,y.2 = .cell->scope.names.lookup y.1=some .cell
 names:∀y∈scope.names,y.2 = .local->scope.names.lookup y.1=some .local
 free:∀y∈scope.names,y.2 = .free->scope.names.lookup y.1=some .free/\(X.env.kindOf y.1=some .cell\/X.env.kindOf y.1=some .free)
 len:fr.length=N.length
 slots:∀(j i:Nat),fr[j]? = some (some i)->∃x,N[j]? = some x/\X.N[i]? = some x/\scope.names.lookup x=some .free
noncomputable def bH {α:Type}(fr:List (Option Nat))(σ:List (Option α)):List (Option α):=fr.map λo=>match o with|some i=>(σ[i]?).join|none=>none
theorem uO {scope:Scope}{env:Env}:(ad1 scope env).kind=scope.kind:=rfl
theorem CZ {scope:Scope}{env:Env}{x:Str}{c:Addr}(h:(x,c)∈ki scope env):(x,aaF)∈scope.names/\env.cells.lookup x=some c:=by
 unfold ki at h
 rw[af0,ab5]at h
 obtain⟨y,hy,e⟩:=h
 split at e
 . rename_i hk
   cases hc:env.cells.lookup y.1 with
   |none=>rw[hc]at e;cases e
   |some c' =>
    rw[hc]at e
    cases e
    have:y.2=aaF:=by simpa using hk
    exact⟨by rw[<- this];exact hy,hc⟩
 . cases e
theorem lT {α:Type}:∀{l:List (Str×α)} {x:Str} {c:α},(x,c)∈l->∃d,l.lookup x=some d
 | [],_,_,h=>nomatch h
 | (y,d)::r,x,c,h=>by
  by_cases e:x=y
  . subst e;exact⟨d,by simp⟩
  . rcases ZE.mp h with z|z
    . cases z;exact absurd rfl e
    . obtain⟨d',q⟩:=lT z
      exact⟨d',by rw[aac];simp[show(x == y)=false by simpa using e,q]⟩
theorem eX {scope:Scope}{env:Env}{x:Str}{c:Addr}(h:(ki scope env).lookup x=some c):(x,aaF)∈scope.names/\env.cells.lookup x=some c:=CZ (aaJ h)
theorem uP {scope:Scope}{env:Env}{x:Str}{c:Addr}(hx:(x,aaF)∈scope.names)(hc:env.cells.lookup x=some c):(ki scope env).lookup x=some c:=by
 have m:(x,c)∈ki scope env:=by
  unfold ki
  rw[af0,ab5]
  exact⟨_,hx,by simp[hc]⟩
 obtain⟨d,q⟩:=lT m
 have:=(eX q).2
 rw[hc]at this;cases this
 exact q
theorem uQ {scope:Scope}{env:Env}{x:Str}(h:(ad1 scope env).names.lookup x=some .cell\/(ad1 scope env).names.lookup x=some .free):(x,aaF)∈scope.names\/(x,aat)∈scope.names:=by
 have m:∃k,(x,k)∈(ad1 scope env).names/\(k = .cell\/k = .free):=by
   rcases h with h|h
   . exact⟨_,aaJ h,.inl rfl⟩
   . exact⟨_,aaJ h,.inr rfl⟩
 obtain⟨k,m,hk⟩:=m
 unfold ad1 at m
 rw[Zu]at m
 obtain⟨⟨n,k'⟩,hm,e⟩:=m
 dsimp only at e
 split at e
 . rename_i z
   cases e
   simp only[Zn]at z
   have:k'=aaF:=by simpa using z.1.1
   subst this
   exact .inl hm
 . cases e
   rcases hk with rfl|rfl
   . exact .inr hm
   . exact .inl hm
theorem ic {env:Env}:∀{names:List (Str×abw)} {x:Str},names.lookup x=some .free ->
  (names.map λ(n,k)=>if(k == aaF&&env.scope.kind == .function&&env.kindOf n == some .cell)then(n,aat)else(n,k)).lookup x=some .cell \/
  (names.map λ(n,k)=>if(k == aaF&&env.scope.kind == .function&&env.kindOf n == some .cell)then(n,aat)else(n,k)).lookup x=some .free
 | [],_,h=>by simp at h
 | (n,k)::r,x,h=>by
  have ih:=@ic env r x
  show List.lookup x ((if(k == aaF&&env.scope.kind == .function&&env.kindOf n == some .cell)=true then(n,aat)else(n,k))::_)=_\/List.lookup x ((if(k == aaF&&env.scope.kind == .function&&env.kindOf n == some .cell)=true then(n,aat)else(n,k))::_)=_
  cases hx:x == n with
  |true =>
   simp only[aac,hx]at h
   cases h
   split
   . left;simp[aac,hx]
   . right;simp[aac,hx]
  |false =>
   simp only[aac,hx]at h
   split
   . simp only[aac,hx];exact ih h
   . simp only[aac,hx];exact ih h
section
variable {X:Cx}{pins:List (Addr×Obj)}{σ:L2.St}{H:Hp}{s3:Zo}
theorem O_ {scope:Scope}(I:Inv X pins σ H s3):∀x c,(ki scope X.env).lookup x=some c->c<s3.heap.objs.size:=λx c e=>by
 obtain⟨v,o,eo,_⟩:=I.cell x c (eX e).2
 exact Zz eo
theorem yJ {N:List Str}{fr:List (Option Nat)}{scope:Scope}{fp:List Addr}{h1:Heap}{tk:Nat}(ok:fB X N fr scope)(I:Inv X pins σ H s3)(hf:∀b∈fp,iq X pins H b)(xh:∀b∈fp,b<s3.heap.objs.size)
   (EC:h1.Ns s3.heap.objs.size λ_=>none) (hk:∀b o,s3.heap.get? b=some o->h1.get? b=some o) (dU:∀x c,(cellsOf scope X.env s3.heap.objs.size).lookup x=some c->s3.heap.objs.size+1<=c->h1.IsCell c none):
   Inv (bP X N scope s3.heap.objs.size s3 H fp pins) [] (bH fr σ) H { s3 with heap:=h1,toks:=tk }:=by
 have I1:Inv X pins σ H { s3 with heap:=h1,toks:=tk }:=I.kept hk
 have uf:∀b∈lM X.stack,b∈X.env.locals::X.fs:=I.um
 have lc:∀x c,(cellsOf scope X.env s3.heap.objs.size).lookup x=some c->(s3.heap.objs.size+1<=c/\h1.IsCell c none)\/X.env.cells.lookup x=some c:=λx c e=>by
   rcases j3 e with⟨_,z⟩|⟨z,_⟩
   . exact .inl ⟨z,dU x c e z⟩
   . exact .inr (eX z).2
 have lo:∀x c,X.env.cells.lookup x=some c->c<s3.heap.objs.size:=λx c e=>by
   obtain⟨v,o,eo,_⟩:=I.cell x c e
   exact Zz eo
 have Qp:∀y,(y,aaF)∈scope.names->(y,aat) ∉ scope.names:=λy h1 h2=>by
   have:=(ok.free _ h1 rfl).1
   rw[show scope.names.lookup y=some .cell from ok.cells _ h2 rfl]at this
   cases this
 refine⟨⟨I.ok.mod,?_,I.ok.glob,I.ok.blt,Zy _,?_,?_,?_,I.ok.hd,I.ok.frames,.inl rfl,?_,I.bs,aa7 I.ok.rX I.sz,?_,?_,I.stack,I.w4⟩,rfl,I.bare,Un.kept hk,
   ⟨_,EC,?_⟩,?_,I.bK.fresh (Zy _),?_,?_,I1.bK,?_⟩
 . show(ad1 scope X.env).kind = .function
   rw[uO];exact ok.kind
 . refine uN (λx c e=>aak (lo x c (eX e).2)) λx y c h1 h2=>?_
   exact I.ok.inj x y c (eX h1).2 (eX h2).2
 . intro x hx
   rcases uQ (scope:=scope) (env:=X.env) hx with m|m
   . obtain⟨c,hc⟩:=I.ok.has x (ok.free _ m rfl).2
     exact⟨c,pN (Qp x m) (uP m hc)⟩
   . exact uM (.inl m)
 . intro x c hx e
   rcases j3 e with⟨_,z⟩|⟨_,z⟩
   . exact acO z
   . refine absurd ?_ z
     have hx:(scope.names.any λy=>y.1 == x&&y.2 == .cell)=true:=hx
     rw[aaW]at hx
     obtain⟨⟨y,k⟩,hy,e2⟩:=hx
     simp only[Zn]at e2
     have e3:k=aat:=by simpa using e2.2
     rw[<- eq_of_beq e2.1,<- e3]
     exact hy
 . intro b hb
   refine⟨ZP (xh b hb),λx c e=>?_⟩
   rcases lc x c e with⟨z,_⟩|z
   . exact λq=>absurd (xh b hb) (Nat.not_lt.mpr (by rw[<- q];exact acO z))
   . exact(hf b hb).2.2.2.2.1 x c z
 . intro b o e hb
   obtain⟨_,_,_,z,_⟩:=hf b hb
   rcases z with z|z
   . exact I.ok.ug b o e z
   . exact absurd (Z5 (Z5 (Zz e) I.ok.rX) z) (aa_ _)
 . intro b hb z
   obtain⟨_,n1,n2,_⟩:=hf b hb
   rcases ZE.mp (uf b z)with q|q
   . exact n1 q
   . exact n2 q
 . intro j x v h1 h2 h3
   have iR:(bH fr σ)[j]? = some (some v):=h2
   unfold bH at iR
   rw[Z1]at iR
   cases e_:fr[j]? with
   |none=>rw[e_]at iR;cases iR
   |some o =>
     rw[e_]at iR
     cases o with
     |none=>cases iR
     |some i =>
       obtain⟨y,hy,hi,pA⟩:=ok.slots j i e_
       have e:x=y:=by
         have xk:N[j]? = some x:=h1
         rw[hy]at xk;cases xk;rfl
       subst e
       have hσ:σ[i]? = some (some v):=by
         simp only[aab,aaE]at iR
         cases q:σ[i]? with
         |none=>rw[q]at iR;cases iR
         |some w=>rw[q]at iR;simp at iR;rw[iR]
       have m:=aaJ pA
       obtain⟨_,tI⟩:=ok.free _ m rfl
       obtain⟨mm,hn,hl⟩:=I1.loc
       obtain⟨u,ru,lk⟩:=hl i x v hi hσ (by rcases tI with k|k;exact .inr (.inl k);exact .inr (.inr k))
       refine⟨u,ru,.inr ⟨ic pA,?_⟩⟩
       rcases lk with⟨kl,_⟩|⟨_,c,hc,tG⟩
       . rcases tI with k|k<;>(rw[k]at kl;cases kl)
       . exact⟨c,pN (Qp x m) (uP m hc),tG⟩
 . intro x c e
   rcases lc x c e with⟨_,z⟩|z
   . exact⟨_,z⟩
   . exact I1.cell x c z
 . intro x c e
   rcases lc x c e with⟨z,_⟩|z
   . exact I.bK.fresh (acO z)
   . exact I.iL x c z
 . intro p hp
   have EG:p∈X.pn++pins:=by
     have q:p∈(X.pn++pins) ++ []:=hp
     simpa using q
   obtain⟨e,n,ne,nf,d⟩:=I1.pin p EG
   refine⟨e,n,ZP ?_,λz=>?_,d⟩
   . exact Zz (I.pin p EG).1
   . rcases ZE.mp (uf _ z)with q|q
     . exact ne q
     . exact nf q
 . show(bH fr σ).length=N.length
   unfold bH;rw[ZN];exact ok.len
end
noncomputable def b6 (t:FG)(c:FT)(e:FE):List D->Sg->G->Option (List D×G)
 | [],_,g=>some ([],g)
 |d::ds,σ,g=>(t d σ g).bind λq=>(c q.1 q.2).bind λk=>if k.1=true then(e q.1 k.2).bind λr=>(b6 t c e ds q.1 r.2).bind λz=>some (r.1::z.1,z.2)else b6 t c e ds q.1 k.2
noncomputable def R_ (X:Cx)(ifs:List Expr)(t:TT):Prop :=
 ∀(pins:List (Addr×Obj)) (s:Zo) (σ:L2.St) (H:Hp) (Q:Bool->Hp->Prop),Inv X pins σ H s->t σ H Q ->
  wpAny (model X.prog X.w) X.A (forIn ifs true λc r=>if r=true then do let ok <- isTrue c X.env (eval c X.env);pure (abo ok)else pure (abo r)) (TP X pins σ Q) X.xe s
structure iu (X:Cx)(ifs:List Expr)(f:FT):Prop where of ::
 un:R_ X ifs (kE X.kw f)
noncomputable def aN:FT:=λ_ g=>some (true,g)
theorem C1 {X:Cx}:iu X [] aN:=.of (λpins s σ H Q I h=>by
 obtain⟨ι,σd,g,b,g',G0,S0,h,p⟩:=h
 cases h
 exact wpAny_tests_nil ⟨H,I,p H ι Ext.refl G0⟩)
theorem C3 {X:Cx}{c:Expr}{f:FT}(h:DT X c f):iu X [c] f:=.of (λpins s σ H Q I q=>wpAny_tests_one (h.un pins s σ H Q I q))
theorem Ext.EH {H1 ι1 H' ιo p H'' kF}(a:Ext H1 ι1 H' ιo)(b:Ext H' (Ix.hide ιo p) H'' kF):Ext H1 ι1 H'' ⟨kF.ix,ιo.hd,kF.kd⟩/\kF=Ix.hide ⟨kF.ix,ιo.hd,kF.kd⟩ p:=by
 have hh:kF.hd=p::ιo.hd:=b.cL
 obtain⟨m1,e1,f1⟩:=a.more
 obtain⟨m2,e2,f2⟩:=b.more
 refine⟨⟨λc o h n=>b.same c o (a.same c o h n) (a.old h n),λc h=>b.there c (a.there c h),⟨m1++m2,?_,λc z=>?_⟩,a.cL,λi hi=>(b.lQ i (show i < ιo.ix.length by rw[e1,aaU];omega)).trans (a.lQ i hi)⟩,?_⟩
 . show kF.ix=_
   rw[e2];show ιo.ix++m2=_
   rw[e1,aaY]
 . rcases Zw.mp z with z|z
   . exact f1 c z
   . cases q:H1 c with
     |none=>rfl
     |some o=>exact absurd (f2 c z) (a.there c (by rw[q];simp))
 . cases kF with
   |mk ix hd kd=>dsimp only at hh;rw[hh];rfl
theorem Ext.EI {H1 ι1 H' ιo p o}(a:Ext H1 ι1 H' ιo)(hp:H1 p=none):Ext H1 ι1 (upd H' p o) ιo :=
 ⟨λc u h n=>by rw[bh (b_ h hp)];exact a.same c u h n,λc h=>by
  by_cases e:c=p
  . subst e;rw[bC];simp
  . rw[bh e];exact a.there c h,a.more,a.cL,a.lQ⟩
theorem Ext.Sa {H1 ι1 H' ιo p}(a:Ext H1 ι1 H' ιo)(hp:H1 p=none):ib H1 ι1 H' (Ix.hide ιo p):=
 ⟨a.same,a.there,a.more,⟨[p],by show p::ιo.hd=_;rw[a.cL];rfl,λb z=>by simp at z;subst z;exact hp⟩,a.lQ⟩
abbrev Sh:=G->Option (List D)
abbrev om:=Sg->G->Option (Sh×Nat×G)
noncomputable def yK (K:KW)(J:It)(H:Hp)(ι:Ix)(sh:Sh)(L:Nat):Prop :=
 ∀(i:Nat) H1 ι1 g1,ib H ι H1 ι1->aB K H1 ι1 g1->∀xs,sh g1=some xs->xs.length=L->(L<=i->J.stop i H1) /\ ∀d,xs[i]? = some d->J.go i H1 /\ ∀x H2,J.uv i H1 x H2->Ext H1 ι1 H2 ι1/\aB K H2 ι1 g1/\Rel K H2 ι1 d x
inductive KZ (K:KW)(f:om)(σ:L2.St)(H:Hp)(R:(It->Hp->Prop)):Prop
 |mk (ι:Ix) (σd:Sg) (g:G) (sh:Sh) (L:Nat) (g':G) (h0:aB K H ι g) (h1:bR K H ι σd σ) (h2:f σd g=some (sh,L,g')) (h3:∀H' ι' J,Ext H ι H' ι'->aB K H' ι' g'->yK K J H' ι' sh L->R J H'):KZ K f σ H R
structure uR (X:Cx)(tg iter:Expr)(f:om):Prop where of ::
 un:PI X tg iter (KZ X.kw f)
noncomputable def cS (sh:Sh)(L:Nat)(t:FG)(c:FT)(e:FE):Nat->Sg->G->Option (List D×G)
 | 0,_,g=>(sh g).bind λxs=>if xs.length=L then some ([],g)else none
 |r+1,σ,g=>(sh g).bind λxs=>if xs.length=L then(xs[L-(r+1)]?).bind λd=>(t d σ g).bind λq=>(c q.1 q.2).bind λk=>if k.1=true then(e q.1 k.2).bind λr'=>(cS sh L t c e r q.1 r'.2).bind λz=>some (r'.1::z.1,z.2)else cS sh L t c e r q.1 k.2 else none
theorem yL {sh:Sh}{L:Nat}{t:FG}{c:FT}{e:FE}{σ:Sg}{g g':G}{all:List D}(h:cS sh L t c e 0 σ g=some (all,g')):∃xs,sh g=some xs/\xs.length=L/\all = []/\g'=g:=by
 simp only[cS]at h
 obtain⟨xs,hx,h⟩:=bind_some h
 split at h
 . rename_i z
   cases h
   exact⟨xs,hx,z,rfl,rfl⟩
 . cases h
theorem yM {sh:Sh}{L r:Nat}{t:FG}{c:FT}{e:FE}{σ:Sg}{g:G}{o:List D×G}(h:cS sh L t c e (r+1) σ g=some o):∃xs d,sh g=some xs/\xs.length=L/\xs[L-(r+1)]? = some d/\((t d σ g).bind λq=>(c q.1 q.2).bind λk=>if k.1=true then(e q.1 k.2).bind λr'=>(cS sh L t c e r q.1 r'.2).bind λz=>some (r'.1::z.1,z.2)else cS sh L t c e r q.1 k.2)=some o:=by
 simp only[cS]at h
 obtain⟨xs,hx,h⟩:=bind_some h
 split at h
 . rename_i z
   obtain⟨d,hd,h⟩:=bind_some h
   exact⟨xs,d,hx,z,hd,h⟩
 . cases h
inductive CompI (X':Cx)(t:FG)(c:FT)(e:FE)(fp:List Addr)(Dl:Addr)(tn:Nat->Heap->Prop)(sh:Sh)(L:Nat)(all:List D)(H1:Hp)(ι1:Ix)(g':G)(n:Nat)(s:Zo):Prop
 |mk (i:Nat) (σ:L2.St) (H:Hp) (ιo:Ix) (σd:Sg) (g:G) (vs:List V) (acc more:List D) (hn:n=L+1-i) (ig:i<=L) (I:Inv X' [] σ H s) (ti:tn i s.heap) (EJ:∀b∈fp,H b=none) (E1:Ext H1 ι1 H ιo) (G1:aB X'.kw H (Ix.hide ιo Dl) g) (S1:bR X'.kw H (Ix.hide ιo Dl) σd σ)
  (EK:H Dl=some (.lst vs)) (uS:ao X'.kw H (Ix.hide ιo Dl) acc vs) (V6:acc.length<=i) (hf:cS sh L t c e (L-i) σd g=some (more,g')) (ea:all=acc++more):CompI X' t c e fp Dl tn sh L all H1 ι1 g' n s
theorem Ay {X':Cx}{tg iter elt:Expr}{ifs:List Expr}{scope:Scope}{pos:Pos}{t:FG}{c:FT}{e:FE}{J:It}{fp:List Addr}{it Dl:Addr}{tn:Nat->Heap->Prop}{all:List D}{sh:Sh}{L:Nat}{H1:Hp}{ι1:Ix}{g':G}{R:Result->Zo->Prop}
   (jh:X'.xe=λ_ _=>False) (hc:X'.calm=true) (T:Turn X'.prog X'.w X'.kw tg J fp it tn) (V7:∀b∈fp,iq X' [] X'.H₀ b) (J1:yK X'.kw J H1 ι1 sh L) (hD:H1 Dl=none) (hz:L<=ZM)
   (hg:DG X' tg t) (hi:iu X' ifs c) (he:DE X' elt e)
   (fin:∀s' σ' H' ιo vs,Inv X' [] σ' H' s'->(∀b∈fp,H' b=none)->Ext H1 ι1 H' ιo->aB X'.kw H' (Ix.hide ιo Dl) g'->H' Dl=some (.lst vs)->ao X'.kw H' (Ix.hide ιo Dl) all vs->R (.ok .next) s'):
   ∀(s:Zo) (σ:L2.St) (H:Hp) (ιo:Ix) (σd:Sg) (g:G),Inv X' [] σ H s->tn 0 s.heap->(∀b∈fp,H b=none)->Ext H1 ι1 H ιo->aB X'.kw H (Ix.hide ιo Dl) g->bR X'.kw H (Ix.hide ιo Dl) σd σ->H Dl=some (.lst [])->cS sh L t c e L σd g=some (all,g') ->
    adm (model X'.prog X'.w) X'.A (.compLoop (.ListComp elt [⟨tg,iter,ifs,0⟩] scope pos) 0 (.ref it) (.ref Dl) X'.env) R s:=by
 intro s σ H ιo σd g I t0 Qq E0 G0 S0 hH Az
 have oI:∀{H':Hp},(∀b∈fp,H' b=none)->∀b∈fp,iq X' [] H' b:=λhn b hb=>⟨hn b hb,(V7 b hb).2⟩
 refine codeAny_loop rfl (CompI X' t c e fp Dl tn sh L all H1 ι1 g') ?_ (L+1)
   ⟨0,σ,H,ιo,σd,g,[],[],all,rfl,aae _,I,t0,Qq,E0,G0,S0,hH,by simp[ao],Zy _,by simpa using Az,rfl⟩
 clear Az hH S0 G0 E0 Qq t0 I g σd ιo H σ s
 rintro n s ⟨i,σ,H,ιo,σd,g,vs,acc,more,rfl,ig,I,ti,EJ,E1,G1,S1,EK,uS,V6,hf,rfl⟩
 show wpAny _ X'.A ((compTurn (.ListComp elt [⟨tg,iter,ifs,0⟩] scope pos) 0 (.ref it) (.ref Dl) X'.env).onRaise (λx=>do noteFrame x X'.env;theTreesLotGoes x)) _ _ s
 refine wpAny_noted ?_
 rw[compTurn_list]
 refine Zm (adF (Zm ?_))
 have j1:=J1 i H (Ix.hide ιo Dl) g (E1.Sa hD) G1
 by_cases bf:i<L
 . rw[show L-i=(L-(i+1))+1 by omega]at hf
   obtain⟨xs,d0,sF,EL,AA,hf⟩:=yM hf
   rw[show L-(L-(i+1)+1)=i by omega]at AA
   obtain⟨st,go⟩:=j1 xs sF EL
   obtain⟨go,yl⟩:=go d0 AA
   refine bp (T.item X' rfl rfl rfl hc i [] s σ H _ I (oI EJ) ti go) λr s4 ⟨u,hr,h4⟩=>?_
   subst hr
   refine Zm (bp h4 λ_ s5 ⟨x,H5,I5,r5,y5,t5,JS⟩=>?_)
   obtain⟨e5,G5,V8⟩:=yl x H5 y5
   obtain⟨⟨σ6,g6⟩,h6,hf⟩:=bind_some hf
   obtain⟨⟨k7,g7⟩,h7,hf⟩:=bind_some hf
   have I5':=I5.pinned (oI JS) (T.obj _ _ t5)
   have lift:∀{α:Type} {tr:Sem α} {Q:α->Zo->Prop} {E:Value->Zo->Prop} {s:Zo},wpAny (model X'.prog X'.w) X'.A tr Q X'.xe s->wpAny (model X'.prog X'.w) X'.A tr Q E s:=λh=>ac2 h (λ_ _ q=>q) λ_ _ z=>by rw[jh]at z;exact z.elim
   have again:∀{s9:Zo} {σ9:L2.St} {H9:Hp} {ι9:Ix} {EM:Sg} {g9:G} {EN:List V} {acc9:List D} {nj:List D},Inv X' ([]++mh fp s5.heap) σ9 H9 s9->Ext H1 ι1 H9 ι9->aB X'.kw H9 (Ix.hide ι9 Dl) g9->bR X'.kw H9 (Ix.hide ι9 Dl) EM σ9 ->
     H9 Dl=some (.lst EN)->ao X'.kw H9 (Ix.hide ι9 Dl) acc9 EN->acc9.length<=i+1->cS sh L t c e (L-(i+1)) EM g9=some (nj,g')->acc++more=acc9++nj ->
     ∃m,m<L+1-i/\CompI X' t c e fp Dl tn sh L (acc++more) H1 ι1 g' m s9:=by
    intro s9 σ9 H9 ι9 EM g9 EN acc9 nj I9 E9 G9 S9 h9 r9 l9 f9 a9
    refine⟨L+1-(i+1),by omega,i+1,σ9,H9,ι9,EM,g9,EN,acc9,nj,rfl,bf,I9.kU,T.keep _ _ _ t5 λb hb o e=>(I9.pin (b,o) (aad _ (aad _ (jm hb e)))).1,λb hb=>?_,E9,G9,S9,h9,r9,l9,f9,a9⟩
    obtain⟨o,e,d⟩:=T.obj _ _ t5 b hb
    exact(I9.pin (b,o) (aad _ (aad _ (jm hb e)))).2.1
   refine Zm (lift (bp (hg.un _ s5 σ H5 x u (λσ' H'=>∃ι6,Ext H5 (Ix.hide ιo Dl) H' ι6/\aB X'.kw H' ι6 g6/\bR X'.kw H' ι6 σ6 σ') I5' r5 ⟨Ix.hide ιo Dl,σd,g,d0,σ6,g6,G5,S1.ext e5,V8,h6,λH6 ι6 EO e6 G6 S6=>⟨ι6,e6,G6,S6⟩⟩) λ_ s6 q6=>?_))
   obtain⟨EO,H6,I6,ι6,e6,G6,S6⟩:=q6
   refine Zm (lift (bp (hi.un _ s6 EO H6 (λb H'=>b=k7 /\ ∃ι7,Ext H6 ι6 H' ι7/\aB X'.kw H' ι7 g7) I6 ⟨ι6,σ6,g6,k7,g7,G6,S6,h7,λH7 ι7 e7 G7=>⟨rfl,ι7,e7,G7⟩⟩) λok s7 q7=>?_))
   obtain⟨H7,I7,rfl,ι7,e7,G7⟩:=q7
   have ER:=(e5.trans e6).trans e7
   obtain⟨E7,V9⟩:=E1.EH ER
   have V_:H7 Dl=some (.lst vs):=ER.same Dl _ EK (G1.cL Dl ZO).1
   have r7:=ao.ext ER _ uS
   have S7:=S6.ext e7
   cases ok with
   |false =>
    simp only[ZG,if_false]at hf
    refine Zp ⟨rfl,?_⟩
    rw[V9]at G7 S7 r7
    exact again I7 E7 G7 S7 V_ r7 (by omega) hf rfl
   |true =>
    simp only[if_true]at hf
    obtain⟨⟨d8,g8⟩,h8,hf⟩:=bind_some hf
    obtain⟨⟨nj,g9⟩,h9,hf⟩:=bind_some hf
    obtain⟨rfl,rfl⟩:d8::nj=more/\g9=g':=by cases hf;exact⟨rfl,rfl⟩
    refine Zm (Zm (lift (bp (he.un _ s7 EO H7 (λv H'=>∃ι8,Ext H7 ι7 H' ι8/\aB X'.kw H' ι8 g8/\Rel X'.kw H' ι8 d8 v) I7 ⟨ι7,σ6,g7,d8,g8,G7,S7,h8,λH8 ι8 v e8 G8 r8=>⟨ι8,e8,G8,r8⟩⟩) λy s8 q8=>?_)))
    obtain⟨v8,H8,I8,Wa,ι8,e8,G8,r8⟩:=q8
    have K0:=ER.trans e8
    obtain⟨E8,Wb⟩:=E1.EH K0
    have AB:H8 Dl=some (.lst vs):=K0.same Dl _ EK (G1.cL Dl ZO).1
    have ES:=ao.ext K0 _ uS
    have S8:=S7.ext e8
    have hlen:vs.length<ZM:=by rw[<- uS.length];omega
    rw[Wb]at G8 S8 ES r8
    refine Zm (lift (bp (sv (X:=X') _ s8 EO H8 (.ref Dl) [v8] (.ref Dl) [y] (λ_ H'=>H'=upd H8 Dl (.lst (vs ++ [v8]))) I8 rfl (.cons Wa .nil) ⟨Dl,vs,v8,rfl,rfl,AB,hlen,rfl⟩) λ_ s9 q9=>?_))
    obtain⟨_,H9,I9,_,rfl⟩:=q9
    refine Zp (Zp ⟨rfl,?_⟩)
    refine again (acc9:=acc ++ [d8]) I9 (E8.EI hD) (G8.grow AB) ⟨S8.1,λj d q=>let⟨v,a,b⟩:=S8.2 j d q;⟨v,a,Rel.grow AB d b⟩⟩ bC ?_ (by simp;omega) h9 (by simp)
    exact ao.append (ao.grow AB _ ES) (by simp only[ao];exact⟨v8,[],rfl,Rel.grow AB _ r8,rfl⟩)
 . have ei:i=L:=by omega
   subst ei
   rw[abW]at hf
   obtain⟨xs,sF,EL,rfl,rfl⟩:=yL hf
   obtain⟨st,go⟩:=j1 xs sF EL
   refine bp (T.done X' rfl rfl rfl hc _ [] s σ H _ I (oI EJ) ti (st (Zy _))) λr s4 ⟨hr,I4⟩=>?_
   subst hr
   exact Zp (fin s4 σ H ιo vs I4 EJ E1 G1 EK (by simpa using uS))
noncomputable def aU (mk:List D->G->Option (D×G))(fi:FI)(fr:List (Option Nat))(t:FG)(c:FT)(e:FE):FE:=λσ g=>(fi σ g).bind λr=>if aD r.1.length=true then(b6 t c e r.1 (bH fr σ) r.2).bind λq=>mk q.1 q.2 else none
noncomputable def iS (mk:List D->G->Option (D×G))(fi:om)(fr:List (Option Nat))(t:FG)(c:FT)(e:FE):FE:=λσ g=>(fi σ g).bind λr=>if aD r.2.1=true then(cS r.1 r.2.1 t c e r.2.1 (bH fr σ) r.2.2).bind λq=>mk q.1 q.2 else none
noncomputable def aV (ds:List D)(g:G):Option (D×G):=some (.lst ds,g)
theorem bR.sub {K H ι σd σ}(fr:List (Option Nat))(h:bR K H ι σd σ):bR K H ι (bH fr σd) (bH fr σ):=by
 refine⟨by simp[bH],λj d q=>?_⟩
 unfold bH at q ⊢
 rw[Z1]at q ⊢
 cases hf:fr[j]? with
 |none=>rw[hf]at q;cases q
 |some o =>
  rw[hf]at q
  cases o with
  |none=>cases q
  |some i =>
   have hσ:σd[i]? = some (some d):=by
    simp only[aab,aaE]at q
    cases z:σd[i]? with
    |none=>rw[z]at q;cases q
    |some w=>rw[z]at q;simp at q;rw[q]
   obtain⟨v,hv,rv⟩:=h.2 i d hσ
   exact⟨v,by simp[hv],rv⟩
section
variable {X:Cx}{tg iter elt:Expr}{ifs:List Expr}{scope:Scope}{pos fW:Pos}{N:List Str}{fr:List (Option Nat)}{fi:om}{t:FG}{c:FT}{e:FE}
theorem sG {pins:List (Addr×Obj)}{s:Zo}{σ:L2.St}{H:Hp}{ι:Ix}{σd:Sg}{g g1 g':G}{all:List D}{sh:Sh}{L:Nat}{use:Option (Value->Sem Unit)}{Q:Value->Zo->Prop}
  (jh:X.xe=λ_ _=>False) (hc:X.calm=true) (ok:fB X N fr scope) (hit:uR X tg iter fi) (dk:∀C s3 H fp pins,DG (bP X N scope C s3 H fp pins) tg t/\iu (bP X N scope C s3 H fp pins) ifs c/\DE (bP X N scope C s3 H fp pins) elt e)
  (hs:∀x,aaj iter X.env x=pure x) (I:Inv X pins σ H s) (G0:aB X.kw H ι g) (S0:bR X.kw H ι σd σ) (h1:fi σd g=some (sh,L,g1)) (hz:aD L=true) (h2:cS sh L t c e L (bH fr σd) g1=some (all,g'))
  (fin:∀s' H' ιo vs Dl C,Inv X pins σ H' s'->iq X pins H' C->(∃m,s'.heap.Ns C m)->Ext H ι H' ιo->aB X.kw H' (Ix.hide ιo Dl) g'->H' Dl=some (.lst vs)->ao X.kw H' (Ix.hide ιo Dl) all vs->Dl ∉ ιo.hd->H Dl=none->compPost (model X.prog X.w) X.A X.xe use Q (.ref Dl) C (.ok .next) s'):
  wpAny (model X.prog X.w) X.A (comprehension (.ListComp elt [⟨tg,iter,ifs,0⟩] scope pos) scope X.env fW (newList []) false (eval iter X.env) use) Q X.xe s:=by
 have free:∀x∈scope.names,x.2 = .free->∃c,X.env.cells.lookup x.1=some c:=λx hx hk=>I.ok.has x.1 (ok.free x hx hk).2
 refine wpAny_comprehension_free (use:=use) rfl hs (tx free) ok.kind ok.names (bp (hit.un pins s σ H (λJ H'=>∃ι1,Ext H ι H' ι1/\aB X.kw H' ι1 g1/\yK X.kw J H' ι1 sh L) I ⟨ι,σd,g,sh,L,g1,G0,S0,h1,λH1 ι1 J e1 G1 J1=>⟨ι1,e1,G1,J1⟩⟩) λxv s1 xk=>bp xk λJN s2 q2=>?_)
 obtain⟨it,fp,tn,J,H1,rfl,I1,T,t1,f1,ι1,e1,G1,J1⟩:=q2
 refine aaS ?_
 have xm:H1 s2.heap.objs.size=none:=I1.bK.fresh (Zy _)
 generalize K1:({ s2 with heap:=s2.heap.push { cls:=.type "list",dict:=none,data:=.seq ([]:List Value).toArray } }:Zo)=s3
 have I3:Inv X pins σ (upd H1 s2.heap.objs.size (.lst [])) s3:=by
  rw[<- K1]
  exact I1.laid (t':=s2.toks) (λb u e=>Zr _ e) (Zy _) ⟨aae _,[],0,.nil,ZD _ rfl⟩
 have k3:∀b o,s2.heap.get? b=some o->s3.heap.get? b=some o:=λb o e=>by rw[<- K1];exact Zr _ e
 have Qr:s3.heap.objs.size=s2.heap.objs.size+1:=by rw[<- K1];exact abi ..
 have xh:∀b∈fp,b<s2.heap.objs.size:=λb hb=>let⟨o,eo,_⟩:=T.obj _ _ t1 b hb;Zz eo
 have f3:∀b∈fp,iq X pins (upd H1 s2.heap.objs.size (.lst [])) b:=λb hb=>⟨by rw[bh (ZP (xh b hb))];exact(f1 b hb).1,(f1 b hb).2⟩
 refine wQ (O_ I3) λh4 Sb k4 kc=>?_
 have I4:=yJ (tk:=s3.toks) ok I3 f3 (λb hb=>by rw[Qr];exact aak (xh b hb)) Sb k4 kc
 obtain⟨hg,hi,he⟩:=dk s3.heap.objs.size s3 (upd H1 s2.heap.objs.size (.lst [])) fp pins
 have t4:tn 0 h4:=T.keep _ _ _ t1 λb hb o e=>k4 b o (k3 b o e)
 have fx:∀b∈fp,iq (bP X N scope s3.heap.objs.size s3 (upd H1 s2.heap.objs.size (.lst [])) fp pins) [] (upd H1 s2.heap.objs.size (.lst [])) b:=λb hb=>by
  refine⟨(f3 b hb).1,?_,?_,.inl hb,?_,?_⟩
  . exact ZP (by rw[Qr];exact aak (xh b hb))
  . exact I4.ok.uh b hb
  . exact(I4.ok.Js b hb).2
  . intro p hp
    have EG:p∈X.pn++pins:=by
      have q:p∈(X.pn++pins) ++ []:=hp
      simpa using q
    exact(f1 b hb).2.2.2.2.2 p EG
 have loop:adm (model X.prog X.w) X.A (.compLoop (.ListComp elt [⟨tg,iter,ifs,0⟩] scope pos) 0 (.ref it) (.ref s2.heap.objs.size) (compEnvC scope (cellsOf scope X.env s3.heap.objs.size) s3.heap.objs.size X.env))
    (compPost (model X.prog X.w) X.A X.xe use Q (.ref s2.heap.objs.size) s3.heap.objs.size) { s3 with heap:=h4 }:=by
  refine Ay (X':=bP X N scope s3.heap.objs.size s3 (upd H1 s2.heap.objs.size (.lst [])) fp pins) (all:=all) (g':=g') rfl hc T fx J1 xm (aD.le hz) hg hi he ?_ _ _ _ ι1 (bH fr σd) g1 I4 t4 (λb hb=>(f3 b hb).1) ((Ext.refl (H:=H1) (ι:=ι1)).EI xm) (G1.hide xm) ?_ bC h2
  . intro s' σ' H' ιo vs I' YR E' G' Wc r'
    have I5:Inv X pins σ H' s':=I3.OA (ch:=fp) I'.os I'.base I'.bK I'.bare λb hb=>⟨(f3 b hb).2.2.2.1,(f3 b hb).2.1,(f3 b hb).2.2.2.2.1,(f3 b hb).2.2.2.2.2⟩
    obtain⟨m,hm,_⟩:=I'.loc
    refine fin s' H' ιo vs _ _ I5 ?_ ⟨m,hm⟩ (e1.trans E') G' Wc r' ?_ ?_
    . have z:=I3.oH (H':=H') (b:=s3.heap.objs.size) (Zy _) I'.free
      exact z
    . rw[E'.cL];exact G1.iQ xm
    . cases q:H s2.heap.objs.size with
      |none=>rfl
      |some o=>exact absurd xm (e1.there _ (by rw[q];simp))
  . have S1:bR X.kw H1 ι1 (bH fr σd) (bH fr σ):=(S0.ext e1).sub fr
    exact⟨S1.1,λj d q=>let⟨v,a,b⟩:=S1.2 j d q;⟨v,a,Rel.hide xm d b⟩⟩
 exact codeAny_compStart_list loop (T.self _ 0 _ _ _ t4 loop)
theorem oN {H ι H' ιo K g' all vs Dl d gg Q}(e:Ext H ι H' ιo)(G':aB K H' (Ix.hide ιo Dl) g')(hD:H' Dl=some (.lst vs))(r:ao K H' (Ix.hide ιo Dl) all vs)(hn:Dl ∉ ιo.hd)(hm:aV all g'=some (d,gg))(p:gD K H ι d gg Q):Q (.ref Dl) H':=by
 cases hm
 refine p H' ιo _ e G'.show ?_
 simp only[Rel]
 exact⟨Dl,vs,rfl,.inl ⟨.inl hD,(G'.cL Dl ZO).1,hn⟩,ao.show _ r⟩
end
section
variable {X:Cx}{tg iter elt:Expr}{ifs:List Expr}{scope:Scope}{pos fW:Pos}{N:List Str}{fr:List (Option Nat)}{fi:om}{t:FG}{c:FT}{e:FE}
theorem oO (jh:X.xe=λ_ _=>False)(hc:X.calm=true)(ok:fB X N fr scope)(hit:uR X tg iter fi)(dk:∀C s3 H fp pins,DG (bP X N scope C s3 H fp pins) tg t/\iu (bP X N scope C s3 H fp pins) ifs c/\DE (bP X N scope C s3 H fp pins) elt e)
   (hs:∀x,aaj iter X.env x=pure x:=by intro _;rfl):DE X (.ListComp elt [⟨tg,iter,ifs,0⟩] scope pos) (iS aV fi fr t c e):=.of (by
 intro pins s σ H Q I h
 obtain⟨ι,σd,g,d,gg,G0,S0,h,p⟩:=h
 obtain⟨⟨sh,L,g1⟩,h1,h⟩:=bind_some h
 dsimp only at h
 split at h
 . rename_i hz
   obtain⟨⟨all,g'⟩,h2,h⟩:=bind_some h
   rw[eval_ListComp]
   refine sG (use:=none) jh hc ok hit dk hs I G0 S0 h1 hz h2 λs' H' ιo vs Dl C I' fC ⟨m,hm⟩ e' G' hD r hn Az=>?_
   refine⟨m,hm,λK2 sb=>⟨.ref Dl,H',?_,rfl,oN e' G' hD r hn h p⟩⟩
   obtain⟨f0,f1,f2,f3,f4,f5⟩:=fC
   exact I'.turned (t':=s'.toks) (λb o hb e=>sb.extBut b o hb e) f0 f1 f3 f4 f5
 . cases h)
theorem mB {mk:List D->G->Option (D×G)}{i:Nat}{x:Str}{px mC:Pos}(Wd:∀{H ι H' ιo g' all vs Dl d gg Q},Ext H ι H' ιo->H Dl=none->aB X.kw H' (Ix.hide ιo Dl) g'->H' Dl=some (.lst vs)->ao X.kw H' (Ix.hide ιo Dl) all vs->Dl ∉ ιo.hd->mk all g'=some (d,gg)->gD X.kw H ι d gg Q->Q (.ref Dl) H')
   (jh:X.xe=λ_ _=>False) (hc:X.calm=true) (ok:fB X N fr scope) (hit:uR X tg iter fi) (dk:∀C s3 H fp pins,DG (bP X N scope C s3 H fp pins) tg t/\iu (bP X N scope C s3 H fp pins) ifs c/\DE (bP X N scope C s3 H fp pins) elt e)
   (hN:X.N.Nodup) (hi:X.N[i]? = some x) (hx:Loc X.env.scope x)
   (pO:ach (.ListComp elt [⟨tg,iter,ifs,0⟩] scope pos) (some (.Name x px)) mC.line X.env=pure true)
   (hs:∀x,aaj iter X.env x=pure x) (hf:X.fn x=true\/X.env.scope.names.lookup x=some .local):DS X (.Assign [.Name x px] (.ListComp elt [⟨tg,iter,ifs,0⟩] scope pos) mC) (aA (iS mk fi fr t c e) (gN i)):=.of (by
 intro pins s σ H Dn I h
 obtain⟨ι,σd,g,r,cf,gg,G0,S0,h0,p⟩:=h
 obtain⟨⟨d,We⟩,xk,hr⟩:=bind_some h0
 have ee:some (F.nx,σd.set i (some d),We)=some (r,cf,gg):=hr
 clear h0
 obtain⟨⟨sh,L,g1⟩,h1,h3⟩:=bind_some (x:=fi σd g) xk
 dsimp only at h3
 split at h3
 . rename_i hz
   obtain⟨⟨all,g'⟩,h2,h4⟩:=bind_some h3
   rw[exec_Assign_Name_used _ _ _ _ pO]
   refine Zm (adF (Zm ?_))
   show wpAny _ X.A (do let _ <- comprehension (.ListComp elt [⟨tg,iter,ifs,0⟩] scope pos) scope X.env _ (newList []) false (eval iter X.env) (some (acr (.Name x px) X.env))) _ _ s
   refine Zm (ac2 (sG (use:=some (acr (.Name x px) X.env)) (Q:=λ_ s'=>SP X pins Dn .next s') jh hc ok hit dk hs I G0 S0 h1 hz h2 λs' H' ιo vs Dl C I' fC ⟨m,hm⟩ e' G' hD r hn Az=>?_) (λ_ s' hq=>Zp (Zp hq)) λ_ _ e=>e)
   show wpAny _ X.A (acr (.Name x px) X.env (.ref Dl)) _ _ _
   refine wpAny_assign_Name (rY I' hN hi hx (v:=.ref Dl) rfl (λAb I'' ⟨a,sb,ha⟩=>?_) hf)
   obtain⟨f0,f1,f2,f3,f4,f5⟩:=fC
   have Wf:C≠a:=by
    rcases ha with rfl|ha
    . exact f1
    . exact λz=>f4 _ _ ha z.symm
   obtain⟨oc,es,ep,ho,rest⟩:=hm
   refine⟨m,⟨oc,es,ep,(sb.2 C Wf).trans ho,rest⟩,λK2 Wg=>?_⟩
   refine⟨σ.set i (some (.ref Dl)),H',I''.turned (t':=Ab.toks) (λb o hb e=>Wg.extBut b o hb e) f0 f1 f3 f4 f5,?_⟩
   cases ee
   exact Wd (Q:=λv H'=>Dn.nx (σ.set i (some v)) H') e' Az G' hD r hn h4 λH2 ι2 v e2 G2 r2=>p H2 ι2 e2 G2 _ ((S0.ext e2).set r2 i)
 . cases h3)
end
noncomputable def AD (fi:FI):om:=λσ g=>(fi σ g).map λr=>(λ_=>some r.1,r.1.length,r.2)
theorem uT {X:Cx}{tg iter:Expr}{fi:FI}(h:DI X tg iter fi):uR X tg iter (AD fi):=.of (PI.imp h.un λσ H Q q=>by
 obtain⟨ι,σd,g,sh,L,g',G0,S0,h2,p⟩:=q
 obtain⟨⟨ds,g1⟩,h1,e⟩:=ZF.mp h2
 cases e
 exact⟨ι,σd,g,ds,g1,G0,S0,h1,λH' ι' J e1 G1 J1=>p H' ι' J e1 G1 λi H1 ι1 g2 e2 G2 xs hx hl=>by
  cases hx
  exact J1 i H1 ι1 g2 e2 G2⟩)
theorem qP {ds:List D}{t:FG}{c:FT}{e:FE}:∀(k:Nat) (σ:Sg) (g:G),k<=ds.length->cS (λ_=>some ds) ds.length t c e k σ g=b6 t c e (ds.drop (ds.length-k)) σ g
 | 0,σ,g,_=>by simp[cS,b6]
 |k+1,σ,g,h=>by
  have bf:ds.length-(k+1)<ds.length:=by omega
  rw[aaT bf,show ds.length-(k+1)+1=ds.length-k by omega]
  simp only[cS,b6,Zv,if_true,Zq bf]
  refine congrArg _ (funext λq=>congrArg _ (funext λk1=>?_))
  split
  . refine congrArg _ (funext λr=>?_)
    rw[qP k _ _ (by omega)]
  . rw[qP k _ _ (by omega)]
theorem xn {mk:List D->G->Option (D×G)}{fi:FI}{fr:List (Option Nat)}{t:FG}{c:FT}{e:FE}:aU mk fi fr t c e=iS mk (AD fi) fr t c e:=by
 funext σ g
 unfold aU iS AD
 cases fi σ g with
 |none=>rfl
 |some r =>
  simp only[Zv,aab]
  rw[qP _ _ _ (Zy _),abW,abR]
section
variable {X:Cx}{tg iter elt:Expr}{ifs:List Expr}{scope:Scope}{pos fW:Pos}{N:List Str}{fr:List (Option Nat)}{fi:FI}{t:FG}{c:FT}{e:FE}
theorem Hv (jh:X.xe=λ_ _=>False)(hc:X.calm=true)(ok:fB X N fr scope)(hit:DI X tg iter fi)(dk:∀C s3 H fp pins,DG (bP X N scope C s3 H fp pins) tg t/\iu (bP X N scope C s3 H fp pins) ifs c/\DE (bP X N scope C s3 H fp pins) elt e)
  (hs:∀x,aaj iter X.env x=pure x:=by intro _;rfl):DE X (.ListComp elt [⟨tg,iter,ifs,0⟩] scope pos) (aU aV fi fr t c e):=by
 rw[xn];exact oO jh hc ok (uT hit) dk hs
theorem yN {i:Nat}{x:Str}{px mC:Pos}(jh:X.xe=λ_ _=>False)(hc:X.calm=true)(ok:fB X N fr scope)(hit:DI X tg iter fi)(dk:∀C s3 H fp pins,DG (bP X N scope C s3 H fp pins) tg t/\iu (bP X N scope C s3 H fp pins) ifs c/\DE (bP X N scope C s3 H fp pins) elt e)
  (hN:X.N.Nodup) (hi:X.N[i]? = some x) (hx:Loc X.env.scope x) (pO:ach (.ListComp elt [⟨tg,iter,ifs,0⟩] scope pos) (some (.Name x px)) mC.line X.env=pure true:=by rfl)
  (hs:∀x,aaj iter X.env x=pure x:=by intro _;rfl) (hf:X.fn x=true\/X.env.scope.names.lookup x=some .local:=by first|exact .inl rfl|exact .inr rfl|assumption):
  DS X (.Assign [.Name x px] (.ListComp elt [⟨tg,iter,ifs,0⟩] scope pos) mC) (aA (aU aV fi fr t c e) (gN i)):=
 by rw[xn];exact mB (λe' _ G' hD r hn h4 p=>oN e' G' hD r hn h4 p) jh hc ok (uT hit) dk hN hi hx pO hs hf
end
noncomputable def gA (sh:Sh)(L:Nat)(t:FG)(b:FS):Nat->FS
 | 0,σ,g=>(sh g).bind λxs=>if xs.length=L then some (.nx,σ,g)else none
 |r+1,σ,g=>(sh g).bind λxs=>if xs.length=L then(xs[L-(r+1)]?).bind λd=>(t d σ g).bind λq=>(b q.1 q.2).bind λr'=>match r'.1 with
   |.nx=>gA sh L t b r r'.2.1 r'.2.2
   |.ct=>gA sh L t b r r'.2.1 r'.2.2
   |.bk=>some (.nx,r'.2.1,r'.2.2)
   |.rt d=>some (.rt d,r'.2.1,r'.2.2)
  else none
noncomputable def pP (fi:om)(t:FG)(b:FS):FS:=λσ g=>(fi σ g).bind λr=>gA r.1 r.2.1 t b r.2.1 σ r.2.2
section
variable {X:Cx}{tg:Expr}{pos:Pos}
inductive C4 (X:Cx)(t:FG)(b:FS)(sh:Sh)(L:Nat)(H1:Hp)(ι1:Ix)(r:F)(cf:Sg)(g':G)(i:Nat)(σ2:L2.St)(H2:Hp):Prop
 |mk (ι2:Ix) (lS:Sg) (g2:G) (e2:Ext H1 ι1 H2 ι2) (G2:aB X.kw H2 ι2 g2) (S2:bR X.kw H2 ι2 lS σ2) (hf:gA sh L t b (L-i) lS g2=some (r,cf,g')):C4 X t b sh L H1 ι1 r cf g' i σ2 H2
theorem xo {iter:Expr}{body:List Stmt}{fi:om}{t:FG}{b:FS}(hp:acV (model X.prog X.w) X.A X.env X.xe)(hc:X.calm=true)(hi:uR X tg iter fi)(hg:DG X tg t)(hb:jZ X body b)
   (hs:∀x,aaj iter X.env x=pure x:=by intro _;rfl):DS X (.For tg iter body [] pos) (pP fi t b):=.of (PS.imp (JQ hp hc hi.un hg.un hb.un hs) λDn σ H h=>by
 obtain⟨ι,σd,g,r,cf,g',G0,S0,h,p⟩:=h
 obtain⟨⟨sh,L,g1⟩,h1,h⟩:=bind_some h
 refine⟨ι,σd,g,sh,L,g1,G0,S0,h1,λH1 ι1 J e1 G1 J1=>?_⟩
 dsimp only at h
 refine⟨λi m σ2 H2=>m=L-i/\i<=L/\C4 X t b sh L H1 ι1 r cf g' i σ2 H2,
   ⟨L,by simp,aae _,ι1,σd,g1,Ext.refl,G1,S0.ext e1,by simpa using h⟩,?_⟩
 rintro i m σ2 H2 ⟨rfl,hi,ι2,lS,g2,e2,G2,S2,hf⟩
 have j1:=J1 i H2 ι2 g2 e2.eu G2
 by_cases bf:i<L
 . rw[show L-i=(L-(i+1))+1 by omega]at hf
   simp only[gA]at hf
   obtain⟨xs,hx,hf⟩:=bind_some hf
   split at hf
   . rename_i hl
     obtain⟨d0,AA,hf⟩:=bind_some hf
     rw[show L-(L-(i+1)+1)=i by omega]at AA
     obtain⟨⟨σ3,g3⟩,h3,hf⟩:=bind_some hf
     obtain⟨⟨r4,σ4,g4⟩,h4,hf⟩:=bind_some hf
     obtain⟨st,go⟩:=j1 xs hx hl
     obtain⟨go,yl⟩:=go d0 AA
     refine .inr ⟨go,λσ5 H5=>C4 X t b sh L H1 ι1 r cf g' (i+1) σ5 H5,?_,?_⟩
     . rintro σ5 H5 ⟨ι5,Wh,g5,e5,G5,S5,h5⟩
       exact⟨L-(i+1),by omega,rfl,bf,ι5,Wh,g5,e5,G5,S5,h5⟩
     . intro x H' y
       obtain⟨e3,G3,r3⟩:=yl x H' y
       refine⟨ι2,lS,g2,d0,σ3,g3,G3,S2.ext e3,r3,h3,λH6 ι6 σ6 e6 G6 S6=>?_⟩
       refine⟨ι6,σ3,g3,r4,σ4,g4,G6,S6,h4,λH7 ι7 e7 G7=>?_⟩
       have k_:=e2.trans (e3.trans (e6.trans e7))
       cases r4 with
       |nx=>exact λσ' S7=>⟨ι7,σ4,g4,k_,G7,S7,hf⟩
       |ct=>exact λσ' S7=>⟨ι7,σ4,g4,k_,G7,S7,hf⟩
       |bk=>cases hf;exact λσ' S7=>p H7 ι7 (e1.trans k_) G7 σ' S7
       |rt d=>cases hf;exact λv r7=>p H7 ι7 (e1.trans k_) G7 v r7
   . cases hf
 . have e:i=L:=by omega
   subst e
   rw[abW]at hf
   simp only[gA]at hf
   obtain⟨xs,hx,hf⟩:=bind_some hf
   split at hf
   . rename_i hl
     cases hf
     obtain⟨st,_⟩:=j1 xs hx hl
     exact .inl ⟨st (Zy _),p H2 ι2 (e1.trans e2) G2 σ2 S2⟩
   . cases hf)
end
theorem xp {ds:List D}{t:FG}{b:FS}:∀(k:Nat) (σ:Sg) (g:G),k<=ds.length->gA (λ_=>some ds) ds.length t b k σ g=forL t b (ds.drop (ds.length-k)) σ g
 | 0,σ,g,_=>by simp[gA,forL]
 |k+1,σ,g,h=>by
  have bf:ds.length-(k+1)<ds.length:=by omega
  rw[aaT bf,show ds.length-(k+1)+1=ds.length-k by omega]
  simp only[gA,forL,Zv,if_true,Zq bf,xp k _ _ (acO h)]<;>rfl
theorem K3 {fi:FI}{t:FG}{b:FS}:cj fi t b=pP (AD fi) t b:=by
 funext σ g
 unfold cj pP AD
 cases fi σ g with
 |none=>rfl
 |some r =>
  simp only[Zv,aab]
  rw[xp _ _ _ (Zy _),abW,abR]
theorem K4 {X:Cx}{tg:Expr}{pos:Pos}{iter:Expr}{body:List Stmt}{fi:FI}{t:FG}{b:FS}(hp:acV (model X.prog X.w) X.A X.env X.xe)(hc:X.calm=true)(hi:DI X tg iter fi)(hg:DG X tg t)(hb:jZ X body b)
  (hs:∀x,aaj iter X.env x=pure x:=by intro _;rfl):DS X (.For tg iter body [] pos) (cj fi t b):=by
 rw[K3];exact xo hp hc (uT hi) hg hb hs
noncomputable def aP (c:Int->Int->Bool)(f:Int->Int->Int)(d1 d2:D)(g:G):Option (D×G):=match d1,d2 with
 |.int i,.int j=>if c i j=true then some (.int (f i j),g)else none
 |_,_=>none
noncomputable def pQ (f:Int->Int->Bool)(d1 d2:D)(g:G):Option (D×G):=match d1,d2 with
 |.int i,.int j=>some (.bl (f i j),g)
 |_,_=>none
noncomputable def a_ (_ _:Int):Bool:=true
noncomputable def cT (i j:Int):Bool:=ab2 i.natAbs 18446744073709551615||ab2 j.natAbs 18446744073709551615
noncomputable def fM (_ j:Int):Bool:=ab2 1 j.toNat&&ab2 j.toNat 1073741823
noncomputable def cC (_ j:Int):Bool:=ab2 1 j.toNat
noncomputable def cN (i j:Int):Bool:=(match j with|.ofNat n=>ab2 n 1000000|.negSucc _=>false)&&ab2 i.natAbs 18446744073709551615
section
variable {X:Cx}
theorem gX {f:Value->Value->Sem Value}{C:Int->Int->Prop}{c:Int->Int->Bool}{fi:Int->Int->Int}(h:bB X f (rI C λi j=>.int (fi i j)))(hc:∀i j,c i j=true->C i j):bB X f (cJ X.kw (aP c fi)):=by
 intro pins s σ H x y v u Q I rx ry q
 obtain⟨ι,g,d1,d2,d,g',G0,r1,r2,q,p⟩:=q
 cases d1 with
 |int i =>
  cases d2 with
  |int j =>
   simp only[Rel]at r1 r2;subst r1;subst r2
   simp only[aP]at q
   split at q
   . rename_i z
     cases q
     exact h pins s σ H _ _ v u Q I rx ry ⟨i,j,rfl,rfl,hc i j z,p H ι _ Ext.refl G0 (by simp[Rel])⟩
   . cases q
  |_=>cases q
 |_=>cases q
theorem nq {g:Int->Int->V}{x y:V}{H:Hp}{Q:VK}(h:rI (λ_ _=>True) g x y H Q):lN g x y H Q:=let⟨i,j,a,b,_,q⟩:=h;⟨i,j,a,b,q⟩
theorem bB.imp {f:Value->Value->Sem Value}{r r':R2}(h:bB X f r)(i:∀x y H Q,r' x y H Q->r x y H Q):bB X f r':=λpins s σ H x y v u Q I rx ry q=>h pins s σ H x y v u Q I rx ry (i _ _ _ _ q)
theorem K5:bB X (aah .Sub) (cJ X.kw (aP a_ (· - ·))):=gX (bB.imp JV λ_ _ _ _=>nq) λ_ _ _=>trivial
theorem Hw:bB X (aah .Add) (cJ X.kw (aP a_ (· + ·))):=gX (bB.imp JU λ_ _ _ _=>nq) λ_ _ _=>trivial
theorem Hx:bB X (aah .Mult) (cJ X.kw (aP cT (· * ·))):=gX JW λi j h=>by
 unfold cT at h
 simp only[aag]at h
 rcases h with h|h
 . have:=aao h
   exact .inl ⟨by omega,by omega⟩
 . have:=aao h
   exact .inr ⟨by omega,by omega⟩
theorem Hy:bB X (aah .FloorDiv) (cJ X.kw (aP fM (· / ·))):=gX GV λi j h=>by
 unfold fM at h
 simp only[Zn]at h
 have h1:=aao h.1
 have h2:=aao h.2
 exact⟨by omega,by omega⟩
theorem K6:bB X (aah .Mod) (cJ X.kw (aP cC (· % ·))):=gX JX λi j h=>by
 have h1:=aao (show ab2 1 j.toNat=true from h)
 show 0<j
 omega
theorem K7:bB X (aah .Pow) (cJ X.kw (aP cN (λi j=>i ^ j.toNat))):=gX JY λi j h=>by
 unfold cN at h
 simp only[Zn]at h
 have h2:=aao h.2
 cases j with
 |ofNat n =>
  have h1:=aao (show ab2 n 1000000=true from h.1)
  exact⟨afn n,(by show((n:Nat):Int)<=1000000;omega),(by omega)⟩
 |negSucc n=>exact absurd h.1 (by simp)
theorem tN {f:Value->Value->Sem Value}{fi:Int->Int->Bool}(h:bB X f (lN λi j=>.bl (fi i j))):bB X f (cJ X.kw (pQ fi)):=by
 intro pins s σ H x y v u Q I rx ry q
 obtain⟨ι,g,d1,d2,d,g',G0,r1,r2,q,p⟩:=q
 cases d1 with
 |int i =>
  cases d2 with
  |int j =>
   simp only[Rel]at r1 r2;subst r1;subst r2
   cases q
   exact h pins s σ H _ _ v u Q I rx ry ⟨i,j,rfl,rfl,p H ι _ Ext.refl G0 (by simp[Rel])⟩
  |_=>cases q
 |_=>cases q
theorem Pa:bB X (Z8 .Lt) (cJ X.kw (pQ λi j=>decide (i<j))):=tN OP
theorem Pb:bB X (Z8 .LtE) (cJ X.kw (pQ λi j=>decide (i<=j))):=tN OQ
theorem Pc:bB X (Z8 .Gt) (cJ X.kw (pQ λi j=>decide (j<i))):=tN OR
theorem Pe:bB X (Z8 .GtE) (cJ X.kw (pQ λi j=>decide (j<=i))):=tN OS
noncomputable def oP (d:D)(g:G):Option (D×G):=match d with|.int i=>some (.int (-i),g)|_=>none
theorem K8:zX X (unaryOp .USub) (Kx X.kw oP):=by
 intro pins s σ H x v Q I rx q
 obtain⟨ι,g,d1,d,g',G0,r1,q,p⟩:=q
 cases d1 with
 |int i =>
  simp only[Rel]at r1;subst r1
  cases q
  exact J2 pins s σ H _ v Q I rx ⟨i,rfl,p H ι _ Ext.refl G0 (by simp[Rel])⟩
 |_=>cases q
mutual
noncomputable def flat:D->Bool
 |.ref _=>false
 |.dA=>false
 |.aI _=>false
 |.fn _=>false
 |.tup xs=>aX xs
 |.lst xs=>aX xs
 |_=>true
noncomputable def aX:List D->Bool
 | []=>true
 |d::ds=>flat d&&aX ds
end
mutual
noncomputable def aH:D->D->Bool
 |.az,.az=>true
 |.bl a,.bl b=>a == b
 |.bl a,.int b=>(if a then 1 else 0)== b
 |.int a,.bl b=>a == (if b then 1 else 0)
 |.int a,.int b=>a == b
 |.str a,.str b=>a == b
 |.tup xs,.tup ys=>de xs ys
 |.lst xs,.lst ys=>de xs ys
 |_,_=>false
noncomputable def de:List D->List D->Bool
 | [],[]=>true
 |x::xs,y::ys=>aH x y&&de xs ys
 |_,_=>false
end
mutual
noncomputable def dep:D->Nat
 |.tup xs=>bS xs+1
 |.lst xs=>bS xs+1
 |_=>0
noncomputable def bS:List D->Nat
 | []=>0
 |d::ds=>max (dep d) (bS ds)
end
mutual
theorem iw:∀d:D,flat d=true->aH d d=true
 |.az,_=>by simp[aH]
 |.bl _,_=>by simp[aH]
 |.int _,_=>by simp[aH]
 |.str _,_=>by simp[aH]
 |.tup xs,h=>by simp only[aH];exact mD xs h
 |.lst xs,h=>by simp only[aH];exact mD xs h
theorem mD:∀ds:List D,aX ds=true->de ds ds=true
 | [],_=>by simp[de]
 |d::ds,h=>by
  simp only[aX,Zn]at h
  simp only[de,Zn]
  exact⟨iw d h.1,mD ds h.2⟩
end
theorem jK:∀xs ys:List D,de xs ys=((Zx (min xs.length ys.length)).all (λj=>aH (xs[j]?.getD .az) (ys[j]?.getD .az))&&xs.length == ys.length)
 | [],[]=>by simp[de]
 | [],y::ys=>by simp[de]
 |x::xs,[]=>by simp[de]
 |x::xs,y::ys=>by
  simp only[de,jK xs ys,abc,Nat.succ_min_succ,List.range_succ_eq_map,acu,abv,af1,acD,aaZ,abZ]
  rw[aeC]
  congr 2
  simp
theorem nt {pins:List (Addr×Obj)}{σ:L2.St}{H:Hp}{s:Zo}{a:Addr}{xs ys:List V}(I:Inv X pins σ H s)(h:dQ X.kw H a xs)(h':dz X.kw H a ys):False:=by
 obtain⟨aw,_,ht,_⟩:=I.tuple h
 obtain⟨its',_,hl,_⟩:=I.list h'
 exact SeqAt.ne_of_list_tuple hl.isList ht rfl
mutual
theorem Rel.inj {pins:List (Addr×Obj)}{σ:L2.St}{H:Hp}{s:Zo}{ι:Ix}(I:Inv X pins σ H s):∀(d1 d2:D) {v:V},flat d1=true->flat d2=true->Rel X.kw H ι d1 v->Rel X.kw H ι d2 v->d1=d2
 |.az,d2,v,_,f2,r1,r2=>by
  simp only[Rel]at r1;subst r1
  cases d2<;>simp_all[Rel,flat]
 |.bl _,d2,v,_,f2,r1,r2=>by
  simp only[Rel]at r1;subst r1
  cases d2<;>simp_all[Rel,flat]
 |.int _,d2,v,_,f2,r1,r2=>by
  simp only[Rel]at r1;subst r1
  cases d2<;>simp_all[Rel,flat]
 |.str _,d2,v,_,f2,r1,r2=>by
  simp only[Rel]at r1;subst r1
  cases d2<;>simp_all[Rel,flat]
 |.tup xs,d2,v,f1,f2,r1,r2=>by
  simp only[Rel]at r1
  obtain⟨a,vs,rfl,hq,hr⟩:=r1
  cases d2 with
  |tup ys =>
   simp only[Rel]at r2
   obtain⟨a',ws,e,b7,ee⟩:=r2
   cases e
   have:=I.mf hq.sq b7.sq
   subst this
   rw[ao.inj I xs ys f1 f2 hr ee]
  |lst ys =>
   simp only[Rel]at r2
   obtain⟨a',ws,e,b7,ee⟩:=r2
   cases e
   exact(nt I hq.sq b7.sq).elim
  |dA=>cases f2
  |ref n=>cases f2
  |aI n=>cases f2
  |fn x=>cases f2
  |_=>simp[Rel]at r2
 |.lst xs,d2,v,f1,f2,r1,r2=>by
  simp only[Rel]at r1
  obtain⟨a,vs,rfl,hq,hr⟩:=r1
  cases d2 with
  |lst ys =>
   simp only[Rel]at r2
   obtain⟨a',ws,e,b7,ee⟩:=r2
   cases e
   have:=I.uu hq.sq b7.sq
   subst this
   rw[ao.inj I xs ys f1 f2 hr ee]
  |tup ys =>
   simp only[Rel]at r2
   obtain⟨a',ws,e,b7,ee⟩:=r2
   cases e
   exact(nt I b7.sq hq.sq).elim
  |dA=>cases f2
  |ref n=>cases f2
  |aI n=>cases f2
  |fn x=>cases f2
  |_=>simp[Rel]at r2
 |.dA,d2,v,f1,_,_,_=>by cases f1
 |.ref _,d2,v,f1,_,_,_=>by cases f1
 |.aI _,d2,v,f1,_,_,_=>by cases f1
 |.fn _,d2,v,f1,_,_,_=>by cases f1
theorem ao.inj {pins:List (Addr×Obj)}{σ:L2.St}{H:Hp}{s:Zo}{ι:Ix}(I:Inv X pins σ H s):∀(ds es:List D) {vs:List V},aX ds=true->aX es=true->ao X.kw H ι ds vs->ao X.kw H ι es vs->ds=es
 | [],es,vs,_,_,r1,r2=>by
  simp only[ao]at r1;subst r1
  cases es with
  |nil=>rfl
  |cons e es=>simp[ao]at r2
 |d::ds,es,vs,f1,f2,r1,r2=>by
  simp only[ao]at r1
  obtain⟨v,vr,rfl,hv,hr⟩:=r1
  cases es with
  |nil=>simp[ao]at r2
  |cons e es =>
   simp only[ao]at r2
   obtain⟨v',Qs,e1,ET,ee⟩:=r2
   cases e1
   simp only[aX,Zn]at f1 f2
   rw[Rel.inj I d e f1.1 f2.1 hv ET,ao.inj I ds es f1.2 f2.2 hr ee]
end
theorem Rel.xq {K H ι d v b t}(r:Rel K H ι d v)(rv:RelV v (.float b t)):False:=by
 cases d with
 |az=>simp only[Rel]at r;subst r;cases rv
 |bl _=>simp only[Rel]at r;subst r;cases rv
 |int _=>simp only[Rel]at r;subst r;obtain⟨t,e⟩:=rv;cases e
 |str _=>simp only[Rel]at r;subst r;obtain⟨t,e⟩:=rv;cases e
 |tup _=>simp only[Rel]at r;obtain⟨a,vs,rfl,_⟩:=r;cases rv
 |lst _=>simp only[Rel]at r;obtain⟨a,vs,rfl,_⟩:=r;cases rv
 |dA=>simp only[Rel]at r;obtain⟨a,rfl,_⟩:=r;cases rv
 |ref _=>simp only[Rel]at r;obtain⟨a,rfl,_⟩:=r;cases rv
 |aI _=>simp only[Rel]at r;obtain⟨a,rfl,_⟩:=r;cases rv
 |fn _=>simp only[Rel]at r;obtain⟨a,rfl,_⟩:=r;cases rv
theorem in1_units (A:ZV):A.in1.units=A.units+1:=rfl
section
open SeqAt
variable {pins:List (Addr×Obj)}{σ:L2.St}{H:Hp}{s:Zo}{ι:Ix}
theorem pR {A:ZV}{s:Zo}{u v:Value}{k:Bool}(h:RcAt A s u v k)(hs:u=v->k=true)(Wi:∀b t,u ≠ .float b t):EqAt A s u v k:=λprog w E Q hq=>by
 unfold eqBool
 refine Z7 ?_
 refine aap (λK9=>?_) (λ_=>?_)
 . rw[hs (eq_of_beq K9)]at hq
   exact Zm (aba (Zp hq))
 . cases u with
   |float b t=>exact absurd rfl (Wi b t)
   |_=>exact Zm (h prog w E _ (aai hq))
set_option maxHeartbeats 4000000 in
mutual
theorem uU (I:Inv X pins σ H s):∀(d1 d2:D) {A:ZV} {x y:V} {u v:Value},flat d1=true->flat d2=true->Rel X.kw H ι d1 x->Rel X.kw H ι d2 y->RelV x u->RelV y v->A.units+dep d1<cLine->RcAt A s u v (aH d1 d2)
 |.az,d2,A,x,y,u,v,_,f2,r1,r2,ru,rv,hu=>by
  simp only[Rel]at r1;subst r1;cases ru
  cases d2 with
  |az=>simp only[Rel]at r2;subst r2;cases rv;simp only[aH];exact .none_none
  |bl b=>simp only[Rel]at r2;subst r2;cases rv;simp only[aH];exact .none_bool b
  |int b=>simp only[Rel]at r2;subst r2;obtain⟨t,rfl⟩:=rv;simp only[aH];exact .none_int b t
  |str b=>simp only[Rel]at r2;subst r2;obtain⟨t,rfl⟩:=rv;simp only[aH];exact .none_str b t
  |tup ys=>simp only[Rel]at r2;obtain⟨a',ws,rfl,hq,hr⟩:=r2;cases rv;obtain⟨aw,_,ht,_⟩:=I.tuple hq.sq;simp only[aH];exact .none_tuple ht (by omega)
  |lst ys=>simp only[Rel]at r2;obtain⟨a',ws,rfl,hq,hr⟩:=r2;cases rv;obtain⟨aw,_,ht,_⟩:=I.list hq.sq;simp only[aH];exact .none_list ht.isList (by omega)
  |_=>cases f2
 |.bl a,d2,A,x,y,u,v,_,f2,r1,r2,ru,rv,hu=>by
  simp only[Rel]at r1;subst r1;cases ru
  cases d2 with
  |az=>simp only[Rel]at r2;subst r2;cases rv;simp only[aH];exact .bool_none a
  |bl b=>simp only[Rel]at r2;subst r2;cases rv;simp only[aH];exact .bool_bool a b
  |int b=>simp only[Rel]at r2;subst r2;obtain⟨t,rfl⟩:=rv;simp only[aH];exact .bool_int a b t
  |str b=>simp only[Rel]at r2;subst r2;obtain⟨t,rfl⟩:=rv;simp only[aH];exact .bool_str a b t
  |tup ys=>simp only[Rel]at r2;obtain⟨a',ws,rfl,hq,hr⟩:=r2;cases rv;obtain⟨aw,_,ht,_⟩:=I.tuple hq.sq;simp only[aH];exact .bool_tuple a ht (by omega)
  |lst ys=>simp only[Rel]at r2;obtain⟨a',ws,rfl,hq,hr⟩:=r2;cases rv;obtain⟨aw,_,ht,_⟩:=I.list hq.sq;simp only[aH];exact .bool_list a ht.isList (by omega)
  |_=>cases f2
 |.int a,d2,A,x,y,u,v,_,f2,r1,r2,ru,rv,hu=>by
  simp only[Rel]at r1;subst r1;obtain⟨t0,rfl⟩:=ru
  cases d2 with
  |az=>simp only[Rel]at r2;subst r2;cases rv;simp only[aH];exact .int_none a t0
  |bl b=>simp only[Rel]at r2;subst r2;cases rv;simp only[aH];exact .int_bool a t0 b
  |int b=>simp only[Rel]at r2;subst r2;obtain⟨t,rfl⟩:=rv;simp only[aH];exact .int_int a t0 b t
  |str b=>simp only[Rel]at r2;subst r2;obtain⟨t,rfl⟩:=rv;simp only[aH];exact .int_str a t0 b t
  |tup ys=>simp only[Rel]at r2;obtain⟨a',ws,rfl,hq,hr⟩:=r2;cases rv;obtain⟨aw,_,ht,_⟩:=I.tuple hq.sq;simp only[aH];exact .int_tuple a t0 ht (by omega)
  |lst ys=>simp only[Rel]at r2;obtain⟨a',ws,rfl,hq,hr⟩:=r2;cases rv;obtain⟨aw,_,ht,_⟩:=I.list hq.sq;simp only[aH];exact .int_list a t0 ht.isList (by omega)
  |_=>cases f2
 |.str a,d2,A,x,y,u,v,_,f2,r1,r2,ru,rv,hu=>by
  simp only[Rel]at r1;subst r1;obtain⟨t0,rfl⟩:=ru
  cases d2 with
  |az=>simp only[Rel]at r2;subst r2;cases rv;simp only[aH];exact .str_none a t0
  |bl b=>simp only[Rel]at r2;subst r2;cases rv;simp only[aH];exact .str_bool a t0 b
  |int b=>simp only[Rel]at r2;subst r2;obtain⟨t,rfl⟩:=rv;simp only[aH];exact .str_int a t0 b t
  |str b=>simp only[Rel]at r2;subst r2;obtain⟨t,rfl⟩:=rv;simp only[aH];exact .str_str a t0 b t
  |tup ys=>simp only[Rel]at r2;obtain⟨a',ws,rfl,hq,hr⟩:=r2;cases rv;obtain⟨aw,_,ht,_⟩:=I.tuple hq.sq;simp only[aH];exact .str_tuple a t0 ht (by omega)
  |lst ys=>simp only[Rel]at r2;obtain⟨a',ws,rfl,hq,hr⟩:=r2;cases rv;obtain⟨aw,_,ht,_⟩:=I.list hq.sq;simp only[aH];exact .str_list a t0 ht.isList (by omega)
  |_=>cases f2
 |.tup xs,d2,A,x,y,u,v,f1,f2,r1,r2,ru,rv,hu=>by
  simp only[Rel]at r1;obtain⟨a,vs,rfl,hq,hr⟩:=r1;cases ru
  obtain⟨aw,bA,ht,_⟩:=I.tuple hq.sq
  simp only[dep]at hu
  cases d2 with
  |az=>simp only[Rel]at r2;subst r2;cases rv;simp only[aH];exact .tuple_none ht (by omega)
  |bl b=>simp only[Rel]at r2;subst r2;cases rv;simp only[aH];exact .tuple_bool b ht (by omega)
  |int b=>simp only[Rel]at r2;subst r2;obtain⟨t,rfl⟩:=rv;simp only[aH];exact .tuple_int b t ht (by omega)
  |str b=>simp only[Rel]at r2;subst r2;obtain⟨t,rfl⟩:=rv;simp only[aH];exact .tuple_str b t ht (by omega)
  |tup ys =>
   simp only[Rel]at r2;obtain⟨a',ws,rfl,b7,ee⟩:=r2;cases rv
   obtain⟨its',eM,gY,_⟩:=I.tuple b7.sq
   simp only[aH,jK]
   have l1:xs.length=aw.toArray.size:=by rw[Zt,<- bA.length];exact hr.length
   have l2:ys.length=its'.toArray.size:=by rw[Zt,<- eM.length];exact ee.length
   rw[l1,l2]
   refine .tuples ht gY (by omega) λj h1 h2=>?_
   have:=kH I xs ys (A:=A.in1) f1 f2 hr ee bA eM (by rw[in1_units];omega) j (by simpa using h1) (by simpa using h2)
   simpa using this
  |lst ys =>
   simp only[Rel]at r2;obtain⟨a',ws,rfl,b7,ee⟩:=r2;cases rv
   obtain⟨its',eM,gY,_⟩:=I.list b7.sq
   simp only[aH];exact .tuple_list ht gY.isList (by omega)
  |_=>cases f2
 |.lst xs,d2,A,x,y,u,v,f1,f2,r1,r2,ru,rv,hu=>by
  simp only[Rel]at r1;obtain⟨a,vs,rfl,hq,hr⟩:=r1;cases ru
  obtain⟨aw,bA,ht,_⟩:=I.list hq.sq
  simp only[dep]at hu
  cases d2 with
  |az=>simp only[Rel]at r2;subst r2;cases rv;simp only[aH];exact .list_none ht.isList (by omega)
  |bl b=>simp only[Rel]at r2;subst r2;cases rv;simp only[aH];exact .list_bool b ht.isList (by omega)
  |int b=>simp only[Rel]at r2;subst r2;obtain⟨t,rfl⟩:=rv;simp only[aH];exact .list_int b t ht.isList (by omega)
  |str b=>simp only[Rel]at r2;subst r2;obtain⟨t,rfl⟩:=rv;simp only[aH];exact .list_str b t ht.isList (by omega)
  |lst ys =>
   simp only[Rel]at r2;obtain⟨a',ws,rfl,b7,ee⟩:=r2;cases rv
   obtain⟨its',eM,gY,_⟩:=I.list b7.sq
   simp only[aH,jK]
   have l1:xs.length=aw.toArray.size:=by rw[Zt,<- bA.length];exact hr.length
   have l2:ys.length=its'.toArray.size:=by rw[Zt,<- eM.length];exact ee.length
   rw[l1,l2]
   by_cases hs:aw.toArray.size=its'.toArray.size
   . have e0:(aw.toArray.size == its'.toArray.size)=true:=by simpa using hs
     rw[e0,ae0,<- hs,Nat.min_self]
     refine .lists ht.isList gY.isList hs (by omega) λj h1 h2=>?_
     have:=kH I xs ys (A:=A.in1) f1 f2 hr ee bA eM (by rw[in1_units];omega) j (by simpa using h1) (by simpa using h2)
     simpa using this
   . have e0:(aw.toArray.size == its'.toArray.size)=false:=by simpa using hs
     rw[e0,agA]
     exact .lists_lengths ht.isList gY.isList (by simpa using hs) (by omega)
  |tup ys =>
   simp only[Rel]at r2;obtain⟨a',ws,rfl,b7,ee⟩:=r2;cases rv
   obtain⟨its',eM,gY,_⟩:=I.tuple b7.sq
   simp only[aH];exact .list_tuple ht.isList gY (by omega)
  |_=>cases f2
 |.dA,d2,A,x,y,u,v,f1,_,_,_,_,_,_=>by cases f1
 |.ref _,d2,A,x,y,u,v,f1,_,_,_,_,_,_=>by cases f1
 |.aI _,d2,A,x,y,u,v,f1,_,_,_,_,_,_=>by cases f1
 |.fn _,d2,A,x,y,u,v,f1,_,_,_,_,_,_=>by cases f1
theorem kH (I:Inv X pins σ H s):∀(xs ys:List D) {A:ZV} {vs ws:List V} {us zs:List Value},aX xs=true->aX ys=true->ao X.kw H ι xs vs->ao X.kw H ι ys ws->Vals vs us->Vals ws zs->A.units+bS xs<cLine ->
  ∀(j:Nat) (h1:j<us.length) (h2:j<zs.length),EqAt A s us[j] zs[j] (aH (xs[j]?.getD .az) (ys[j]?.getD .az))
 | [],ys,A,vs,ws,us,zs,_,_,r1,_,ru,_,_,j,h1,_=>by
  simp only[ao]at r1;subst r1;cases ru;simp at h1
 |d::ds,ys,A,vs,ws,us,zs,f1,f2,r1,r2,ru,rz,hu,j,h1,h2=>by
  simp only[ao]at r1
  obtain⟨v,vr,rfl,hv,hr⟩:=r1
  simp only[bS]at hu
  simp only[aX,Zn]at f1
  cases ru with
  |cons j4 uV =>
   cases ys with
   |nil=>simp only[ao]at r2;subst r2;cases rz;simp at h2
   |cons e es =>
    simp only[ao]at r2
    obtain⟨w,wr,rfl,hw,AE⟩:=r2
    simp only[aX,Zn]at f2
    cases rz with
    |cons pS AF =>
     cases j with
     |zero =>
      have rc:=uU I d e (A:=A) f1.1 f2.1 hv hw j4 pS (by omega)
      simp only[List.getElem_cons_zero,abv,af1]
      refine pR rc (λK_=>?_) (λb t ef=>Rel.xq hv (by rw[ef]at j4;exact j4))
      subst K_
      have La:=j4.inj pS
      subst La
      have Lb:=Rel.inj I d e f1.1 f2.1 hv hw
      subst Lb
      exact iw d f1.1
     |succ j =>
      have:=kH I ds es (A:=A) f1.2 f2.2 hr AE uV AF (by omega) j (by simpa using h1) (by simpa using h2)
      simpa using this
end
end
noncomputable def oEq (d1 d2:D)(g:G):Option (D×G):=if(flat d1&&flat d2&&decide (dep d1<=60))=true then some (.bl (aH d1 d2),g)else none
theorem Pf (hu:X.A.units+64<cLine):bB X (Z8 .Eq) (cJ X.kw oEq):=by
 intro pins s σ H x y v u Q I rx ry q
 obtain⟨ι,g,d1,d2,d,g',G0,r1,r2,q,p⟩:=q
 unfold oEq at q
 split at q
 . rename_i z
   simp only[Zn,decide_eq_true_eq]at z
   cases q
   exact uU I d1 d2 z.1.1 z.1.2 r1 r2 rx ry (by omega) _ _ _ _ ⟨.bl _,H,I,rfl,p H ι _ Ext.refl G0 (by simp[Rel])⟩
 . cases q
noncomputable def cK:D->Bool
 |.az=>true
 |_=>false
noncomputable def C5 (d1 d2:D)(g:G):Option (D×G):=match d2 with|.az=>some (.bl (cK d1),g)|_=>none
noncomputable def yO (d1 d2:D)(g:G):Option (D×G):=match d2 with|.az=>some (.bl (!cK d1),g)|_=>none
theorem xt {K H ι d v}(r:Rel K H ι d v):decide (v=V.az)=cK d:=by
 cases d with
 |az=>simp only[Rel]at r;subst r;rfl
 |bl _=>simp only[Rel]at r;subst r;rfl
 |int _=>simp only[Rel]at r;subst r;rfl
 |str _=>simp only[Rel]at r;subst r;rfl
 |tup _=>simp only[Rel]at r;obtain⟨a,vs,rfl,_⟩:=r;rfl
 |lst _=>simp only[Rel]at r;obtain⟨a,vs,rfl,_⟩:=r;rfl
 |dA=>simp only[Rel]at r;obtain⟨a,rfl,_⟩:=r;rfl
 |ref _=>simp only[Rel]at r;obtain⟨a,rfl,_⟩:=r;rfl
 |aI _=>simp only[Rel]at r;obtain⟨a,rfl,_⟩:=r;rfl
 |fn _=>simp only[Rel]at r;obtain⟨a,rfl,_⟩:=r;rfl
theorem Lc:bB X (Z8 .Is) (cJ X.kw C5):=by
 intro pins s σ H x y v u Q I rx ry q
 obtain⟨ι,g,d1,d2,d,g',G0,r1,r2,q,p⟩:=q
 cases d2 with
 |az =>
  simp only[Rel]at r2;subst r2
  simp only[C5]at q
  cases q
  exact J3 pins s σ H _ _ v u Q I rx ry ⟨rfl,by rw[xt r1];exact p H ι _ Ext.refl G0 (by simp[Rel])⟩
 |_=>cases q
theorem Hz:bB X (Z8 .IsNot) (cJ X.kw yO):=by
 intro pins s σ H x y v u Q I rx ry q
 obtain⟨ι,g,d1,d2,d,g',G0,r1,r2,q,p⟩:=q
 cases d2 with
 |az =>
  simp only[Rel]at r2;subst r2
  simp only[yO]at q
  cases q
  refine GW pins s σ H _ _ v u Q I rx ry ⟨rfl,?_⟩
  rw[xt r1]
  exact p H ι _ Ext.refl G0 (by simp[Rel])
 |_=>cases q
noncomputable def b4 (d:D)(g:G):Option (List D):=match d with
 |.tup xs=>some xs
 |.lst xs=>some xs
 |.ref n=>g[n]?
 |_=>none
theorem gJ {K H ι g d v xs}(G0:aB K H ι g)(r:Rel K H ι d v)(h:b4 d g=some xs):∃a vs,v = .ref a/\(dz K H a vs\/dQ K H a vs)/\ao K H ι xs vs:=by
 cases d with
 |tup ys=>cases h;simp only[Rel]at r;obtain⟨a,vs,rfl,hq,hr⟩:=r;exact⟨a,vs,rfl,.inr hq.sq,hr⟩
 |lst ys=>cases h;simp only[Rel]at r;obtain⟨a,vs,rfl,hq,hr⟩:=r;exact⟨a,vs,rfl,.inl hq.sq,hr⟩
 |ref n =>
  simp only[Rel]at r;obtain⟨a,rfl,ha⟩:=r
  obtain⟨vs,h1,h2⟩:=G0.at h ha
  exact⟨a,vs,rfl,.inl (.of h1),h2⟩
 |_=>cases h
noncomputable def sH (d1 d2:D)(g:G):Option (D×G):=match d2 with
 |.int i=>(b4 d1 g).bind λxs=>(d6 xs i).map λd=>(d,g)
 |_=>none
theorem HA {K H ι}{xs:List D}{vs:List V}{i:Int}{d:D}(r:ao K H ι xs vs)(h:d6 xs i=some d):∃v,d6 vs i=some v/\Rel K H ι d v:=by
 unfold d6 at h ⊢
 rw[<- r.length]
 obtain⟨j,h1,h2⟩:=bind_some h
 obtain⟨v,h3,h4⟩:=r.get h2
 exact⟨v,by rw[h1];exact h3,h4⟩
theorem HB:mr X (cJ X.kw sH):=by
 intro value slice pins s σ H x y v u Q I rx ry q hs
 obtain⟨ι,g,d1,d2,d,g',G0,r1,r2,q,p⟩:=q
 cases d2 with
 |int i =>
  simp only[Rel]at r2;subst r2
  simp only[sH]at q
  obtain⟨xs,h1,q⟩:=bind_some q
  cases h2:d6 xs i with
  |none=>rw[h2]at q;cases q
  |some e =>
   rw[h2]at q;cases q
   obtain⟨a,vs,rfl,hq,hr⟩:=gJ G0 r1 h1
   obtain⟨w,h3,h4⟩:=HA hr h2
   have fin:=p H ι w Ext.refl G0 h4
   rcases hq with hq|hq
   . exact Ag value slice pins s σ H _ _ v u Q I rx ry (.inl ⟨a,vs,i,w,rfl,rfl,hq,h3,fin⟩) hs
   . exact Ag value slice pins s σ H _ _ v u Q I rx ry (.inr (.inl ⟨a,vs,i,w,rfl,rfl,hq,h3,fin⟩)) hs
 |_=>cases q
noncomputable def cu (ds:List D)(g:G):Option (D×G):=match ds with| [d]=>(b4 d g).map λxs=>(.int xs.length,g)|_=>none
theorem AG:cz X (.builtin "len") (gH X.kw cu):=by
 intro pins s σ H xs us Q I r q
 obtain⟨ι,g,ds,d,g',G0,r1,q,p⟩:=q
 cases ds with
 |nil=>cases q
 |cons e jL =>
 cases jL with
 |cons _ _=>cases q
 |nil =>
  simp only[cu]at q
  cases hx:b4 e g with
  |none=>rw[hx]at q;cases q
  |some ys =>
   rw[hx]at q;cases q
   simp only[ao]at r1
   obtain⟨v,_,rfl,rv,rfl⟩:=r1
   obtain⟨a,vs,rfl,hq,hr⟩:=gJ G0 rv hx
   exact uE pins s σ H _ us Q I r ⟨a,vs,rfl,hq,by rw[<- hr.length];exact p H ι _ Ext.refl G0 (by simp[Rel])⟩
noncomputable def mE (ds:List D)(g:G):Option (D×G):=match ds with| [.int i,.int j]=>some (.int (if j>i then j else i),g)|_=>none
noncomputable def qQ (ds:List D)(g:G):Option (D×G):=match ds with| [.int i,.int j]=>some (.int (if j<i then j else i),g)|_=>none
theorem Ld (hc:X.calm=true):cz X (.builtin "max") (gH X.kw mE):=by
 intro pins s σ H xs us Q I r q
 obtain⟨ι,g,ds,d,g',G0,r1,q,p⟩:=q
 unfold mE at q
 split at q
 . cases q
   simp only[ao,Rel]at r1
   obtain⟨_,_,rfl,rfl,_,_,rfl,rfl,rfl⟩:=r1
   exact z8 hc pins s σ H _ us Q I r ⟨_,_,rfl,p H ι _ Ext.refl G0 (by simp[Rel])⟩
 . cases q
theorem Le (hc:X.calm=true):cz X (.builtin "min") (gH X.kw qQ):=by
 intro pins s σ H xs us Q I r q
 obtain⟨ι,g,ds,d,g',G0,r1,q,p⟩:=q
 unfold qQ at q
 split at q
 . cases q
   simp only[ao,Rel]at r1
   obtain⟨_,_,rfl,rfl,_,_,rfl,rfl,rfl⟩:=r1
   exact z9 hc pins s σ H _ us Q I r ⟨_,_,rfl,p H ι _ Ext.refl G0 (by simp[Rel])⟩
 . cases q
noncomputable def fY (ds:List D)(g:G):Option (D×G):=match ds with| [.int i]=>some (.int i,g)| [.bl k]=>some (.int (if k then 1 else 0),g)|_=>none
theorem Lf:cz X (.type "int") (gH X.kw fY):=by
 intro pins s σ H xs us Q I r q
 obtain⟨ι,g,ds,d,g',G0,r1,q,p⟩:=q
 unfold fY at q
 split at q
 . cases q
   simp only[ao,Rel]at r1
   obtain⟨_,_,rfl,rfl,rfl⟩:=r1
   exact sd pins s σ H _ us Q I r (.inl ⟨_,rfl,p H ι _ Ext.refl G0 (by simp[Rel])⟩)
 . cases q
   simp only[ao,Rel]at r1
   obtain⟨_,_,rfl,rfl,rfl⟩:=r1
   exact sd pins s σ H _ us Q I r (.inr ⟨_,rfl,p H ι _ Ext.refl G0 (by simp[Rel])⟩)
 . cases q
noncomputable def cO (ds:List D)(g:G):Option (D×G):=match ds with| [d]=>(b4 d g).bind λxs=>if aD xs.length=true then some (.tup xs,g)else none|_=>none
noncomputable def yP (ds:List D)(g:G):Option (D×G):=match ds with| [d]=>(b4 d g).bind λxs=>if aD xs.length=true then some (.lst xs,g)else none|_=>none
noncomputable def nu (ds:List D)(g:G):Option (D×G):=match ds with| [d]=>(b4 d g).bind λxs=>if aD xs.length=true then some (.ref g.length,g ++ [xs])else none|_=>none
theorem Lg:cz X (.type "tuple") (gH X.kw cO):=by
 intro pins s σ H xs us Q I r q
 obtain⟨ι,g,ds,d,g',G0,r1,q,p⟩:=q
 cases ds with
 |nil=>cases q
 |cons e jL =>
 cases jL with
 |cons _ _=>cases q
 |nil =>
  simp only[cO]at q
  obtain⟨ys,hx,q⟩:=bind_some q
  split at q
  . rename_i z
    cases q
    simp only[ao]at r1
    obtain⟨v,_,rfl,rv,rfl⟩:=r1
    cases e with
    |tup zs =>
     cases hx
     simp only[Rel]at rv
     obtain⟨a,vs,rfl,hq,hr⟩:=rv
     exact lP pins s σ H _ us Q I r ⟨a,vs,rfl,.inr ⟨hq.sq,p H ι _ Ext.refl G0 (by simp only[Rel];exact⟨a,vs,rfl,hq,hr⟩)⟩⟩
    |_ =>
     obtain⟨a,vs,rfl,hq,hr⟩:=gJ G0 rv hx
     have Wj:dz X.kw H a vs:=by
      rcases hq with hq|hq
      . exact hq
      . exfalso
        first
         | (cases hx;done)
         | (simp only[Rel]at rv;obtain⟨a',sI,e1,b7,_⟩:=rv;cases e1;exact nt I hq b7.sq)
         | (simp only[Rel]at rv;obtain⟨a',e1,ha⟩:=rv;cases e1;obtain⟨ws,h1,h2⟩:=G0.at hx ha;exact nt I hq (.of h1))
     refine lP pins s σ H _ us Q I r ⟨a,vs,rfl,.inl ⟨Wj,λl hl=>p _ _ _ (Ext.lay hl) (G0.lay hl) ?_⟩⟩
     simp only[Rel]
     exact⟨l,vs,rfl,.inl ⟨.inl bC,G0.fresh hl⟩,ao.ext (Ext.lay hl) _ hr⟩
  . cases q
theorem Lh:cz X (.type "list") (gH X.kw yP):=by
 intro pins s σ H xs us Q I r q
 obtain⟨ι,g,ds,d,g',G0,r1,q,p⟩:=q
 cases ds with
 |nil=>cases q
 |cons e jL =>
 cases jL with
 |cons _ _=>cases q
 |nil =>
  simp only[yP]at q
  obtain⟨ys,hx,q⟩:=bind_some q
  split at q
  . rename_i z
    cases q
    simp only[ao]at r1
    obtain⟨v,_,rfl,rv,rfl⟩:=r1
    obtain⟨a,vs,rfl,hq,hr⟩:=gJ G0 rv hx
    refine mv pins s σ H _ us Q I r ⟨a,vs,rfl,hq,λl hl=>p _ _ _ (Ext.lay hl) (G0.lay hl) ?_⟩
    simp only[Rel]
    exact⟨l,vs,rfl,.inl ⟨.inl bC,G0.fresh hl,G0.iQ hl⟩,ao.ext (Ext.lay hl) _ hr⟩
  . cases q
theorem HC:cz X (.type "list") (gH X.kw nu):=by
 intro pins s σ H xs us Q I r q
 obtain⟨ι,g,ds,d,g',G0,r1,q,p⟩:=q
 cases ds with
 |nil=>cases q
 |cons e jL =>
 cases jL with
 |cons _ _=>cases q
 |nil =>
  simp only[nu]at q
  obtain⟨ys,hx,q⟩:=bind_some q
  split at q
  . rename_i z
    cases q
    simp only[ao]at r1
    obtain⟨v,_,rfl,rv,rfl⟩:=r1
    obtain⟨a,vs,rfl,hq,hr⟩:=gJ G0 rv hx
    refine mv pins s σ H _ us Q I r ⟨a,vs,rfl,hq,λl hl=>p _ _ _ (Ext.push hl) (G0.push hl hr) ?_⟩
    simp only[Rel]
    exact⟨l,rfl,d_.new G0.len⟩
  . cases q
end
section
variable {X:Cx}
inductive Ty|int|bool|str|tuple|list|dict
noncomputable def Ty.name:Ty->String
 |.int=>"int"|.bool=>"bool"|.str=>"str"|.tuple=>"tuple"|.list=>"list"|.dict=>"dict"
noncomputable def gK:Ty->D->Bool
 |.int,.int _=>true|.int,.bl _=>true|.bool,.bl _=>true|.str,.str _=>true
 |.tuple,.tup _=>true|.list,.lst _=>true|.list,.ref _=>true|.dict,.dA=>true|.dict,.aI _=>true
 |_,_=>false
noncomputable def isFn:D->Bool
 |.fn _=>true
 |_=>false
noncomputable def iy (T:Ty)(f:FE):FE:=λσ g=>(f σ g).bind λr=>if isFn r.1=true then none else some (.bl (gK T r.1),r.2)
theorem isi_call {pins:List (Addr×Obj)}{s:Zo}{σ:L2.St}{H:Hp}{ι:Ix}{g:G}{d:D}{x:V}{u:Value}{Q:Value->Zo->Prop}(T:Ty)(I:Inv X pins σ H s)(G0:aB X.kw H ι g)(r:Rel X.kw H ι d x)(hd:isFn d=false)(ru:RelV x u)(h:∀tk,Q (.bool (gK T d)) { s with toks:=tk }):
  wpAny (model X.prog X.w) X.A (call (.builtin "isinstance") [u,.type T.name]) Q X.xe s:=by
 cases d with
 |az=>simp only[Rel]at r;subst r;cases ru;exact aa1 PySem.W.kitx_none I.i9 ab6 (b:=gK T .az) (by cases T<;>rfl) (λz=>nomatch z) h
 |bl b=>simp only[Rel]at r;subst r;cases ru;exact aa1 PySem.W.kitx_bool I.i9 ab6 (b:=gK T (.bl b)) (by cases T<;>rfl) (λz=>nomatch z) h
 |int b=>simp only[Rel]at r;subst r;obtain⟨t,rfl⟩:=ru;exact aa1 PySem.W.kitx_int I.i9 ab6 (b:=gK T (.int b)) (by cases T<;>rfl) (λz=>nomatch z) h
 |str b=>simp only[Rel]at r;subst r;obtain⟨t,rfl⟩:=ru;exact aa1 PySem.W.kitx_str I.i9 ab6 (b:=gK T (.str b)) (by cases T<;>rfl) (λz=>nomatch z) h
 |tup xs =>
  simp only[Rel]at r;obtain⟨a,vs,rfl,hq,hr⟩:=r;cases ru
  obtain⟨aw,_,⟨o,h1,h2,_⟩,_⟩:=I.tuple hq.sq
  exact aa1 PySem.W.kitx_tuple I.i9 ⟨o,h1,h2⟩ (b:=gK T (.tup xs)) (by cases T<;>rfl) (λz=>nomatch z) h
 |lst xs =>
  simp only[Rel]at r;obtain⟨a,vs,rfl,hq,hr⟩:=r;cases ru
  obtain⟨aw,_,⟨o,n,h1,h2,_⟩,_⟩:=I.list hq.sq
  exact aa1 afE I.i9 ⟨o,h1,h2⟩ (b:=gK T (.lst xs)) (by cases T<;>rfl) (λz=>nomatch z) h
 |ref n =>
  simp only[Rel]at r;obtain⟨a,rfl,ha⟩:=r;cases ru
  have hi:n<g.length:=by rw[<- G0.len];exact(Zs.mp ha.1).1
  obtain⟨vs,h1,h2⟩:=G0.at (Zq hi) ha
  obtain⟨aw,_,⟨o,n,h1,h2,_⟩,_⟩:=I.list (dz.of h1)
  exact aa1 afE I.i9 ⟨o,h1,h2⟩ (b:=true&&gK T (.lst [])) (by cases T<;>rfl) (λz=>nomatch z) (by cases T<;>exact h)
 |dA =>
  simp only[Rel]at r;obtain⟨a,rfl,ha,_⟩:=r;cases ru
  obtain⟨_,_,vs,_,p⟩:=(show cZ X.prog X.w H s.heap a (.dK []) from I.bK a _ ha)
  obtain⟨o,es,ep,h1,h2,_⟩:=p
  exact aa1 afF I.i9 ⟨o,h1,h2.1⟩ (b:=gK T .dA) (by cases T<;>rfl) (λz=>nomatch z) h
 |aI n =>
  simp only[Rel]at r;obtain⟨a,rfl,ha⟩:=r;cases ru
  have hi:n<g.length:=by rw[<- G0.len];exact(Zs.mp ha.1).1
  obtain⟨es,vs,c,h1,_⟩:=G0.lR (Zq hi) ha
  have h2:=((show cZ X.prog X.w H s.heap a (dO a es c) from I.bK a _ h1)).1
  exact aa1 afF I.i9 ⟨_,h2,rfl⟩ (b:=gK T (.aI n)) (by cases T<;>rfl) (λz=>nomatch z) h
 |fn y=>cases hd
theorem Li {a:Expr}{fa:FE}{p p2 pos:Pos}(T:Ty)(hm:X.mg "isinstance" = none)(Wk:X.mg (ZW T.name)=none)(ha:DE X a fa)(hg:Gl X "isinstance":=by rfl)(Wl:Gl X (ZW T.name):=by rfl)
   (eA:ZS [a,.Name (ZW T.name) p2] X.env=(false,eval a X.env)::ZS [.Name (ZW T.name) p2] X.env:=by rfl):DE X (.Call (.Name "isinstance" p) [a,.Name (ZW T.name) p2] [] pos) (iy T fa):=.of (by
 have hT:aa6 (ZW T.name)=some (.type T.name):=by
   cases T
   . exact agr
   . exact PyProof.Rows.boot_bool
   . exact PyProof.Rows.boot_str
   . exact aew
   . exact aeP
   . exact PyProof.Rows.boot_dict
 have hc:cz X (.builtin "isinstance") (λxs H Q=>∃x ι g d,xs = [x,.ty T.name]/\aB X.kw H ι g/\Rel X.kw H ι d x/\isFn d=false/\Q (.bl (gK T d)) H):=by
   intro pins s σ H xs us Q I r q
   obtain⟨x,ι,g,d,rfl,G0,rd,nf,q⟩:=q
   obtain⟨u,w',rfl,ru,rt⟩:=vals2 r
   cases rt
   exact isi_call T I G0 rd nf ru λtk=>⟨.bl _,H,I.tok _,rfl,q⟩
 refine PE.imp (uA hc hg hm PyProof.Rows.boot_isinstance (kz ha.un (kz (GL (v:=.ty T.name) Wl Wk hT rfl (by cases T<;>decide) (by cases T<;>decide)) pD (by rfl)) eA) (by decide) (by decide) eA) λσ H Q h=>?_
 obtain⟨ι,σd,g,d,g',G0,S0,h,p⟩:=h
 obtain⟨⟨d1,g1⟩,h1,h⟩:=bind_some h
 dsimp only at h
 split at h
 . cases h
 rename_i nf
 cases h
 exact tD.bind G0 S0 h1 λH1 ι1 v e1 G1 S1 r1=>⟨v,ι1,g',d1,rfl,G1,r1,by simpa using nf,p H1 ι1 _ e1 G1 (by simp[Rel])⟩)
noncomputable def bools:List D->Option (List Bool)
 | []=>some []
 |.bl b::ds=>(bools ds).map (b :: ·)
 |_=>none
noncomputable def eZ (ds:List D)(g:G):Option (D×G):=match ds with| [.lst xs]=>(bools xs).map λbs=>(.bl (bs.all id),g)|_=>none
theorem mF {K H ι}:∀{xs:List D} {vs:List V} {us:List Value} {bs:List Bool},bools xs=some bs->ao K H ι xs vs->Vals vs us->us=bs.map abA
 | [],vs,us,bs,hb,r,rv=>by simp only[ao]at r;subst r;cases rv;cases hb;rfl
 |.bl b::ds,vs,us,bs,hb,r,rv=>by
  simp only[ao,Rel]at r
  obtain⟨v,vr,rfl,rfl,hr⟩:=r
  cases rv with
  |cons r0 rr =>
   cases r0
   simp only[bools]at hb
   cases fT:bools ds with
   |none=>rw[fT]at hb;cases hb
   |some YS =>
    rw[fT]at hb;cases hb
    rw[mF fT hr rr];rfl
 |.az::ds,_,_,_,hb,_,_=>by simp[bools]at hb
 |.int _::ds,_,_,_,hb,_,_=>by simp[bools]at hb
 |.str _::ds,_,_,_,hb,_,_=>by simp[bools]at hb
 |.tup _::ds,_,_,_,hb,_,_=>by simp[bools]at hb
 |.lst _::ds,_,_,_,hb,_,_=>by simp[bools]at hb
 |.dA::ds,_,_,_,hb,_,_=>by simp[bools]at hb
 |.ref _::ds,_,_,_,hb,_,_=>by simp[bools]at hb
theorem pT {s:Zo}{h':Heap}{o:Obj}(hk:∀b x,b ∉ [s.heap.objs.size]->(s.heap.push o).get? b=some x->h'.get? b=some x):∀b x,s.heap.get? b=some x->h'.get? b=some x :=
 λb x e=>hk b x (λhm=>by rw[acE.mp hm]at e;exact aa_ _ (Zz e)) (Zr _ e)
theorem yQ (bs:List Bool):((Zx bs.length).all λi=>(bs[i]?).getD true)=bs.all id:=by
 rw[agh]
 simp only[ZH,ZJ,id_eq]
 constructor
 . intro h x hx
   obtain⟨i,hi,e⟩:=aax.mp hx
   have:=h i hi
   rw[Zq hi,e]at this
   simpa using this
 . intro h i hi
   rw[Zq hi]
   exact h _ (aau hi)
theorem yR (bs:List Bool):((Zx bs.length).any λi=>(bs[i]?).getD false)=bs.any id:=by
 rw[agh]
 simp only[aaW,ZJ,id_eq]
 constructor
 . rintro⟨i,hi,h⟩
   rw[Zq hi]at h
   exact⟨_,aau hi,by simpa using h⟩
 . rintro⟨x,hx,h⟩
   obtain⟨i,hi,e⟩:=aax.mp hx
   exact⟨i,hi,by rw[Zq hi,e];simpa using h⟩
theorem Lj (hc:X.calm=true):cz X (.builtin "all") (gH X.kw eZ):=by
 intro pins s σ H xs us Q I r q
 obtain⟨ι,g,ds,d,g',G0,r1,q,p⟩:=q
 unfold eZ at q
 split at q
 . rename_i ys
   cases hb:bools ys with
   |none=>rw[hb]at q;cases q
   |some bs =>
    rw[hb]at q;cases q
    simp only[ao,Rel]at r1
    obtain⟨_,_,rfl,⟨a,vs,rfl,hq,hr⟩,rfl⟩:=r1
    obtain⟨u,rfl,ru⟩:=vals1 r
    cases ru
    obtain⟨aw,bA,pl,hz⟩:=I.list hq.sq
    have e0:=mF hb hr bA
    subst e0
    have hl:=pl.isList
    have bf:a<s.heap.objs.size:=by obtain⟨_,e,_⟩:=hl;exact Zz e
    refine call_all_walk (adN hl ?_)
    refine⟨s.heap.objs.size,[s.heap.objs.size,a],[s.heap.objs.size],_,_,_,λi=>(bs[i]?).getD true,rfl,Walks.list (A:=X.A.in1) (I.ok.hd hc) _ a (ZP bf) _,
      ⟨⟨_,ZD _ rfl,rfl,rfl⟩,hl.push _⟩,λi v s' Q' E' hP hQ=>?_,λh' tk hk=>?_⟩
    . have kI:(bs.map abA)[i]? = some v:=by simpa using hP
      rw[Z1]at kI
      cases e:bs[i]? with
      |none=>rw[e]at kI;cases kI
      |some b =>
       rw[e]at kI;cases kI
       dsimp only at hQ
       rw[e]at hQ
       exact aai hQ
    . have e:((Zx (bs.map abA).toArray.size).all λi=>(bs[i]?).getD true)=bs.all id:=by
       rw[Zt,ZN];exact yQ bs
      rw[e]
      exact⟨.bl _,H,I.kept (pT hk),rfl,p H ι _ Ext.refl G0 (by simp[Rel])⟩
 . cases q
end
end L3
namespace L3
open PySem PySem.Spec PyProof.Rows L2
open Sem (wp)
open Builtin
theorem tuple_addW0 (l b:Addr)(items fD:Array Value)(n n2:Nat)(dd mn:Option Addr)(sl i_:Array (Option Value))(YT:items.isEmpty=true):
  Meets (aby.«tuple.__add__» ⟨[.ref l,.ref b],[]⟩) (λ_ R s=>s.heap.get? l=some { cls:=.type "tuple",dict:=dd,data:=.seq items n,slots:=sl }/\s.heap.get? b=some { cls:=.type "tuple",dict:=mn,data:=.seq fD n2,slots:=i_ }/\R (.ok (.ret (acg b))) { s with heap:=s.heap,toks:=s.toks }):=
 .of_wp λprog w A R s h=>by obtain⟨hp,g,d,tk,os⟩:=s;obtain⟨hl,hb,h⟩:=h;have f1:=acT;have f2:=abp;have f3:=AutoSeq1.sub_list_list;have f4:=AutoSeq1.sub_tuple_list;have f5:=AutoSeq1.sub_list_tuple;wp_walk using aam hl,aam hb;exact⟨_,rfl,h⟩
theorem oQ:fillsNumberSlot (.type "tuple") "mul" = pure false :=
 PySem.fillsNumberSlot_seq (id:="tuple.__mul__") (r:=some (.builtin "tuple.__rmul__")) F.slot_tuple_mul.lookup (by decide +kernel) F.slot_tuple_rmul.lookup (by decide +kernel)
theorem uW:seqRepeat? (.type "tuple")=pure (some (.builtin "tuple.__mul__")):=by
 unfold seqRepeat?
 rw[af2 (T:="tuple") (name:="__mul__") (id:="tuple.__mul__") F.slot_tuple_mul.lookup (by decide +kernel),af2 (T:="tuple") (name:="__rmul__") (id:="tuple.__rmul__") F.slot_tuple_rmul.lookup (by decide +kernel)]
 rfl
theorem qR (a:Int)(t:Tok)(l:Addr)(items:Array Value)(n:Nat)(dd:Option Addr)(sl:Array (Option Value)):
  Meets (aby.«int.__rmul__» ⟨[.int a t,.ref l],[]⟩) (λ_ R s=>s.heap.get? l=some { cls:=.type "tuple",dict:=dd,data:=.seq items n,slots:=sl }/\R (.ok (.ret aeQ)) s):=
 .of_wp λprog w A R s h=>by obtain⟨hp,g,d,tk,os⟩:=s;obtain⟨hl,h⟩:=h;wp_walk;exact⟨_,rfl,h⟩
theorem yS (l:Addr)(items:Array Value)(n:Nat)(dd:Option Addr)(sl:Array (Option Value))(x:Int)(u:Tok)(h0:¬(decide (x < -(2 ^ 63))||decide (x>=2 ^ 63))=true)(h1:¬(items.isEmpty||x == 1)=true)(h2:¬(decide (x<=0)||items.isEmpty)=true)
  (h3:¬(items.size:Int)*x>(2 ^ 63-1) / 8) (h4:¬aeq ((items.size:Int)*x)=true) (hsz:((ZR x.toNat items).foldl (· ++ ·) #[]).size<=ZM):
  Meets (aby.«tuple.__mul__» ⟨[.ref l,.int x u],[]⟩) (λ_ R s=>s.heap.get? l=some { cls:=.type "tuple",dict:=dd,data:=.seq items n,slots:=sl }/\R (.ok (.ret (acg s.heap.objs.size))) { s with heap:=s.heap.push { cls:=aan "tuple",data:=Data.seq ((ZR x.toNat items).foldl (· ++ ·) #[]) },toks:=s.toks }):=
 .of_wp λprog w A R s h=>by
  obtain⟨hp,g,d,tk,os⟩:=s;obtain⟨hl,h⟩:=h
  have f1:=acT;have f2:=abp
  wp_walk using aam hl
  refine ada (decide_eq_false h0) ?_
  wp_walk using aam hl
  refine ada (decide_eq_false h3) ?_
  wp_walk using aam hl
  exact⟨_,rfl,h⟩
theorem wR (l:Addr)(items:Array Value)(n:Nat)(dd:Option Addr)(sl:Array (Option Value))(x:Int)(u:Tok)(h0:¬(decide (x < -(2 ^ 63))||decide (x>=2 ^ 63))=true)(h1:(items.isEmpty||x == 1)=true):
  Meets (aby.«tuple.__mul__» ⟨[.ref l,.int x u],[]⟩) (λ_ R s=>s.heap.get? l=some { cls:=.type "tuple",dict:=dd,data:=.seq items n,slots:=sl }/\R (.ok (.ret (acg l))) { s with heap:=s.heap,toks:=s.toks }):=
 .of_wp λprog w A R s h=>by
  obtain⟨hp,g,d,tk,os⟩:=s;obtain⟨hl,h⟩:=h
  have f1:=acT;have f2:=abp
  wp_walk using aam hl
  refine ada (decide_eq_false h0) ?_
  wp_walk using aam hl
  exact⟨_,rfl,h⟩
theorem wU (l:Addr)(items:Array Value)(n:Nat)(dd:Option Addr)(sl:Array (Option Value))(x:Int)(u:Tok)(h0:¬(decide (x < -(2 ^ 63))||decide (x>=2 ^ 63))=true)(h1:¬(items.isEmpty||x == 1)=true)(h2:(decide (x<=0)||items.isEmpty)=true):
  Meets (aby.«tuple.__mul__» ⟨[.ref l,.int x u],[]⟩) (λ_ R s=>s.heap.get? l=some { cls:=.type "tuple",dict:=dd,data:=.seq items n,slots:=sl }/\R (.ok (.ret (acg s.heap.objs.size))) { s with heap:=s.heap.push { cls:=aan "tuple",data:=Data.seq #[] },toks:=s.toks }):=
 .of_wp λprog w A R s h=>by
  obtain⟨hp,g,d,tk,os⟩:=s;obtain⟨hl,h⟩:=h
  have f1:=acT;have f2:=abp
  wp_walk using aam hl
  refine ada (decide_eq_false h0) ?_
  wp_walk using aam hl
  exact⟨_,rfl,h⟩
section
variable {X:Cx}
noncomputable def Pg (K:KW):R2:=λx y H Q=>∃a k xs,x = .ref a/\y = .int k/\dQ K H a xs /\ -(2 ^ 63)<=k/\k<2 ^ 63/\xs.length*k.toNat<=16777216 /\
 ((xs = []\/k=1)->Q (.ref a) H)/\(xs ≠ []->k<=0->∀p,H p=none->Q (.ref p) (upd H p (.tup [])))/\(xs ≠ []->2<=k->∀p,H p=none->Q (.ref p) (upd H p (.tup (ZR k.toNat xs).flatten)))
theorem HD:bB X (aah .Mult) (Pg X.kw):=by
 intro pins s σ H x y v u Q I rx ry h
 obtain⟨a,k,xs,rfl,rfl,hq,h1,h2,hz,q1,q0,q2⟩:=h
 cases rx
 obtain⟨t,rfl⟩:=ry
 obtain⟨aw,r,ht,Lk⟩:=I.tuple hq
 have hl:=r.length
 obtain⟨⟨cls,dd,data,sl⟩,ho,hc,n,hd⟩:=id ht
 simp only at hc hd
 subst hc hd
 have hk:¬(decide (k < -(2 ^ 63))||decide (k>=2 ^ 63))=true:=by
   rw[aag,decide_eq_true_eq,decide_eq_true_eq]
   omega
 refine wpAny_binaryOp_repeat_ref (T:="tuple") (U:="int") (by decide) ⟨_,ho,rfl⟩ (λs'=>adT s' k t) oQ F.fills_int_mul F.slot_int_rmul uW F.slot_int_index.lookup
   (acj F.slot_int_rmul (adT s k t) F.entry_int_rmul (F.args_int_rmul_2 _ _) (qR k t a aw.toArray n dd sl) ⟨ho,rfl,⟨_,ho,rfl⟩,?_⟩)
 by_cases c1:xs = []\/k=1
 . refine acj F.slot_tuple_mul ⟨_,ho,rfl⟩ F.entry_tuple_mul (F.args_tuple_mul_2 _ _) (wR a aw.toArray n dd sl k t hk ?_) ⟨ho,.ref a,H,I,rfl,q1 c1⟩
   rcases c1 with c1|c1
   . subst c1
     cases r
     simp
   . subst c1;simp
 . have hx:xs ≠ []:=λe=>c1 (.inl e)
   have uX:k≠1:=λe=>c1 (.inr e)
   have hi:aw ≠ []:=λe=>hx (by subst e;cases r;rfl)
   have n1:¬(aw.toArray.isEmpty||k == 1)=true:=by simp[hi,uX]
   have fresh:H s.heap.objs.size=none:=I.bK.fresh (Zy _)
   by_cases c0:k<=0
   . refine acj F.slot_tuple_mul ⟨_,ho,rfl⟩ F.entry_tuple_mul (F.args_tuple_mul_2 _ _) (wU a aw.toArray n dd sl k t hk n1 (by simp[c0])) ⟨ho,?_⟩
     refine⟨.ref _,_,I.laid (t':=s.toks) (λb u e=>Zr _ e) (Zy _) ?_,rfl,q0 hx c0 _ fresh⟩
     exact⟨aae _,[],.nil,⟨_,ZD _ rfl,rfl,⟨_,rfl⟩,rfl⟩⟩
   . have Ll:List.foldl (λx1 x2=>x1++x2) #[] (ZR k.toNat aw.toArray)=(ZR k.toNat aw).flatten.toArray:=by
       have:=foldl_rep aw k.toNat []
       rw[aaK]at this
       exact this
     have hs:ZM=16777216:=abk
     have hsz:(aw.length:Int)*k<=16777216:=by
       have e1:((xs.length*k.toNat:Nat):Int)<=16777216:=Int.ofNat_le.mpr hz
       rw[Int.natCast_mul,Int.toNat_of_nonneg (by omega),hl]at e1
       exact e1
     refine acj F.slot_tuple_mul ⟨_,ho,rfl⟩ F.entry_tuple_mul (F.args_tuple_mul_2 _ _) (yS a aw.toArray n dd sl k t hk n1 (by simp[c0,hi]) (by rw[Zt];omega) ?_ ?_) ⟨ho,?_⟩
     . rw[Zt]
       unfold aeq
       simp
       omega
     . rw[Ll,Zt,len_rep,<- hl,Nat.mul_comm,hs];exact hz
     . rw[Ll]
       refine⟨.ref _,_,I.laid (t':=s.toks) (λb u e=>Zr _ e) (Zy _) ?_,rfl,q2 hx (by omega) _ fresh⟩
       exact⟨by rw[len_rep,Nat.mul_comm,hs];exact hz,_,r.rep k.toNat,⟨_,ZD _ rfl,rfl,⟨_,rfl⟩,rfl⟩⟩
theorem ao.rep {K H ι}{xs:List D}{vs:List V}(r:ao K H ι xs vs):∀k:Nat,ao K H ι (ZR k xs).flatten (ZR k vs).flatten
 | 0=>by simp[ao]
 |k+1=>by
  rw[aa4,aa4,abJ,abJ]
  exact ao.append r (ao.rep r k)
noncomputable def b8 (d1 d2:D)(g:G):Option (D×G):=match d1,d2 with
 |.int i,.int j=>if cT i j=true then some (.int (i*j),g)else none
 |.tup xs,.int k=>if(gI k&&aD (xs.length*k.toNat))=true then some (.tup (ZR k.toNat xs).flatten,g)else none
 |_,_=>none
theorem Lm:bB X (aah .Mult) (cJ X.kw b8):=by
 intro pins s σ H x y v u Q I rx ry q
 obtain⟨ι,g,d1,d2,d,g',G0,r1,r2,q,p⟩:=q
 unfold b8 at q
 split at q
 . split at q
   . rename_i i j z
     exact Hx pins s σ H x y v u Q I rx ry ⟨ι,g,.int i,.int j,d,g',G0,r1,r2,by simp only[aP];rw[if_pos z];exact q,p⟩
   . cases q
 . split at q
   . rename_i xs k z
     simp only[Zn]at z
     have z1:=gI.and z.1
     have z2:=aD.le z.2
     cases q
     simp only[Rel]at r1 r2
     obtain⟨a,vs,rfl,hq,hr⟩:=r1
     subst r2
     have hl:=hr.length
     have new:∀{zs:List D} {ws:List V},ao X.kw H ι zs ws->zs=(ZR k.toNat xs).flatten->∀q,H q=none->Q (.ref q) (upd H q (.tup ws)):=fun {zs ws} rz ez q b7=>by
       subst ez
       refine p _ _ _ (Ext.lay b7) (G0.lay b7) ?_
       simp only[Rel]
       exact⟨q,ws,rfl,.inl ⟨.inl bC,G0.fresh b7⟩,ao.ext (Ext.lay b7) _ rz⟩
     refine HD pins s σ H _ _ v u Q I rx ry ⟨a,k,vs,rfl,rfl,hq.sq,(by omega),(by omega),by rw[<- hl];exact z2,λc=>?_,λhx hk=>?_,λhx hk=>?_⟩
     . refine p H ι _ Ext.refl G0 ?_
       simp only[Rel]
       refine⟨a,vs,rfl,hq,?_⟩
       rcases c with c|c
       . subst c
         have:xs = []:=ab8 (by simpa using hl)
         subst this
         have e0:(ZR k.toNat ([]:List D)).flatten = []:=by simp
         rw[e0];exact hr
       . subst c
         have e0:(ZR (1:Int).toNat xs).flatten=xs:=by simp
         rw[e0];exact hr
     . refine new (zs:=[]) (by simp[ao]) ?_
       have:k.toNat=0:=by omega
       rw[this];simp
     . exact new (hr.rep k.toNat) rfl
   . cases q
 . cases q
theorem C6:bB X (aah .Add) (λx y H Q=>∃a b ys,x = .ref a/\y = .ref b/\dQ X.kw H a []/\dQ X.kw H b ys/\Q (.ref b) H):=by
 intro pins s σ H x y v u Q I rx ry h
 obtain⟨a,b,ys,rfl,rfl,ha,hb,q⟩:=h
 cases rx
 cases ry
 obtain⟨aw,r1,p1,_⟩:=I.tuple ha
 obtain⟨oJ,r2,p2,_⟩:=I.tuple hb
 obtain⟨⟨cls,dd,data,sl⟩,ho,hc,n,hd⟩:=id p1
 obtain⟨⟨CF,mn,data2,i_⟩,gm,ja,n2,hd2⟩:=id p2
 simp only at hc hd ja hd2
 subst hc hd ja hd2
 exact ad5 ⟨_,ho,rfl⟩ ⟨_,gm,rfl⟩ ad6 aeY acP acL (acC _ _)
  (tuple_addW0 a b aw.toArray oJ.toArray n n2 dd mn sl i_ (by cases r1;simp)) ⟨ho,gm,.ref b,H,I,rfl,q⟩
theorem HE:bB X (aah .Add) (λx y H Q=>∃a b xs ys,x = .ref a/\y = .ref b/\dz X.kw H a xs/\dz X.kw H b ys/\xs.length+ys.length<=ZM /\ ∀p,H p=none->Q (.ref p) (upd H p (.lst (xs++ys)))):=by
 intro pins s σ H x y v u Q I rx ry h
 obtain⟨a,b,xs,ys,rfl,rfl,ha,hb,hz,q⟩:=h
 cases rx
 cases ry
 obtain⟨aw,r1,p1,_⟩:=I.list ha
 obtain⟨oJ,r2,p2,_⟩:=I.list hb
 obtain⟨⟨cls,dd,data,sl⟩,n,ho,hc,Qt,hd⟩:=id p1
 obtain⟨⟨CF,mn,data2,i_⟩,n2,gm,ja,Ln,hd2⟩:=id p2
 simp only at hc hd ja hd2 Qt Ln
 subst hc hd ja hd2 Qt Ln
 have e:aw.toArray++oJ.toArray=(aw++oJ).toArray:=by simp
 have hl:aw.length+oJ.length<=ZM:=by rw[<- r1.length,<- r2.length];exact hz
 refine ad5 ⟨_,ho,rfl⟩ ⟨_,gm,rfl⟩ noFill_list_add seq_list_add PySem.F.slot_list_add PySem.F.entry_list_add (PySem.F.args_list_add_2 _ _) (list_addW a b aw.toArray oJ.toArray n n2 none none sl i_ (by simpa using hl)) ⟨ho,gm,?_⟩
 rw[e]
 exact⟨.ref _,_,I.R4 (t':=s.toks) (r1.append r2) (by rw[aaU];exact hz),rfl,q _ I.fresh⟩
noncomputable def ff (d:D)(g:G):Option (List D):=match d with
 |.lst xs=>some xs
 |.ref n=>g[n]?
 |_=>none
theorem gF {K H ι g d v xs}(G0:aB K H ι g)(r:Rel K H ι d v)(h:ff d g=some xs):∃a vs,v = .ref a/\dz K H a vs/\ao K H ι xs vs:=by
 cases d with
 |lst ys =>
  cases h
  simp only[Rel]at r
  obtain⟨a,vs,rfl,hq,hr⟩:=r
  exact⟨a,vs,rfl,hq.sq,hr⟩
 |ref n =>
  simp only[Rel]at r
  obtain⟨a,rfl,ha⟩:=r
  obtain⟨vs,h1,h2⟩:=G0.at h ha
  exact⟨a,vs,rfl,.of h1,h2⟩
 |_=>cases h
noncomputable def aR (d1 d2:D)(g:G):Option (D×G):=match d1,d2 with
 |.int i,.int j=>some (.int (i+j),g)
 |.tup xs,.tup ys=>if aD (xs.length+ys.length)=true then some (.tup (xs++ys),g)else none
 |.str i,.str j=>if aD (i.length+j.length)=true then some (.str (i++j),g)else none
 |d1,d2=>match ff d1 g,ff d2 g with
  |some xs,some ys=>if aD (xs.length+ys.length)=true then some (.lst (xs++ys),g)else none
  |_,_=>none
theorem Lo:bB X (aah .Add) (cJ X.kw aR):=by
 intro pins s σ H x y v u Q I rx ry q
 obtain⟨ι,g,d1,d2,d,g',G0,r1,r2,q,p⟩:=q
 unfold aR at q
 split at q
 . rename_i i j
   exact Hw pins s σ H x y v u Q I rx ry ⟨ι,g,.int i,.int j,d,g',G0,r1,r2,q,p⟩
 . split at q
   . rename_i xs ys z
     cases q
     simp only[Rel]at r1 r2
     obtain⟨a,vs,rfl,hq,hr⟩:=r1
     obtain⟨b,ws,rfl,mG,lU⟩:=r2
     by_cases hx:vs = []
     . subst hx
       have:xs = []:=ab8 (by simpa using hr.length)
       subst this
       refine C6 pins s σ H _ _ v u Q I rx ry ⟨a,b,ws,rfl,rfl,hq.sq,mG.sq,p H ι _ Ext.refl G0 ?_⟩
       simp only[Rel,aaK]
       exact⟨b,ws,rfl,mG,lU⟩
     . refine He pins s σ H _ _ v u Q I rx ry ⟨a,b,vs,ws,rfl,rfl,hq.sq,mG.sq,hx,by rw[<- hr.length,<- lU.length];exact aD.le z,λe=>?_,λe q' b7=>?_⟩
       . subst e
         have:ys = []:=ab8 (by simpa using lU.length)
         subst this
         refine p H ι _ Ext.refl G0 ?_
         simp only[Rel,acx]
         exact⟨a,vs,rfl,hq,hr⟩
       . refine p _ _ _ (Ext.lay b7) (G0.lay b7) ?_
         simp only[Rel]
         exact⟨q',_,rfl,.inl ⟨.inl bC,G0.fresh b7⟩,ao.ext (Ext.lay b7) _ (ao.append hr lU)⟩
   . cases q
 . split at q
   . rename_i x1 y1 z
     cases q
     simp only[Rel]at r1 r2
     subst r1 r2
     exact yz pins s σ H _ _ v u Q I rx ry ⟨x1,y1,rfl,rfl,aD.le z,p H ι _ Ext.refl G0 (by simp[Rel])⟩
   . cases q
 . split at q
   . rename_i xs ys e1 e2
     split at q
     . rename_i z
       cases q
       obtain⟨a,vs,rfl,hq,hr⟩:=gF G0 r1 e1
       obtain⟨b,ws,rfl,mG,lU⟩:=gF G0 r2 e2
       refine HE pins s σ H _ _ v u Q I rx ry ⟨a,b,vs,ws,rfl,rfl,hq,mG,by rw[<- hr.length,<- lU.length];exact aD.le z,λq' b7=>?_⟩
       refine p _ _ _ (Ext.lay b7) (G0.lay b7) ?_
       simp only[Rel]
       exact⟨q',_,rfl,.inl ⟨.inl bC,G0.fresh b7,G0.iQ b7⟩,ao.ext (Ext.lay b7) _ (ao.append hr lU)⟩
     . cases q
   . cases q
abbrev FO:=Sg->G->Option (Option Int×G)
inductive Qu (K:KW)(f:FO)(σ:L2.St)(H:Hp)(Q:(Option Int->Hp->Prop)):Prop
 |mk (ι:Ix) (σd:Sg) (g:G) (o:Option Int) (g':G) (h0:aB K H ι g) (h1:bR K H ι σd σ) (h2:f σd g=some (o,g')) (h3:pI K H ι g' (Q o)):Qu K f σ H Q
structure DO (X:Cx)(e:Option Expr)(f:FO):Prop where of ::
 un:PO X e (Qu X.kw f)
theorem PO.imp {X:Cx}{e:Option Expr}{t t':TO}(h:PO X e t)(i:∀σ H Q,t' σ H Q->t σ H Q):PO X e t':=λpins s σ H Q I q=>h pins s σ H Q I (i σ H Q q)
noncomputable def cQ:FO:=λ_ g=>some (none,g)
noncomputable def cA (f:FE):FO:=λσ g=>(f σ g).bind λr=>match r.1 with|.int i=>some (some i,r.2)|_=>none
theorem HF:DO X none cQ:=.of (PO.imp Hb λσ H Q h=>by
 obtain⟨ι,σd,g,o,g',G0,S0,h,p⟩:=h
 cases h
 exact p H ι Ext.refl G0)
theorem HG {e:Expr}{f:FE}(h:DE X e f):DO X (some e) (cA f):=.of (PO.imp (Hc h.un) λσ H Q h=>by
 obtain⟨ι,σd,g,o,g',G0,S0,h,p⟩:=h
 obtain⟨⟨d,g1⟩,h1,h⟩:=bind_some h
 cases d with
 |int i =>
  cases h
  exact tD.bind G0 S0 h1 λH1 ι1 v e1 G1 S1 r1=>⟨i,by simpa[Rel]using r1,p H1 ι1 e1 G1⟩
 |_=>cases h)
noncomputable def cutD (xs:List D)(lo hi:Option Int):List D:=(xs.drop (HT.bG xs.length 0 lo)).take (HT.bG xs.length xs.length hi-HT.bG xs.length 0 lo)
noncomputable def gn (n:Nat)(lo hi:Option Int):Bool:=decide (HT.bG n 0 lo=0)&&decide (HT.bG n n hi=n)
noncomputable def pU (d:D)(lo hi:Option Int)(g:G):Option (D×G):=match d with
 |.tup xs=>if gn xs.length lo hi=true then none else some (.tup (cutD xs lo hi),g)
 |.lst xs=>some (.lst (cutD xs lo hi),g)
 |.ref n=>match g[n]? with|some xs=>some (.lst (cutD xs lo hi),g)|none=>none
 |_=>none
theorem ao.Lp {K H ι}{xs:List D}{vs:List V}(r:ao K H ι xs vs)(lo hi:Option Int):ao K H ι (cutD xs lo hi) (mq vs lo hi):=by
 unfold cutD mq
 rw[<- r.length]
 exact ao.take _ (ao.drop _ r)
noncomputable def Lq (K:KW):V->Option Int->Option Int->Hp->VK->Prop:=λx lo hi H Q=>Ka K x lo hi H Q\/Ki K x lo hi H Q
theorem HH:n_ X (Lq X.kw):=by
 intro pins s σ H x v vl vu lo hi sl Q I rx hs pl pu h
 rcases h with h|h
 . exact Kb pins s σ H x v vl vu lo hi sl Q I rx hs pl pu h
 . exact Hh pins s σ H x v vl vu lo hi sl Q I rx hs pl pu h
theorem big {pins:List (Addr×Obj)}{σ:L2.St}{H:Hp}{s:Zo}(I:Inv X pins σ H s):aa9<s.heap.objs.size:=by
 obtain⟨o,es,ep,e,_⟩:=I.mod.glob
 have h1:=Zz (I.bk _ _ e)
 exact Nat.lt_trans (by decide) h1
theorem C7 {pos:Pos}:DE X (.Dict [] [] pos) (fC .dA):=.of (by
 intro pins s σ H Q I h
 obtain⟨ι,σd,g,d,g',G0,S0,h,p⟩:=h
 cases h
 have hf:H s.heap.objs.size=none:=I.bK.fresh (Zy _)
 refine wpAny_Dict_empty ⟨.ref s.heap.objs.size,upd H s.heap.objs.size (.dK []),I.laid (t':=s.toks) (λb u e=>Zr _ e) (Zy _) ?_,rfl,p _ _ _ (Ext.lay hf) (G0.lay hf) ?_⟩
 . exact⟨aae _,beq_eq_false_iff_ne.mpr (acb (ZP (big I))),[],.nil,Heap.DictOf.new _⟩
 . simp only[Rel]
   exact⟨_,rfl,bC,G0.fresh hf⟩)
end
end L3
namespace L3
open PySem PySem.Spec PyProof.Rows L2
noncomputable def oLt:=pQ λi j=>decide (i<j)
noncomputable def oLe:=pQ λi j=>decide (i<=j)
noncomputable def oo:=pQ λi j=>decide (j<i)
noncomputable def AH:=pQ λi j=>decide (j<=i)
noncomputable def qS (S:Scope)(XN N:List Str)(fr:List (Option Nat))(scope:Scope):Bool :=
 decide (scope.kind = .function)&&scope.names.all (λy=>!decide (y.2 = .cell)||decide (scope.names.lookup y.1=some .cell))&&scope.names.all (λy=>!decide (y.2 = .local)||decide (scope.names.lookup y.1=some .local)) &&
 scope.names.all (λy=>!decide (y.2 = .free)||(decide (scope.names.lookup y.1=some .free)&&(decide (S.names.lookup y.1=some .cell)||decide (S.names.lookup y.1=some .free)))) &&
 decide (fr.length=N.length)&&(Zx fr.length).all (λj=>match fr[j]? with
  |some (some i)=>match N[j]? with
   |some x=>decide (XN[i]? = some x)&&decide (scope.names.lookup x=some .free)
   |none=>false
  |_=>true)
theorem AI {X:Cx}{N:List Str}{fr:List (Option Nat)}{scope:Scope}{S:Scope}{XN:List Str}(hS:X.env.scope=S)(hN:X.N=XN)(h:qS S XN N fr scope=true):fB X N fr scope:=by
 unfold qS at h
 simp only[Zn,decide_eq_true_eq,ZH,aag,Z2,decide_eq_false_iff_not]at h
 obtain⟨⟨⟨⟨⟨h1,h2⟩,h3⟩,h4⟩,h5⟩,h6⟩:=h
 refine⟨h1,λy hy e=>?_,λy hy e=>?_,λy hy e=>?_,h5,λj i hf=>?_⟩
 . rcases h2 y hy with z|z
   . exact absurd e z
   . exact z
 . rcases h3 y hy with z|z
   . exact absurd e z
   . exact z
 . rcases h4 y hy with z|z
   . exact absurd e z
   . refine⟨z.1,?_⟩
     show X.env.scope.names.lookup y.1=_\/X.env.scope.names.lookup y.1=_
     rw[hS];exact z.2
 . have hj:j∈Zx fr.length:=ZJ.mpr (Zs.mp hf).1
   have:=h6 j hj
   rw[hf]at this
   dsimp only at this
   split at this
   . rename_i x hx
     simp only[Zn,decide_eq_true_eq]at this
     exact⟨x,hx,by rw[hN];exact this.1,this.2⟩
   . cases this
noncomputable def bu (f:FE):FI:=λσ g=>(f σ g).bind λr=>match r.1 with|.tup xs=>some (xs,r.2)|.lst xs=>some (xs,r.2)|_=>none
theorem uY {X:Cx}{tg l:Expr}{fe:FE}(hl:DE X l fe):DI X tg l (bu fe):=.of (by
 intro pins s σ H R I h
 obtain⟨ι,σd,g,ds,g',G0,S0,h,p⟩:=h
 obtain⟨⟨d1,g1⟩,h1,h2⟩:=bind_some h
 cases d1 with
 |tup xs =>
  have h3:tL fe σd g=some (ds,g'):=by unfold tL;rw[h1];exact h2
  exact(KS hl).un pins s σ H R I ⟨ι,σd,g,ds,g',G0,S0,h3,p⟩
 |lst xs =>
  have h3:tM fe σd g=some (ds,g'):=by unfold tM;rw[h1];exact h2
  exact(KU hl).un pins s σ H R I ⟨ι,σd,g,ds,g',G0,S0,h3,p⟩
 |_=>cases h2)
end L3
namespace L3
open PySem L2
section
variable {σ:Sg}{g:G}{fa fb fc:FE}{fr:FA}{ga gb:FT}{f1 f2:FS}{o o':D->D->G->Option (D×G)}{fn:Fn}{t:FG}{ts:oh}
@[simp] theorem tO {d}:fC d σ g=some (d,g):=rfl
@[simp] theorem gL {i:Nat}:aa i σ g=(match σ[i]? with|some (some d)=>some (d,g)|_=>none):=rfl
@[simp] theorem pV:aj o fa fb σ g=(fa σ g).bind λr=>(fb σ r.2).bind λq=>o r.1 q.1 q.2:=rfl
@[simp] theorem Wm {o:D->G->Option (D×G)}:uG o fa σ g=(fa σ g).bind λr=>o r.1 r.2:=rfl
@[simp] theorem Wn {b:Bool}:jg (some (.bl b,g))=some (b,g):=rfl
@[simp] theorem Se:aF fa σ g=jg (fa σ g):=rfl
@[simp] theorem Qv:gU o o' fa fb fc σ g=(fa σ g).bind λr=>(fb σ r.2).bind λq=>(jg (o r.1 q.1 q.2)).bind λk=>if k.1=true then(fc σ k.2).bind λw=>o' q.1 w.1 w.2 else some (.bl false,k.2):=rfl
@[simp] theorem U7:bN fa σ g=(fa σ g).bind λr=>(gE r.1 r.2).map λb=>(b,r.2):=rfl
@[simp] theorem Qw {b:Bool}:gE (.bl b) g=some b:=rfl
@[simp] theorem Ph {i:Int}:gE (.int i) g=some (i != 0):=rfl
@[simp] theorem HI:fX ga gb σ g=(ga σ g).bind λr=>if r.1=true then gb σ r.2 else some (false,r.2):=rfl
@[simp] theorem Wo:gW ga gb σ g=(ga σ g).bind λr=>if r.1=true then some (true,r.2)else gb σ r.2:=rfl
@[simp] theorem U8:b5 ga σ g=(ga σ g).bind λr=>some (!r.1,r.2):=rfl
@[simp] theorem Sf:dS fa fb σ g=(jg (fa σ g)).bind λr=>if r.1=true then fb σ r.2 else some (.bl false,r.2):=rfl
@[simp] theorem U9:mw fa fb σ g=(jg (fa σ g)).bind λr=>if r.1=true then some (.bl true,r.2)else fb σ r.2:=rfl
@[simp] theorem Si:pL fa σ g=(jg (fa σ g)).bind λr=>some (.bl (!r.1),r.2):=rfl
@[simp] theorem U_:oK ga fa fb σ g=(ga σ g).bind λr=>if r.1=true then fa σ r.2 else fb σ r.2:=rfl
@[simp] theorem ny:ag σ g=some ([],g):=rfl
@[simp] theorem jM:af fa fr σ g=(fa σ g).bind λr=>(fr σ r.2).bind λq=>some (r.1::q.1,q.2):=rfl
@[simp] theorem Lr {m:List D->G->Option (D×G)}:aO m fr σ g=(fr σ g).bind λr=>m r.1 r.2:=rfl
theorem HJ {n:Nat}:aD n=decide (n<=16777216):=rfl
@[simp] theorem Pj {n:Nat}(h:n<=16777216):aD n=true:=decide_eq_true h
@[simp] theorem Qx {ds:List D}:aJ ds g=if aD ds.length=true then some (.tup ds,g)else none:=rfl
@[simp] theorem Qy {ds:List D}:c_ ds g=if aD ds.length=true then some (.lst ds,g)else none:=rfl
@[simp] theorem Qz {ds:List D}:mkRef ds g=if aD ds.length=true then some (.ref g.length,g ++ [ds])else none:=rfl
@[simp] theorem Sj:aL σ g=some (.nx,σ,g):=rfl
@[simp] theorem bV:av f1 f2 σ g=(f1 σ g).bind λr=>match r.1 with|.nx=>f2 r.2.1 r.2.2|_=>some r:=rfl
@[simp] theorem qT:aG fa σ g=(fa σ g).bind λr=>some (.rt r.1,σ,r.2):=rfl
@[simp] theorem fE:bq ga f1 f2 σ g=(ga σ g).bind λr=>if r.1=true then f1 σ r.2 else f2 σ r.2:=rfl
@[simp] theorem Sk:da fa σ g=(fa σ g).bind λr=>some (.nx,σ,r.2):=rfl
@[simp] theorem HK:aA fa t σ g=(fa σ g).bind λr=>(t r.1 σ r.2).bind λq=>some (.nx,q.1,q.2):=rfl
@[simp] theorem Pl {i:Nat}{d:D}:gN i d σ g=some (σ.set i (some d),g):=rfl
@[simp] theorem Sl:aM [] σ g=some (σ,g):=rfl
@[simp] theorem QA {d:D}{r:List D}:au t ts (d::r) σ g=(t d σ g).bind λq=>ts r q.1 q.2:=rfl
@[simp] theorem Ys {n:Nat}{xs:List D}:gT n ts (.tup xs) σ g=if xs.length=n then ts xs σ g else none:=rfl
@[simp] theorem oR:aq fn fr σ g=(fr σ g).bind λr=>fn r.1 r.2:=rfl
@[simp] theorem Va {T:Ty}:iy T fa σ g=(fa σ g).bind λr=>if isFn r.1=true then none else some (.bl (gK T r.1),r.2):=rfl
@[simp] theorem kJ {i:FI}:cj i t f1 σ g=(i σ g).bind λr=>forL t f1 r.1 σ r.2:=rfl
@[simp] theorem Vb:bu fa σ g=(fa σ g).bind λr=>match r.1 with|.tup xs=>some (xs,r.2)|.lst xs=>some (xs,r.2)|_=>none:=rfl
@[simp] theorem Sm:tL fa σ g=(fa σ g).bind λr=>match r.1 with|.tup xs=>some (xs,r.2)|_=>none:=rfl
@[simp] theorem Sn:tM fa σ g=(fa σ g).bind λr=>match r.1 with|.lst xs=>some (xs,r.2)|_=>none:=rfl
@[simp] theorem C8 {mk:List D->G->Option (D×G)}{fi:FI}{fr:List (Option Nat)}{c:FT}:aU mk fi fr t c fa σ g=(fi σ g).bind λr=>if aD r.1.length=true then(b6 t c fa r.1 (bH fr σ) r.2).bind λq=>mk q.1 q.2 else none:=rfl
@[simp] theorem Vc {ds:List D}:aV ds g=some (.lst ds,g):=rfl
@[simp] theorem So:aN σ g=some (true,g):=rfl
@[simp] theorem Wq {c:Int->Int->Bool}{f:Int->Int->Int}{i j:Int}:aP c f (.int i) (.int j) g=if c i j=true then some (.int (f i j),g)else none:=rfl
@[simp] theorem Sq {i j:Int}:a_ i j=true:=rfl
@[simp] theorem Wr {i j:Int}:oLt (.int i) (.int j) g=some (.bl (decide (i<j)),g):=rfl
@[simp] theorem Ws {i j:Int}:oLe (.int i) (.int j) g=some (.bl (decide (i<=j)),g):=rfl
@[simp] theorem Wt {i j:Int}:oo (.int i) (.int j) g=some (.bl (decide (j<i)),g):=rfl
@[simp] theorem Wu {i j:Int}:AH (.int i) (.int j) g=some (.bl (decide (j<=i)),g):=rfl
@[simp] theorem Vd {i:Int}:oP (.int i) g=some (.int (-i),g):=rfl
@[simp] theorem Ve {i j:Int}:aR (.int i) (.int j) g=some (.int (i+j),g):=rfl
@[simp] theorem Vf {i j:Int}:b8 (.int i) (.int j) g=if cT i j=true then some (.int (i*j),g)else none:=rfl
@[simp] theorem Wv {d:D}{i:Int}:sH d (.int i) g=(b4 d g).bind λxs=>(d6 xs i).map λe=>(e,g):=rfl
@[simp] theorem Vg {xs:List D}:b4 (.tup xs) g=some xs:=rfl
@[simp] theorem Vh {xs:List D}:b4 (.lst xs) g=some xs:=rfl
@[simp] theorem Vi {n:Nat}:b4 (.ref n) g=g[n]?:=rfl
@[simp] theorem Vj {d:D}:cu [d] g=(b4 d g).map λxs=>(.int xs.length,g):=rfl
@[simp] theorem Vk {i j:Int}:mE [.int i,.int j] g=some (.int (if j>i then j else i),g):=rfl
@[simp] theorem Vm {i j:Int}:qQ [.int i,.int j] g=some (.int (if j<i then j else i),g):=rfl
@[simp] theorem Sr {k:Bool}:fY [.bl k] g=some (.int (if k then 1 else 0),g):=rfl
@[simp] theorem Ss {i:Int}:fY [.int i] g=some (.int i,g):=rfl
@[simp] theorem Vn {d:D}:cO [d] g=(b4 d g).bind λxs=>if aD xs.length=true then some (.tup xs,g)else none:=rfl
@[simp] theorem Vo {d:D}:yP [d] g=(b4 d g).bind λxs=>if aD xs.length=true then some (.lst xs,g)else none:=rfl
@[simp] theorem Vp {xs:List D}:eZ [.lst xs] g=(bools xs).map λbs=>(.bl (bs.all id),g):=rfl
@[simp] theorem Vq {i j:Int}:oEq (.int i) (.int j) g=some (.bl (i == j),g):=rfl
@[simp] theorem Vr {i j:Bool}:oEq (.bl i) (.bl j) g=some (.bl (i == j),g):=rfl
@[simp] theorem Vs {i j:Str}:oEq (.str i) (.str j) g=some (.bl (i == j),g):=rfl
@[simp] theorem Vt {d:D}:C5 d .az g=some (.bl (cK d),g):=rfl
@[simp] theorem Su {d:D}:yO d .az g=some (.bl (!cK d),g):=rfl
theorem bQ {nN nP:Nat}{ds:List D}{b:FS}{σ':Sg}{d:D}{g':G}(hl:ds.length=nP)(h:b (ds.map some++ZR (nN-nP) none) g=some (.rt d,σ',g'))(hg:g'.length=g.length):aC false nN nP b ds g=some (d,g'):=by
 unfold aC
 rw[if_pos hl,h]
 have e:settle g.length d g'=some (d,g'):=by
  unfold settle
  rw[if_pos hg]
 simpa using e
theorem xu {nN nP:Nat}{ds:List D}{b:FS}{σ':Sg}{d:D}{g':G}(hl:ds.length=nP)(h:b (ds.map some++ZR (nN-nP) none) g=some (.rt d,σ',g')):aC true nN nP b ds g=some (d,g'):=by
 unfold aC
 rw[if_pos hl,h]
 rfl
end
theorem eO {t:FG}{c:FT}{e:FE}{h:D->D}(I:Sg->Prop):∀(ds:List D) (σ:Sg) (g:G),I σ->(∀d∈ds,∀σ,I σ->∃σ1,t d σ g=some (σ1,g)/\c σ1 g=some (true,g)/\e σ1 g=some (h d,g)/\I σ1)->b6 t c e ds σ g=some (ds.map h,g)
 | [],_,_,_,_=>rfl
 |d::ds,σ,g,hi,hh=>by
  obtain⟨σ1,h1,h2,h3,h4⟩:=hh d ZO σ hi
  simp only[b6,h1,h2,h3,Zv,if_true,eO I ds σ1 g h4 λx hx=>hh x (ZQ _ hx),ZT]
theorem dX {α:Type}(f:α->Bool):∀xs:List α,bools (xs.map λx=>D.bl (f x))=some (xs.map f)
 | []=>rfl
 |x::xs=>by simp only[ZT,bools,dX f xs,aab]
@[simp] theorem Sv {α:Type}{σ:List (Option α)}:bH [] σ = []:=rfl
@[simp] theorem QB {α:Type}{σ:List (Option α)}{fr:List (Option Nat)}:bH (none::fr) σ=none::bH fr σ:=rfl
@[simp] theorem QC {α:Type}{σ:List (Option α)}{fr:List (Option Nat)}{i:Nat}:bH (some i::fr) σ=(σ[i]?).join::bH fr σ:=rfl
end L3
namespace L3
open PySem PySem.Spec PyProof.Rows L2
noncomputable def yT (c:Bool):D->Bool
 |.bl b=>b == c
 |_=>false
noncomputable def isLit (d1 d2:D):Option Bool:=match d2 with
 |.az=>some (cK d1)
 |.bl c=>some (yT c d1)
 |_=>none
noncomputable def xw (d1 d2:D)(g:G):Option (D×G):=(isLit d1 d2).map λb=>(.bl b,g)
noncomputable def cD (d1 d2:D)(g:G):Option (D×G):=(isLit d1 d2).map λb=>(.bl (!b),g)
section
variable {X:Cx}
theorem AJ {K H ι d v u c}(r:Rel K H ι d v)(rx:RelV v u):(u == abA c)=yT c d/\PySem.plainIs u (.bool c)=true:=by
 cases d with
 |az=>simp only[Rel]at r;subst r;cases rx;exact⟨rfl,rfl⟩
 |bl b=>simp only[Rel]at r;subst r;cases rx;exact⟨by cases b<;>cases c<;>rfl,rfl⟩
 |int _=>simp only[Rel]at r;subst r;obtain⟨t,rfl⟩:=rx;exact⟨rfl,rfl⟩
 |str _=>simp only[Rel]at r;subst r;obtain⟨t,rfl⟩:=rx;exact⟨rfl,rfl⟩
 |tup _=>simp only[Rel]at r;obtain⟨a,vs,rfl,_⟩:=r;cases rx;exact⟨rfl,rfl⟩
 |lst _=>simp only[Rel]at r;obtain⟨a,vs,rfl,_⟩:=r;cases rx;exact⟨rfl,rfl⟩
 |dA=>simp only[Rel]at r;obtain⟨a,rfl,_⟩:=r;cases rx;exact⟨rfl,rfl⟩
 |ref _=>simp only[Rel]at r;obtain⟨a,rfl,_⟩:=r;cases rx;exact⟨rfl,rfl⟩
 |aI _=>simp only[Rel]at r;obtain⟨a,rfl,_⟩:=r;cases rx;exact⟨rfl,rfl⟩
 |fn _=>simp only[Rel]at r;obtain⟨a,rfl,_⟩:=r;cases rx;exact⟨rfl,rfl⟩
theorem Pm:bB X (Z8 .Is) (cJ X.kw xw):=by
 intro pins s σ H x y v u Q I rx ry q
 obtain⟨ι,g,d1,d2,d,g',G0,r1,r2,q,p⟩:=q
 cases d2 with
 |az=>exact Lc pins s σ H x y v u Q I rx ry ⟨ι,g,d1,.az,d,g',G0,r1,r2,q,p⟩
 |bl c =>
  simp only[Rel]at r2;subst r2;cases ry
  simp only[xw,isLit,aab]at q
  cases q
  obtain⟨e,z⟩:=AJ (c:=c) r1 rx
  refine wpAny_is_plain z ?_
  rw[e]
  exact⟨.bl _,H,I,rfl,p H ι _ Ext.refl G0 (by simp[Rel])⟩
 |_=>cases q
theorem HL:bB X (Z8 .IsNot) (cJ X.kw cD):=by
 intro pins s σ H x y v u Q I rx ry q
 obtain⟨ι,g,d1,d2,d,g',G0,r1,r2,q,p⟩:=q
 cases d2 with
 |az=>exact Hz pins s σ H x y v u Q I rx ry ⟨ι,g,d1,.az,d,g',G0,r1,r2,q,p⟩
 |bl c =>
  simp only[Rel]at r2;subst r2;cases ry
  simp only[cD,isLit,aab]at q
  cases q
  obtain⟨e,z⟩:=AJ (c:=c) r1 rx
  refine wpAny_isNot_plain z ?_
  rw[e]
  exact⟨.bl _,H,I,rfl,p H ι _ Ext.refl G0 (by simp[Rel])⟩
 |_=>cases q
end
@[simp] theorem Ww {d1 d2:D}{g:G}:xw d1 d2 g=(isLit d1 d2).map λb=>(.bl b,g):=rfl
@[simp] theorem Sw {d1 d2:D}{g:G}:cD d1 d2 g=(isLit d1 d2).map λb=>(.bl (!b),g):=rfl
@[simp] theorem QD {d1:D}:isLit d1 .az=some (cK d1):=rfl
@[simp] theorem QE {d:D}{c:Bool}:isLit d (.bl c)=some (yT c d):=rfl
@[simp] theorem Vu {b c:Bool}:yT c (.bl b)=(b == c):=rfl
noncomputable def Ix.none (ι:Ix):Ix:=⟨[],ι.ix++ι.hd,ι.kd⟩
noncomputable def C9:HO->Bool
 |.tup _=>true
 |.kq _ _=>true
 |.dK _=>true
 |_=>false
mutual
theorem Rel.toN {K H ι}:∀(d:D) {v:V},bz 0 d=true->Rel K H ι d v->Rel K H (Ix.none ι) d v
 |.az,v,_,h=>by simpa[Rel]using h
 |.bl _,v,_,h=>by simpa[Rel]using h
 |.int _,v,_,h=>by simpa[Rel]using h
 |.str _,v,_,h=>by simpa[Rel]using h
 |.tup xs,v,z,h=>by
  simp only[Rel]at h ⊢
  obtain⟨a,vs,e1,hq,hr⟩:=h
  refine⟨a,vs,e1,?_,ao.toN xs z hr⟩
  rcases hq with⟨hq,hn⟩|hq
  . exact .inl ⟨hq,by simp[Ix.none]⟩
  . exact .inr hq
 |.lst xs,v,z,h=>by
  simp only[Rel]at h ⊢
  obtain⟨a,vs,e1,hq,hr⟩:=h
  refine⟨a,vs,e1,?_,ao.toN xs z hr⟩
  rcases hq with⟨hq,hn,hh⟩|hq
  . exact .inl ⟨hq,by simp[Ix.none],λm=>(Zw.mp m).elim hn hh⟩
  . exact .inr hq
 |.dA,v,_,h=>by
  simp only[Rel]at h ⊢
  obtain⟨a,e1,hq,hr⟩:=h
  exact⟨a,e1,hq,by simp[Ix.none]⟩
 |.ref k,v,z,h=>by simp[bz]at z
 |.aI k,v,z,h=>by simp[bz]at z
 |.fn x,v,_,h=>by simpa[Rel]using h
theorem ao.toN {K H ι}:∀(ds:List D) {vs:List V},aY 0 ds=true->ao K H ι ds vs->ao K H (Ix.none ι) ds vs
 | [],vs,_,h=>by simpa[ao]using h
 |d::ds,vs,z,h=>by
  simp only[ao]at h ⊢
  simp only[aY,Zn]at z
  obtain⟨v,vr,e1,hq,hr⟩:=h
  exact⟨v,vr,e1,Rel.toN d z.1 hq,ao.toN ds z.2 hr⟩
end
mutual
theorem Rel.xx {K H ι ι'}(hh:ι'.hd=ι.ix++ι.hd)(hl:∀a∈ι.ix,∃o,H a=some o/\C9 o=false):∀(d:D) {v:V},bz 0 d=true->Rel K H ι' d v->Rel K H ι d v
 |.az,v,_,h=>by simpa[Rel]using h
 |.bl _,v,_,h=>by simpa[Rel]using h
 |.int _,v,_,h=>by simpa[Rel]using h
 |.str _,v,_,h=>by simpa[Rel]using h
 |.tup xs,v,z,h=>by
  simp only[Rel]at h ⊢
  obtain⟨a,vs,e1,hq,hr⟩:=h
  refine⟨a,vs,e1,?_,ao.xx hh hl xs z hr⟩
  rcases hq with⟨hq,hn⟩|hq
  . refine .inl ⟨hq,λm=>?_⟩
    obtain⟨us,e,f⟩:=hl a m
    rcases hq with hq|⟨o,hq⟩<;>rw[e]at hq<;>cases hq<;>cases f
  . exact .inr hq
 |.lst xs,v,z,h=>by
  simp only[Rel]at h ⊢
  obtain⟨a,vs,e1,hq,hr⟩:=h
  refine⟨a,vs,e1,?_,ao.xx hh hl xs z hr⟩
  rcases hq with⟨hq,hn,hk⟩|hq
  . rw[hh]at hk
    exact .inl ⟨hq,λm=>hk (Zw.mpr (.inl m)),λm=>hk (Zw.mpr (.inr m))⟩
  . exact .inr hq
 |.dA,v,_,h=>by
  simp only[Rel]at h ⊢
  obtain⟨a,e1,hq,hr⟩:=h
  refine⟨a,e1,hq,λm=>?_⟩
  obtain⟨us,e,f⟩:=hl a m
  rw[e]at hq;cases hq;cases f
 |.ref k,v,z,h=>by simp[bz]at z
 |.aI k,v,z,h=>by simp[bz]at z
 |.fn x,v,_,h=>by simpa[Rel]using h
theorem ao.xx {K H ι ι'}(hh:ι'.hd=ι.ix++ι.hd)(hl:∀a∈ι.ix,∃o,H a=some o/\C9 o=false):∀(ds:List D) {vs:List V},aY 0 ds=true->ao K H ι' ds vs->ao K H ι ds vs
 | [],vs,_,h=>by simpa[ao]using h
 |d::ds,vs,z,h=>by
  simp only[ao]at h ⊢
  simp only[aY,Zn]at z
  obtain⟨v,vr,e1,hq,hr⟩:=h
  exact⟨v,vr,e1,Rel.xx hh hl d z.1 hq,ao.xx hh hl ds z.2 hr⟩
end
theorem aB.lst {K H ι g}(h:aB K H ι g){a:Addr}(ha:a∈ι.ix):∃o,H a=some o/\C9 o=false:=by
 obtain⟨i,hi,e⟩:=aax.mp ha
 have hg:i<g.length:=by rw[<- h.len];exact hi
 obtain⟨b,o,vs,hb,h1,ov,_⟩:=h.at_ i _ (Zq hg)
 rw[Zq hi,e]at hb
 cases hb
 generalize ι.kd i=kk at ov
 exact⟨o,h1,by cases ov<;>rfl⟩
noncomputable def mH (fn:Fn):Fn:=λds g=>if aY 0 ds=true then(fn ds []).bind λr=>if bz 0 r.1=true then some (r.1,g)else none else none
theorem oq {fn:Fn}{ds g d g'}(h:mH fn ds g=some (d,g')):aY 0 ds=true/\(∃gx,fn ds []=some (d,gx))/\bz 0 d=true/\g'=g:=by
 unfold mH at h
 split at h
 . rename_i z
   obtain⟨⟨d1,g1⟩,h1,h⟩:=bind_some h
   split at h
   . rename_i z2
     cases h
     exact⟨z,⟨g1,h1⟩,z2,rfl⟩
   . cases h
 . cases h
theorem HM {P:ZY}{K:KW}{base:Heap}{k n f fd ps}{fn:Fn}(F:dM P K.w K.fr K.mg base je k f fd ps (my K n fn)):dM P K.w K.fr K.mg base je k f fd ps (my K n (mH fn)):=
 dM.imp F λvs H Q E ⟨hl,ι,g,ds,d,g',G0,r,h,p⟩=>by
  obtain⟨z,⟨gx,hx⟩,z2,rfl⟩:=oq h
  refine⟨hl,Ix.none ι,[],ds,d,gx,⟨acK,rfl,λb hb=>⟨by simp[Ix.none],?_⟩,λi xs q=>by simp at q⟩,ao.toN ds z r,hx,λH' ι' v e G1 rv=>?_⟩
  . rcases Zw.mp hb with m|m
    . exact G0.rW m
    . exact(G0.cL b m).2
  . have same:∀a∈ι.ix,H' a=H a:=λa ha=>by
      obtain⟨vs,ev,_⟩:=G0.lst ha
      rw[ev]
      exact e.same a _ ev (by simp[Ix.none])
    have e0:Ext H ι H' ι:=⟨λa o q _=>e.same a o q (by simp[Ix.none]),e.there,⟨[],by simp,λ_ q=>by simp at q⟩,rfl,λ_ _=>rfl⟩
    refine p H' ι v e0 (G0.ext e0 same) (Rel.xx e.cL (λa ha=>?_) d z2 rv)
    obtain⟨vs,ev,f⟩:=G0.lst ha
    exact⟨vs,by rw[same a ha];exact ev,f⟩
theorem yU {fn:Fn}{n:Nat}(h:∀ds g r,fn ds g=some r->ds.length=n):∀ds g r,mH fn ds g=some r->ds.length=n:=λds g r q=>by
 obtain⟨_,⟨gx,hx⟩,_⟩:=oq (d:=r.1) (g':=r.2) q
 exact h _ _ _ hx
end L3
namespace L3
open PySem L2
def wp {α:Type}(o:Option α)(Q:α->Prop):Prop:=∃a,o=some a/\Q a
section
variable {α β:Type}{o:Option α}{Q R:α->Prop}
@[simp] theorem gM {a:α}:wp (some a) Q=Q a:=by simp[wp]
@[simp] theorem Vv:wp (none:Option α) Q=False:=by simp[wp]
@[simp] theorem wp_bind {f:α->Option β}{Q:β->Prop}:wp (o.bind f) Q=wp o λa=>wp (f a) Q:=by
 cases o<;>simp[wp]
@[simp] theorem wp_map {f:α->β}{Q:β->Prop}:wp (o.map f) Q=wp o λa=>Q (f a):=by
 cases o<;>simp[wp]
theorem wp_mono (h:wp o R)(i:∀a,R a->Q a):wp o Q:=let⟨a,e,r⟩:=h;⟨a,e,i a r⟩
end
@[simp] theorem Wx {o:Option (D×G)}{Q:Bool×G->Prop}:wp (jg o) Q=wp o λr=>∃b,r.1 = .bl b/\Q (b,r.2):=by
 cases o with
 |none=>simp[jg]
 |some r =>
  obtain⟨d,g⟩:=r
  cases d with
  |bl b=>cases b<;>simp[jg]
  |_=>simp[jg]
section
variable {σ:Sg}{g:G}{fa:FE}{fl fh:FO}
@[simp] theorem Sx {xs ys:List D}:aR (.tup xs) (.tup ys) g=if aD (xs.length+ys.length)=true then some (.tup (xs++ys),g)else none:=rfl
@[simp] theorem Sy {xs ys:List D}:aR (.lst xs) (.lst ys) g=if aD (xs.length+ys.length)=true then some (.lst (xs++ys),g)else none:=rfl
@[simp] theorem Sz {x y:Str}:aR (.str x) (.str y) g=if aD (x.length+y.length)=true then some (.str (x++y),g)else none:=rfl
@[simp] theorem HN:cQ σ g=some (none,g):=rfl
@[simp] theorem C_:cA fa σ g=(fa σ g).bind λr=>match r.1 with|.int i=>some (some i,r.2)|_=>none:=rfl
theorem Ls {xs:List D}{k:Int}(h1:k<=1000)(h0:-1000<=k)(h2:xs.length<=1000):b8 (.tup xs) (.int k) g=some (.tup (ZR k.toNat xs).flatten,g):=by
 show(if(gI k&&aD (xs.length*k.toNat))=true then some (D.tup (ZR k.toNat xs).flatten,g)else none)=_
 rw[if_pos]
 have hk:k.toNat<=1000:=by omega
 have:xs.length*k.toNat<=1000*1000:=Nat.mul_le_mul h2 hk
 rw[gI.of (by omega) (by omega),Pj (by omega)]
 rfl
theorem AK {n a:Nat}(h:a<=n):HT.bG n n (some (a:Int))=a:=by rw[HT.kA];omega
theorem uZ {n a:Nat}(h:a<=n):HT.bG n 0 (some (a:Int))=a:=by rw[HT.kA];omega
theorem tP {xs:List D}{a:Nat}(h:a<xs.length):pU (.tup xs) none (some (a:Int)) g=some (.tup (xs.take a),g):=by
 have hw:gn xs.length none (some (a:Int))=false:=by
  unfold gn
  rw[AK (abT h)]
  simp;omega
 simp only[pU,hw,ZG,if_false]
 unfold cutD
 rw[AK (abT h),HT.kW]
 simp
theorem qU {xs:List D}{a:Nat}(h:a<xs.length):pU (.tup xs) (some ((a:Int)+1)) none g=some (.tup (xs.drop (a+1)),g):=by
 have e:(a:Int)+1=((a+1:Nat):Int):=by simp
 rw[e]
 have hw:gn xs.length (some ((a+1:Nat):Int)) none=false:=by
  unfold gn
  rw[uZ h]
  simp
 simp only[pU,hw,ZG,if_false]
 unfold cutD
 rw[uZ h,HT.kW,aa8 (by simp)]
end
theorem iz {t:FG}{b:FS}{Q:F×Sg×G->Prop}(I:Nat->Sg->G->Prop):∀(ds:List D) (i:Nat) (σ:Sg) (g:G),I i σ g ->
  (∀(j:Nat) (d:D) σ g,ds[j]? = some d->I (i+j) σ g->wp (t d σ g) λq=>wp (b q.1 q.2) λr=>match r.1 with
   |.nx=>I (i+j+1) r.2.1 r.2.2
   |.ct=>I (i+j+1) r.2.1 r.2.2
   |.bk=>Q (.nx,r.2.1,r.2.2)
   |.rt d=>Q (.rt d,r.2.1,r.2.2))->(∀σ g,I (i+ds.length) σ g->Q (.nx,σ,g))->wp (forL t b ds σ g) Q
 | [],i,σ,g,hi,_,he=>by simp only[forL,gM];exact he σ g hi
 |d::ds,i,σ,g,hi,hs,he=>by
  simp only[forL,wp_bind]
  refine wp_mono (hs 0 d σ g rfl hi) λq hq=>wp_mono hq λr hr=>?_
  have go:I (i+0+1) r.2.1 r.2.2->wp (forL t b ds r.2.1 r.2.2) Q:=λz =>
   iz I ds (i+1) _ _ z (λj d σ g e h=>by
    have q:=hs (j+1) d σ g (by simpa using e) (by rw[show i+(j+1)=i+1+j by omega];exact h)
    rw[show i+(j+1)+1=i+1+j+1 by omega]at q
    exact q) λσ g h=>he σ g (by rw[abc,show i+(ds.length+1)=i+1+ds.length by omega];exact h)
  obtain⟨r1,r2⟩:=r
  cases r1 with
  |nx=>exact go hr
  |ct=>exact go hr
  |bk=>simp only[gM];exact hr
  |rt d=>simp only[gM];exact hr
theorem fN {nN nP:Nat}{b:FS}{ds:List D}{g:G}{Q:D×G->Prop}(hl:ds.length=nP)(h:wp (b (ds.map some++ZR (nN-nP) none) g) λr=>match r.1 with
  |.rt d=>bz g.length d=true/\(r.2.2.take g.length).all (aY g.length)=true/\g.length<=r.2.2.length/\Q (d,r.2.2.take g.length)
  |.nx=>(r.2.2.take g.length).all (aY g.length)=true/\g.length<=r.2.2.length/\Q (.az,r.2.2.take g.length)
  |_=>False):wp (aC false nN nP b ds g) Q:=by
 obtain⟨⟨r,σ,g'⟩,e,q⟩:=h
 unfold aC
 rw[if_pos hl,e]
 have fin:∀d,bz g.length d=true->(g'.take g.length).all (aY g.length)=true->g.length<=g'.length->Q (d,g'.take g.length)->wp (settle g.length d g') Q:=λd z1 z2 z3 z4=>by
  by_cases hg:g'.length=g.length
  . rw[aa8 (by omega)]at z4
    exact⟨_,by unfold settle;rw[if_pos hg],z4⟩
  . refine⟨_,?_,z4⟩
    unfold settle
    rw[if_neg hg,if_pos z2]
    cases d with
    |ref k =>
     have z:k<g.length:=by simpa[bz]using z1
     simp only[if_pos z]
    |_=>simp only[if_pos z1]
 cases r with
 |rt d =>
  obtain⟨q1,q2,q3,q4⟩:=q
  exact fin d q1 q2 q3 q4
 |nx =>
  obtain⟨q2,q3,q4⟩:=q
  exact fin .az rfl q2 q3 q4
 |bk=>exact q.elim
 |ct=>exact q.elim
end L3
namespace L3
open PySem PySem.Spec PyProof.Rows L2
open SeqAt
noncomputable def dw:D->Bool
 |.az=>true
 |.bl _=>true
 |.int _=>true
 |.str _=>true
 |_=>false
noncomputable def toV:D->V
 |.bl b=>.bl b
 |.int i=>.int i
 |.str x=>.str x
 |_=>.az
theorem nz {K H ι d v}(h:dw d=true)(r:Rel K H ι d v):v=toV d/\jn v=true:=by
 cases d with
 |az=>simp only[Rel]at r;subst r;exact⟨rfl,rfl⟩
 |bl _=>simp only[Rel]at r;subst r;exact⟨rfl,rfl⟩
 |int _=>simp only[Rel]at r;subst r;exact⟨rfl,rfl⟩
 |str _=>simp only[Rel]at r;subst r;exact⟨rfl,rfl⟩
 |_=>cases h
theorem qV {K H ι d}(h:dw d=true):Rel K H ι d (toV d):=by
 cases d with
 |az=>simp[Rel,toV]
 |bl _=>simp[Rel,toV]
 |int _=>simp[Rel,toV]
 |str _=>simp[Rel,toV]
 |_=>cases h
theorem oS {K H ι}:∀{xs:List D} {vs:List V},xs.all dw=true->ao K H ι xs vs->vs=xs.map toV/\vs.all jn=true
 | [],vs,_,r=>by simp only[ao]at r;subst r;exact⟨rfl,rfl⟩
 |d::xs,vs,h,r=>by
  simp only[ao]at r
  obtain⟨v,vr,rfl,r1,r2⟩:=r
  rw[acu,Zn]at h
  obtain⟨e1,f1⟩:=nz h.1 r1
  obtain⟨e2,f2⟩:=oS h.2 r2
  subst e1 e2
  exact⟨rfl,by rw[acu,f1,f2];rfl⟩
theorem u3 {K H ι}:∀{xs:List D},xs.all dw=true->ao K H ι xs (xs.map toV)
 | [],_=>by simp[ao]
 |d::xs,h=>by
  rw[acu,Zn]at h
  simp only[ZT,ao]
  exact⟨_,_,rfl,qV h.1,u3 h.2⟩
theorem Pn {a b:D}(ha:dw a=true)(hb:dw b=true):sm (toV a) (toV b)=aH a b:=by
 cases a<;>cases b<;>first| (simp[toV,sm,aH];done)| (simp[dw]at ha;done)| (simp[dw]at hb;done)
section
variable {X:Cx}
noncomputable def qW (fa fb:FE):FE:=λσ g=>(fa σ g).bind λr=>(gE r.1 r.2).bind λc=>if c=true then some r else fb σ r.2
theorem Lu {a b:Expr}{rest:List Expr}{pos:Pos}{fa fb:FE}(ha:DE X a fa)(hb:DE X (.BoolOp .Or (b::rest) pos) fb):DE X (.BoolOp .Or (a::b::rest) pos) (qW fa fb):=.of (by
 intro pins s σ H Q I h
 obtain⟨ι,σd,g,d,g',G0,S0,h,p⟩:=h
 obtain⟨⟨d1,g1⟩,h1,h⟩:=bind_some h
 obtain⟨c,h2,h⟩:=bind_some h
 have hA:=ha.un pins s σ H (λx H1=>∃ι1,Ext H ι H1 ι1/\aB X.kw H1 ι1 g1/\bR X.kw H1 ι1 σd σ/\Rel X.kw H1 ι1 d1 x) I ⟨ι,σd,g,d1,g1,G0,S0,h1,λH1 ι1 v e1 G1 r1=>⟨ι1,e1,G1,S0.ext e1,r1⟩⟩
 refine BoolOp_or (bp hA λv s1 ⟨x,H1,I1,r1,ι1,e1,G1,S1,rd⟩=>?_)
 have hT:=z7 pins s1 σ H1 x v (λk H'=>k=c/\H'=H1) I1 r1 ⟨c,xf G1 rd h2,rfl,rfl⟩
 refine bp hT λk s2 ⟨H2,I2,e2,e3⟩=>?_
 subst e2 e3
 cases k with
 |true =>
  simp only[if_true]at h ⊢
  cases h
  exact⟨x,_,I2,r1,p _ ι1 x e1 G1 rd⟩
 |false =>
  simp only[ZG,if_false]at h ⊢
  exact hb.un pins s2 σ _ Q I2 ⟨ι1,σd,g1,d,g',G1,S1,h,p.mono e1⟩)
end
def SA (K:KW)(d:D)(v:V):Prop:=(dw d=true/\v=toV d) \/
 ∃xs a o aw n,d = .tup xs/\xs.all dw=true/\v = .ref a/\K.fr.lookup a=some o/\o.cls = .type "tuple" /\ o.dict=none/\o.data = .seq aw n/\aw.size<=ZM/\Vals (xs.map toV) aw.toList
noncomputable def EU (w:World)(K:KW):List ZX->List (Str×D)->Prop
 | [],jX=>jX = []
 |e::es,jX=>∃x d rest,jX=(x,d)::rest/\(∃t,e.key = .str x t)/\e.hash=hashStr w x/\(∃v,RelV v e.val/\SA K d v)/\EU w K es rest
structure tQ (w:World)(K:KW)(a:Addr)(jX:List (Str×D)):Prop where
 ex:∃o es ep,K.fr.lookup a=some o/\o.ExactDict/\o.data = .dict es ep/\EU w K es.toList jX
 sys:(a == aa9)=false
section
variable {X:Cx}{a:Addr}{jX:List (Str×D)}
noncomputable def iA (xs:List D)(d:D):Option Nat:=xs.findIdx? λy=>aH y d
end
end L3
namespace L3
open PySem PySem.Spec PyProof.Rows L2
noncomputable def QF:List Str->List V->List (Value×Value)->Prop
 | [],xs,vs=>xs = []/\vs = []
 |k::ks,xs,vs=>∃x xr t u vr,xs=x::xr/\vs=(.str k t,u)::vr/\RelV x u/\QF ks xr vr
structure YU (X:Cx)(keys:List (Option Expr))(vals:List Expr)(pos:Pos)(ks:List Str)(fr:FA):Prop where
 all:keys.all (·.isSome)=true
 len:keys.length=vals.length
 YC:keys.length=ks.length
 un:∀(pins:List (Addr×Obj)) (s:Zo) (σ:L2.St) (H:Hp) (Q:List V->Hp->Prop),Inv X pins σ H s->jf X.kw fr σ H Q ->
  wpAny (model X.prog X.w) X.A (evalPairs (pairTrees keys vals X.env pos)) (λvs s1=>∃xs H1,Inv X pins σ H1 s1/\QF ks xs vs/\Q xs H1) X.xe s
section
variable {X:Cx}
noncomputable def Lv (i j:Nat)(fr:FA):FS:=λσ g=>(fr σ g).bind λr=>match r.1 with
 | [a,b]=>some (.nx,(σ.set i (some a)).set j (some b),r.2)
 |_=>none
end
theorem tE {prog:ZY}{w:World}{A:ZV}{E:Value->Zo->Prop}{s:Zo}{it a:Addr}{i:Nat}{items:Array Value}{x:Value}{Q:Value->Zo->Prop}(hit:s.heap.IsTupleIter it a i)(hl:s.heap.IsTuple a items)(hx:items[i]? = some x)
  (hQ:∀h',h'.IsTupleIter it a (i+1)->acd it s.heap h'->Q x { s with heap:=h' }):wpAny (model prog w) A (abN (.ref it)) Q E s:=by
 obtain⟨o,jo,jc,jd⟩:=id hit
 obtain⟨Wy,Lw,_,Wz,Lx⟩:=hl
 unfold abN
 refine Zm (aav (name:=ZW "__next__") hit.typeIs F.slot_tuple_iterator_next (aaa F.slot_tuple_iterator_next hit.typeIs F.entry_tuple_iterator_next ?_ (F.args_tuple_iterator_next_1 _)))
 change wpAny _ _ (field (.ref it) 0 >>= λ_=>_) _ _ _
 refine Zm (acv jo jd (x:=.ref a) rfl ?_)
 change wpAny _ _ (if(acg a == ab3)=true then _ else _) _ _ _
 rw[if_neg (by exact aaM)]
 change wpAny _ _ (field (.ref it) 1 >>= λ_=>_) _ _ _
 refine Zm (acv jo jd (x:=.int i 0) rfl ?_)
 change wpAny _ _ (seqItems? (.ref a) >>= λ_=>_) _ _ _
 refine Zm (aeD Lw Lx ?_)
 simp only[abI,hx]
 refine Zm (adq jo jd (by simp) ?_)
 refine Zp ⟨x,rfl,Zp (hQ _ ⟨_,abg _ jo (aeE (acF jd _)),(afG ..).trans jc,?_⟩ (aa5 ..))⟩
 rw[acF jd]
 simp[ad4]
theorem mI {prog:ZY}{w:World}{A:ZV}{E:Value->Zo->Prop}{s:Zo}{it a:Addr}{i:Nat}{items:Array Value}{Q:Value->Zo->Prop}(hh:A.handled=none)(hit:s.heap.IsTupleIter it a i)(hl:s.heap.IsTuple a items)(hx:items[i]? = none)
  (hE:∀h' e,aer it s.heap h'->(∃o,h'.get? e=some o/\o.cls = .type "StopIteration")->E (.ref e) { s with heap:=h' }):wpAny (model prog w) A (abN (.ref it)) Q E s:=by
 obtain⟨o,jo,jc,jd⟩:=id hit
 obtain⟨Wy,Lw,_,Wz,Lx⟩:=hl
 unfold abN
 refine Zm (aav (name:=ZW "__next__") hit.typeIs F.slot_tuple_iterator_next (aaa F.slot_tuple_iterator_next hit.typeIs F.entry_tuple_iterator_next ?_ (F.args_tuple_iterator_next_1 _)))
 change wpAny _ _ (field (.ref it) 0 >>= λ_=>_) _ _ _
 refine Zm (acv jo jd (x:=.ref a) rfl ?_)
 change wpAny _ _ (if(acg a == ab3)=true then _ else _) _ _ _
 rw[if_neg (by exact aaM)]
 change wpAny _ _ (field (.ref it) 1 >>= λ_=>_) _ _ _
 refine Zm (acv jo jd (x:=.int i 0) rfl ?_)
 change wpAny _ _ (seqItems? (.ref a) >>= λ_=>_) _ _ _
 refine Zm (aeD Lw Lx ?_)
 simp only[abI,hx]
 refine Zm (aba (Zm (adq jo jd (by simp) ?_)))
 change wpAny _ _ (newExc (.type "StopIteration") [] >>= λ_=>_) _ _ _
 refine Zm ?_
 simp only[newExc,newTuple]
 refine Zm (aaS ?_ (by size_fits))
 refine Zm (m:=firstArgMember _ _) (wpAny_of_eq (a:=ab3) (by first|rfl| (simp only[firstArgMember];rfl)) ?_)
 refine aaS ?_ (by size_fits)
 simp only[raiseNew]
 refine Zm (wpAny_handled ?_)
 rw[show A.in1.handled=none from hh]
 exact Zm (Zp (wpAny_throw (hE _ _ (((aa5 ..).extBut.push _).push _) ⟨_,ZD _ rfl,rfl⟩)))
theorem AL {prog:ZY}{w:World}{A:ZV}(hh:A.handled=none)(it a:Addr)(gZ:a≠it)(items:Array Value):
  Draws prog w A it [it,a] items.size (λi v=>items[i]? = some v) (λi h=>h.IsTupleIter it a i/\h.IsTuple a items) where
 live:=λ_ _ st=>let⟨o,ho,_⟩:=st.1;⟨o,ho⟩
 frame:=λ_ _ _ st hk=>⟨st.1.at λo e=>hk it (by simp) o e,let⟨o,ho,r⟩:=st.2;⟨o,hk a (by simp) o ho,r⟩⟩
 item:=λi s Q E hi st hQ=>tE st.1 st.2 (x:=items[i]) (by simp[hi]) λh' qX u4=>hQ _ h' s.toks (by simp[hi]) ⟨qX,st.2.extBut u4.extBut gZ⟩ u4
 done:=λs Q E st hE=>mI hh st.1 st.2 (by simp) hE
theorem AM {prog:ZY}{w:World}{A:ZV}(hh:A.handled=none)(it a:Addr)(items:Array Value)(n:Nat)(hn:items.size<=n):
  Draws prog w A it [it,a] n (λ_ _=>True) (λj h=>j=n/\h.IsTupleIter it a n/\h.IsTuple a items) where
 live:=λ_ _ st=>let⟨o,ho,_⟩:=st.2.1;⟨o,ho⟩
 frame:=λ_ _ _ st hk=>⟨st.1,st.2.1.at λo e=>hk it (by simp) o e,let⟨o,ho,r⟩:=st.2.2;⟨o,hk a (by simp) o ho,r⟩⟩
 item:=λi s Q E hi st hQ=>absurd st.1 (ZP hi)
 done:=λs Q E st hE=>mI hh st.2.1 st.2.2 (by simp;exact hn) hE
theorem AN (a:Addr)(items:Array Value)(n:Nat)(aI:Option Addr)(sl:Array (Option Value)):
  Meets (aby.«enumerate.__new__» ⟨[.type "enumerate",.ref a],[]⟩) (λ_ R s=>s.heap.get? a=some { cls:=.type "tuple",dict:=aI,data:=.seq items n,slots:=sl } /\
    R (.ok (.ret (.ref (s.heap.push { cls:=.type "tuple_iterator",data:=.fields #[.ref a,.int 0 0] }).objs.size)))
     { s with heap:=(s.heap.push { cls:=.type "tuple_iterator",data:=.fields #[.ref a,.int 0 0] }).push { cls:=.type "enumerate",data:=.fields #[.none,.bool false,.ref s.heap.objs.size,ad4 0,.none,.none] } }):=
 .of_wp λprog w A R s h=>by
  obtain⟨hp,g,d,tk,os⟩:=s
  obtain⟨ht,h⟩:=h
  have sub:=sub_enumerate
  have tup:Heap.IsTuple (Shared.heap ⟨hp,g,d,tk,os⟩) a items:=⟨_,ht,rfl,n,rfl⟩
  wp_walk using wpAny_loadPart' ht
  refine wpAny_stack_any λst=>Zp ?_
  split
  . rename_i c _ _ _ _ _
    cases (c == aan "enumerate")<;>(wp_walk using wpAny_loadPart' ht,ab4 tup;exact⟨_,rfl,h⟩)
  . wp_walk using wpAny_loadPart' ht,ab4 tup
    exact⟨_,rfl,h⟩
theorem yV {prog:ZY}{w:World}{A:ZV}{E:Value->Zo->Prop}{s:Zo}{a:Addr}{items:Array Value}{Q:Value->Zo->Prop}(ht:s.heap.IsTuple a items)
  (h:∀h',IsEnum h' (s.heap.objs.size+1) s.heap.objs.size 0 .none->h'.IsTupleIter s.heap.objs.size a 0->(∀b o,s.heap.get? b=some o->h'.get? b=some o)->Q (.ref (s.heap.objs.size+1)) { s with heap:=h' }):
  wpAny (model prog w) A (call (.type "enumerate") [.ref a]) Q E s:=by
 obtain⟨⟨c,aI,dt,sl⟩,e1,e2,n,e3⟩:=ht
 cases (show c = .type "tuple" from e2)
 cases (show dt = .seq items n from e3)
 refine callType_new F.called_enumerate (by decide) (F.typeCall_enumerate_1 _) (F.newCall_enumerate_1 _) (λobj=>F.args_object_init_2 obj _) F.entry_enumerate_new (AN a items n aI sl) ⟨e1,?_⟩
 have sz:(s.heap.push { cls:=.type "tuple_iterator",data:=.fields #[.ref a,.int 0 0] }).objs.size=s.heap.objs.size+1:=abi ..
 have en:=ZD (s.heap.push { cls:=.type "tuple_iterator",data:=.fields #[.ref a,.int 0 0] }) (o:={ cls:=.type "enumerate",data:=.fields #[.none,.bool false,.ref s.heap.objs.size,ad4 0,.none,.none] }) rfl
 rw[sz]at en
 show _/\_
 rw[sz]
 exact⟨⟨_,en,rfl⟩,h _ en ⟨_,Zr _ (ZD _ rfl),rfl,rfl⟩ λb o x=>Zr _ (Zr _ x)⟩
theorem HP {X:Cx}{pins:List (Addr×Obj)}{σ:L2.St}{H:Hp}{s:Zo}{h':Heap}{t':Nat}{ch:List Addr}(I:L2.Inv X pins σ H s)(k:∀b o,b ∉ ch->s.heap.get? b=some o->h'.get? b=some o)(hf:∀b∈ch,iq X pins H b):
   L2.Inv X pins σ H { s with heap:=h',toks:=t' }:=by
 have zR:∀b u,H b=some u->b ∉ ch:=λb u e z=>by rw[(hf b z).1]at e;cases e
 refine I.step (g':=s.gens) (d':=s.drawn) (ch:=ch) (λb hb=>?_) (λb o _ _ hc e _=>k b o hc e) (λb o _ _ hc e _=>⟨o.slots,k b o hc e⟩) (λ_ _ _ _ n=>n)
   (λb o hc e=>⟨o,k b o hc e⟩) (λ_ _ e=>e) (λ_ _ _ e=>e) (λb ps e=>⟨#[],by rw[e];simp⟩) (λm hm=>?_) (λb u e=>?_) I.bare
 . obtain⟨f0,f1,f2,f3,f4,f5⟩:=hf b hb
   exact⟨f3,f1,f4,f5⟩
 . obtain⟨o,es,ep,ho,r⟩:=hm
   exact⟨o,es,ep,k _ o (λz=>(hf _ z).2.1 rfl) ho,r⟩
 . refine(I.bK b u e).ip (λc v hc q=>k c v ?_ q) (λ_ q=>q) λ_ _ q=>q
   rcases hc with z|z
   . rw[z];exact zR b u e
   . exact zR c _ z
noncomputable def Ly (K:ZC)(a:Addr):It :=
 ⟨λi H=>∃xs x,dQ K H a xs/\xs[i]? = some x,λi H x H'=>∃T v,x = .ref T/\H T=none/\H'=upd H T (.tup [.int i,v]) /\ ∀xs,dQ K H a xs->xs[i]? = some v,λi H=>∃xs,dQ K H a xs/\xs.length<=i⟩
theorem yW {P:ZY}{w:World}{K:ZC}{elts:List Expr}{kt:Nat}{tp:Pos}(a e it:Addr)(Lz:e≠it):Turn P w K (.Tuple elts kt tp) (Ly K a) [e,it] e (λi h=>(∃old,IsEnum h e it i old)/\h.IsTupleIter it a i) where
 mem:=by simp
 obj:=λi h st b hb=>by
  obtain⟨⟨old,h1⟩,o,h2,h3,h4⟩:=st
  rcases ZE.mp hb with rfl|hb
  . exact⟨_,h1,λv z=>by cases z⟩
  . have fT:b=it:=by simpa using hb
    subst fT
    exact⟨o,h2,λv z=>by rw[h4]at z;cases z⟩
 keep:=λi h h' st k=>by
  obtain⟨⟨old,h1⟩,h2⟩:=st
  exact⟨⟨old,k e (by simp) _ h1⟩,h2.at λo q=>k it (by simp) o q⟩
 item:=by
  intro X hP hw hK hc i pins s σ H E I hf st hg
  subst hP hw hK
  obtain⟨⟨old,h1⟩,h2⟩:=st
  obtain⟨xs,x,hq,hx⟩:=hg
  obtain⟨aw,rv,p,hz⟩:=I.tuple hq
  obtain⟨u,hu,ru⟩:=rv.get hx
  have ai:a≠it:=λz=>by
    obtain⟨o,q1,q2,_⟩:=p
    obtain⟨o',q3,q4,_⟩:=h2
    rw[z,q3]at q1
    cases q1
    rw[q4]at q2
    exact absurd q2 (by decide)
  have ae:e≠a:=λz=>by
    obtain⟨o,q1,q2,_⟩:=p
    rw[<- z,h1]at q1
    cases q1
    exact absurd (show aan "enumerate" = aan "tuple" from q2) (by decide)
  have hi:i<aw.toArray.size:=by
    have:=(Zs.mp hu).1
    simpa using this
  refine wpAny_pyNext_enum_itemD (AL (A:=X.A.in1) (I.ok.hd hc) it a ai aw.toArray) h1 ⟨h2,p⟩ hi Lz (by simp[Lz,ae]) λx' h' tk hP SD cH hT hsz hk=>?_
  have ex:x'=u:=by
    have q:aw.toArray[i]? = some x':=hP
    have q':aw[i]? = some x':=by simpa using q
    rw[hu]at q'
    exact(aaf q').symm
  subst ex
  refine⟨_,rfl,wpAny_letOwnedTupleGo_enum SD λK2 ot LA=>?_⟩
  have I1:L2.Inv X pins σ (upd H s.heap.objs.size (.tup [.int i,x])) { s with heap:=s.heap.push { cls:=.type "tuple",data:=.seq #[.int i tk,x'] } }:=
    I.laid (t':=s.toks) (o:=.tup [.int i,x]) (λb o q=>Zr _ q) (Zy _) (show cZ X.prog X.w _ _ _ (.tup [.int i,x]) from⟨by show 2<=ZM;decide,[.int i tk,x'],.cons ⟨tk,rfl⟩ (.cons ru .nil),fz.new _ _⟩)
  have eT:e≠s.heap.objs.size:=ZP (Zz h1)
  have iT:it≠s.heap.objs.size:=by
    obtain⟨o',q3,_⟩:=h2
    exact ZP (Zz q3)
  have I2:L2.Inv X pins σ (upd H s.heap.objs.size (.tup [.int i,x])) { s with heap:=K2,toks:=tk+1 }:=HP (s:={ s with heap:=s.heap.push { cls:=.type "tuple",data:=.seq #[.int i tk,x'] } }) (ch:=[e,it]) I1 (λb o hb q=>by
    simp only[ZE,acm,or_false,not_or]at hb
    have h3:h'.get? b=some o:=by
      by_cases QG:b=s.heap.objs.size
      . subst QG
        have:(s.heap.push { cls:=.type "tuple",data:=.seq #[.int i tk,x'] }).get? s.heap.objs.size=some o:=q
        rw[ZD _ rfl]at this
        rw[<- this];exact hT
      . exact hk b o hb.1 hb.2 ((abr s.heap b _ QG).symm.trans q)
    exact(LA.2 b hb.1).trans h3) (λb hb=>by
      obtain⟨f0,f1,f2,f3,f4,f5⟩:=hf b hb
      refine⟨?_,f1,f2,f3,f4,f5⟩
      rcases ZE.mp hb with rfl|hb
      . rw[bh eT];exact f0
      . have fT:b=it:=by simpa using hb
        subst fT
        rw[bh iT];exact f0)
  refine⟨.ref s.heap.objs.size,_,I2,rfl,⟨_,x,rfl,I.fresh,rfl,λys hy=>by rw[I.mf hy hq];exact hx⟩,⟨⟨_,by simpa using ot⟩,?_⟩,λb hb=>?_⟩
  . exact cH.1.at λo q=>(LA.2 it (acb Lz)).trans q
  . rcases ZE.mp hb with rfl|hb
    . rw[bh eT];exact(hf _ (by simp)).1
    . have fT:b=it:=by simpa using hb
      subst fT
      rw[bh iT];exact(hf _ (by simp)).1
 done:=by
  intro X hP hw hK hc i pins s σ H E I hf st hg
  subst hP hw hK
  obtain⟨⟨old,h1⟩,h2⟩:=st
  obtain⟨xs,hq,hx⟩:=hg
  obtain⟨aw,rv,p,hz⟩:=I.tuple hq
  have ai:a≠it:=λz=>by
    obtain⟨o,q1,q2,_⟩:=p
    obtain⟨o',q3,q4,_⟩:=h2
    rw[z,q3]at q1
    cases q1
    rw[q4]at q2
    exact absurd q2 (by decide)
  have f:=hf it (by simp)
  have fin:∀h',aer it s.heap h'->L2.Inv X pins σ H { s with heap:=h' }:=λh' eb=>I.turned (t':=s.toks) (λb o hb q=>eb b o hb q) f.1 f.2.1 f.2.2.2.1 f.2.2.2.2.1 f.2.2.2.2.2
  have hl:=rv.length
  exact wpAny_pyNext_enum_endD (AM (A:=X.A.in1) (I.ok.hd hc) it a aw.toArray i (by simp;omega)) h1 ⟨rfl,h2,p⟩ λh' eb=>⟨rfl,fin h' eb⟩
 self:=λ_ _ _ _ _ st h=>wpAny_pyIter_enum st.1.choose_spec h
noncomputable def dD (xs:List D):List D:=xs.zipIdx.map λp=>.tup [.int (p.2:Nat),p.1]
noncomputable def AO (f:FE):FI:=λσ g=>(f σ g).bind λr=>match r.1 with|.tup xs=>some (dD xs,r.2)|_=>none
theorem kZ.Po {K H ι a vs ds}(hq:jI K H ι a vs)(hr:ao K H ι ds vs):kZ K (Ly K a) H ι (dD ds):=λi H1 ι1 g1 e1 G1 =>
 ⟨λhl=>⟨vs,(hq.eu e1).sq,by rw[<- hr.length];simpa[dD]using hl⟩,λd hd=>by
  unfold dD at hd
  rw[Z1,adb]at hd
  cases hx:ds[i]? with
  |none=>rw[hx]at hd;cases hd
  |some d0 =>
   rw[hx]at hd
   simp only[aab,aaE,abq]at hd
   subst hd
   obtain⟨v,hv,rv⟩:=(ao.eu e1 _ hr).get hx
   refine⟨⟨vs,v,(hq.eu e1).sq,hv⟩,λx H2 y=>?_⟩
   obtain⟨T,v',rfl,hn,rfl,hy⟩:=y
   have:=hy vs (hq.eu e1).sq
   rw[hv]at this
   cases this
   refine⟨Ext.lay hn,G1.lay hn,?_⟩
   simp only[Rel]
   refine⟨T,_,rfl,.inl ⟨.inl bC,G1.fresh hn⟩,?_⟩
   simp only[ao,Rel]
   exact⟨_,_,rfl,rfl,_,_,rfl,Rel.ext (Ext.lay hn) _ rv,rfl⟩⟩
theorem Dd {X:Cx}{l:Expr}{fe:FE}{p pos tp:Pos}{elts:List Expr}{kt:Nat}(hg:Gl X "enumerate")(hm:X.mg "enumerate" = none)(hl:DE X l fe)
  (hs:ZS [l] X.env = [(false,eval l X.env)]:=by rfl):DI X (.Tuple elts kt tp) (.Call (.Name "enumerate" p) [l] [] pos) (AO fe):=.of (by
 intro pins s σ H R I h
 obtain⟨ι,σd,g,ds,g',G0,S0,h,q⟩:=h
 obtain⟨⟨d1,g1⟩,h1,h⟩:=bind_some h
 cases d1 with
 |tup xs =>
  cases h
  refine Call_ (gj I hg hm PyProof.Rows.boot_enumerate (aaB (bp ((kz hl.un pD hs) pos pins s σ H (λvs H1=>∃v ι1,vs = [v]/\Ext H ι H1 ι1/\aB X.kw H1 ι1 g1/\Rel X.kw H1 ι1 (.tup xs) v) I ?_) λus s1 ⟨vs,H1,I1,r1,v,ι1,e0,e1,G1,rd⟩=>?_) hs rfl))
  . exact⟨ι,σd,g,_,g1,G0,S0,h1,λH1 ι1 v e1 G1 r1=>⟨v,ι1,rfl,e1,G1,r1⟩⟩
  . subst e0
    obtain⟨u,rfl,ru⟩:=vals1 r1
    simp only[Rel]at rd
    obtain⟨a,vs,rfl,hq,hr⟩:=rd
    cases ru
    obtain⟨aw,rv,pt,hz⟩:=I1.tuple hq.sq
    refine yV (show s1.heap.IsTuple a aw.toArray from pt) λh' ot u5 hk=>?_
    refine wpAny_pyIter_enum ot ?_
    have gZ:s1.heap.objs.size+1≠s1.heap.objs.size:=Nat.succ_ne_self _
    refine⟨s1.heap.objs.size+1,[s1.heap.objs.size+1,s1.heap.objs.size],_,_,H1,rfl,I1.kept (t':=s1.toks) hk,yW a _ _ gZ,⟨⟨_,ot⟩,u5⟩,λb hb=>?_,q H1 ι1 _ e1 G1 (.Po hq hr)⟩
    rcases ZE.mp hb with rfl|hb
    . exact I1.oH (ab7 _) (I1.bK.fresh (ab7 _))
    . have fT:b=s1.heap.objs.size:=by simpa using hb
      subst fT
      exact I1.oH (Zy _) (I1.bK.fresh (Zy _))
 |_=>cases h)
noncomputable def dY (f:FE):FI:=λσ g=>(f σ g).bind λr=>match r.1 with|.tup xs=>some (dD xs,r.2)|_=>none
theorem HQ {X:Cx}{l:Expr}{fe:FE}{p pos tp:Pos}{elts:List Expr}{kt:Nat}(hg:Gl X "enumerate")(hm:X.mg "enumerate" = none)(hl:DE X l fe)
  (hs:ZS [l] X.env = [(false,eval l X.env)]:=by rfl):DI X (.Tuple elts kt tp) (.Call (.Name "enumerate" p) [l] [] pos) (dY fe):=.of (by
 intro pins s σ H R I h
 obtain⟨ι,σd,g,ds,g',G0,S0,h,q⟩:=h
 obtain⟨⟨d1,g1⟩,h1,h2⟩:=bind_some h
 cases d1 with
 |tup xs=>exact(Dd hg hm hl hs).un pins s σ H R I ⟨ι,σd,g,ds,g',G0,S0,by unfold AO;rw[h1];exact h2,q⟩
 |_=>cases h2)
@[simp] theorem SE {fa:FE}{σ:Sg}{g:G}:dY fa σ g=(fa σ g).bind λr=>match r.1 with|.tup xs=>some (dD xs,r.2)|_=>none:=rfl
section
variable {σ:Sg}{g:G}{fa fb fo fx:FE}{fr:FA}
@[simp] theorem Vw {i j:Nat}:Lv i j fr σ g=(fr σ g).bind λr=>match r.1 with
 | [a,b]=>some (.nx,(σ.set i (some a)).set j (some b),r.2)
 |_=>none:=rfl
end
section
variable {σ:Sg}{g:G}{fa fb:FE}
@[simp] theorem Vx:qW fa fb σ g=(fa σ g).bind λr=>(gE r.1 r.2).bind λc=>if c=true then some r else fb σ r.2:=rfl
@[simp] theorem Pp:gE .az g=some false:=rfl
@[simp] theorem Pq {xs:List D}:gE (.tup xs) g=some (!xs.isEmpty):=rfl
@[simp] theorem Pr {xs:List D}:gE (.lst xs) g=some (!xs.isEmpty):=rfl
end
structure ZA (z ti tu j1 j2 a1 a2:Addr):Prop where
 n1:ti≠z
 n2:tu≠z
 n3:j1≠z
 n4:j2≠z
 n5:ti≠tu
 n6:tu≠j1
 n7:tu≠j2
 n8:j1≠j2
 n9:ti≠j1
 YV:ti≠j2
 m1:a1≠z/\a1≠tu/\a1≠j1/\a1≠j2
 m2:a2≠z/\a2≠tu/\a2≠j1/\a2≠j2
def ip (cs:List Addr)(h h':Heap):Prop:=∀c o,c ∉ cs->h.get? c=some o->h'.get? c=some o
theorem ip.tr {cs h h1 h2}(a:ip cs h h1)(b:ip cs h1 h2):ip cs h h2:=λc o n e=>b c o n (a c o n e)
theorem ip.of {cs h h1 c}(a:acd c h h1)(m:c∈cs):ip cs h h1:=λb o n e=>(a.2 b λz=>n (z ▸ m)).trans e
noncomputable def De (xs ys:List D):List D:=(xs.zip ys).map λp=>.tup [p.1,p.2]
theorem ao.pick {K H ι}{xs:List D}{vs:List V}(r:ao K H ι xs vs)(l:Int)(st:Int):∀n k,ao K H ι ((List.range' k n).filterMap λ(k:Nat)=>xs[(l+(k:Int)*st).toNat]?) ((List.range' k n).filterMap λ(k:Nat)=>vs[(l+(k:Int)*st).toNat]?)
 | 0,k=>by simp[ao]
 |n+1,k=>by
  rw[List.range'_succ,aa3,aa3]
  have ih:=ao.pick r l st n (k+1)
  cases hx:xs[(l+(k:Int)*st).toNat]? with
  |none =>
   have hv:vs[(l+(k:Int)*st).toNat]? = none:=by
    rw[adV]at hx ⊢
    rw[<- r.length];exact hx
   rw[hv];exact ih
  |some d =>
   obtain⟨v,hv,rv⟩:=r.get hx
   rw[hv]
   simp only[ao]
   exact⟨v,_,rfl,rv,ih⟩
section
variable {X:Cx}
section
open SeqAt
variable {pins:List (Addr×Obj)}{σ:L2.St}{H:Hp}{s:Zo}{ι:Ix}
theorem AQ (I:Inv X pins σ H s):∀(d1 d2:D) {A:ZV} {x y:V} {u v:Value},flat d1=true->flat d2=true->Rel X.kw H ι d1 x->Rel X.kw H ι d2 y->RelV x u->RelV y v->A.units+dep d1<cLine->RcNeAt A s u v (!aH d1 d2)
 |.az,d2,A,x,y,u,v,_,f2,r1,r2,ru,rv,hu=>by
  simp only[Rel]at r1;subst r1;cases ru
  cases d2 with
  |az=>simp only[Rel]at r2;subst r2;cases rv;simp only[aH,ZI,ZK];exact .none_none
  |bl b=>simp only[Rel]at r2;subst r2;cases rv;simp only[aH,ZI,ZK];exact .none_bool b
  |int b=>simp only[Rel]at r2;subst r2;obtain⟨t,rfl⟩:=rv;simp only[aH,ZI,ZK];exact .none_int b t
  |str b=>simp only[Rel]at r2;subst r2;obtain⟨t,rfl⟩:=rv;simp only[aH,ZI,ZK];exact .none_str b t
  |tup ys=>simp only[Rel]at r2;obtain⟨a',ws,rfl,hq,hr⟩:=r2;cases rv;obtain⟨aw,_,ht,_⟩:=I.tuple hq.sq;simp only[aH,ZI,ZK];exact .none_tuple ht (by omega)
  |lst ys=>simp only[Rel]at r2;obtain⟨a',ws,rfl,hq,hr⟩:=r2;cases rv;obtain⟨aw,_,ht,_⟩:=I.list hq.sq;simp only[aH,ZI,ZK];exact .none_list ht.isList (by omega)
  |_=>cases f2
 |.bl a,d2,A,x,y,u,v,_,f2,r1,r2,ru,rv,hu=>by
  simp only[Rel]at r1;subst r1;cases ru
  cases d2 with
  |az=>simp only[Rel]at r2;subst r2;cases rv;simp only[aH,ZI,ZK];exact .bool_none a
  |bl b=>simp only[Rel]at r2;subst r2;cases rv;simp only[aH,ZI,ZK];exact .bool_bool a b
  |int b=>simp only[Rel]at r2;subst r2;obtain⟨t,rfl⟩:=rv;simp only[aH,ZI,ZK];exact .bool_int a b t
  |str b=>simp only[Rel]at r2;subst r2;obtain⟨t,rfl⟩:=rv;simp only[aH,ZI,ZK];exact .bool_str a b t
  |tup ys=>simp only[Rel]at r2;obtain⟨a',ws,rfl,hq,hr⟩:=r2;cases rv;obtain⟨aw,_,ht,_⟩:=I.tuple hq.sq;simp only[aH,ZI,ZK];exact .bool_tuple a ht (by omega)
  |lst ys=>simp only[Rel]at r2;obtain⟨a',ws,rfl,hq,hr⟩:=r2;cases rv;obtain⟨aw,_,ht,_⟩:=I.list hq.sq;simp only[aH,ZI,ZK];exact .bool_list a ht.isList (by omega)
  |_=>cases f2
 |.int a,d2,A,x,y,u,v,_,f2,r1,r2,ru,rv,hu=>by
  simp only[Rel]at r1;subst r1;obtain⟨t0,rfl⟩:=ru
  cases d2 with
  |az=>simp only[Rel]at r2;subst r2;cases rv;simp only[aH,ZI,ZK];exact .int_none a t0
  |bl b=>simp only[Rel]at r2;subst r2;cases rv;simp only[aH,ZI,ZK];exact .int_bool a t0 b
  |int b=>simp only[Rel]at r2;subst r2;obtain⟨t,rfl⟩:=rv;simp only[aH,ZI,ZK];exact .int_int a t0 b t
  |str b=>simp only[Rel]at r2;subst r2;obtain⟨t,rfl⟩:=rv;simp only[aH,ZI,ZK];exact .int_str a t0 b t
  |tup ys=>simp only[Rel]at r2;obtain⟨a',ws,rfl,hq,hr⟩:=r2;cases rv;obtain⟨aw,_,ht,_⟩:=I.tuple hq.sq;simp only[aH,ZI,ZK];exact .int_tuple a t0 ht (by omega)
  |lst ys=>simp only[Rel]at r2;obtain⟨a',ws,rfl,hq,hr⟩:=r2;cases rv;obtain⟨aw,_,ht,_⟩:=I.list hq.sq;simp only[aH,ZI,ZK];exact .int_list a t0 ht.isList (by omega)
  |_=>cases f2
 |.str a,d2,A,x,y,u,v,_,f2,r1,r2,ru,rv,hu=>by
  simp only[Rel]at r1;subst r1;obtain⟨t0,rfl⟩:=ru
  cases d2 with
  |az=>simp only[Rel]at r2;subst r2;cases rv;simp only[aH,ZI,ZK];exact .str_none a t0
  |bl b=>simp only[Rel]at r2;subst r2;cases rv;simp only[aH,ZI,ZK];exact .str_bool a t0 b
  |int b=>simp only[Rel]at r2;subst r2;obtain⟨t,rfl⟩:=rv;simp only[aH,ZI,ZK];exact .str_int a t0 b t
  |str b=>simp only[Rel]at r2;subst r2;obtain⟨t,rfl⟩:=rv;simp only[aH,ZI,ZK];exact .str_str a t0 b t
  |tup ys=>simp only[Rel]at r2;obtain⟨a',ws,rfl,hq,hr⟩:=r2;cases rv;obtain⟨aw,_,ht,_⟩:=I.tuple hq.sq;simp only[aH,ZI,ZK];exact .str_tuple a t0 ht (by omega)
  |lst ys=>simp only[Rel]at r2;obtain⟨a',ws,rfl,hq,hr⟩:=r2;cases rv;obtain⟨aw,_,ht,_⟩:=I.list hq.sq;simp only[aH,ZI,ZK];exact .str_list a t0 ht.isList (by omega)
  |_=>cases f2
 |.tup xs,d2,A,x,y,u,v,f1,f2,r1,r2,ru,rv,hu=>by
  simp only[Rel]at r1;obtain⟨a,vs,rfl,hq,hr⟩:=r1;cases ru
  obtain⟨aw,bA,ht,_⟩:=I.tuple hq.sq
  simp only[dep]at hu
  cases d2 with
  |az=>simp only[Rel]at r2;subst r2;cases rv;simp only[aH,ZI,ZK];exact .tuple_none ht (by omega)
  |bl b=>simp only[Rel]at r2;subst r2;cases rv;simp only[aH,ZI,ZK];exact .tuple_bool b ht (by omega)
  |int b=>simp only[Rel]at r2;subst r2;obtain⟨t,rfl⟩:=rv;simp only[aH,ZI,ZK];exact .tuple_int b t ht (by omega)
  |str b=>simp only[Rel]at r2;subst r2;obtain⟨t,rfl⟩:=rv;simp only[aH,ZI,ZK];exact .tuple_str b t ht (by omega)
  |tup ys =>
   simp only[Rel]at r2;obtain⟨a',ws,rfl,b7,ee⟩:=r2;cases rv
   obtain⟨its',eM,gY,_⟩:=I.tuple b7.sq
   simp only[aH,jK]
   have l1:xs.length=aw.toArray.size:=by rw[Zt,<- bA.length];exact hr.length
   have l2:ys.length=its'.toArray.size:=by rw[Zt,<- eM.length];exact ee.length
   rw[l1,l2]
   refine .tuples ht gY (by omega) λj h1 h2=>?_
   have:=kH I xs ys (A:=A.in1) f1 f2 hr ee bA eM (by rw[in1_units];omega) j (by simpa using h1) (by simpa using h2)
   simpa using this
  |lst ys =>
   simp only[Rel]at r2;obtain⟨a',ws,rfl,b7,ee⟩:=r2;cases rv
   obtain⟨its',eM,gY,_⟩:=I.list b7.sq
   simp only[aH,ZI,ZK];exact .tuple_list ht gY.isList (by omega)
  |_=>cases f2
 |.lst xs,d2,A,x,y,u,v,f1,f2,r1,r2,ru,rv,hu=>by
  simp only[Rel]at r1;obtain⟨a,vs,rfl,hq,hr⟩:=r1;cases ru
  obtain⟨aw,bA,ht,_⟩:=I.list hq.sq
  simp only[dep]at hu
  cases d2 with
  |az=>simp only[Rel]at r2;subst r2;cases rv;simp only[aH,ZI,ZK];exact .list_none ht.isList (by omega)
  |bl b=>simp only[Rel]at r2;subst r2;cases rv;simp only[aH,ZI,ZK];exact .list_bool b ht.isList (by omega)
  |int b=>simp only[Rel]at r2;subst r2;obtain⟨t,rfl⟩:=rv;simp only[aH,ZI,ZK];exact .list_int b t ht.isList (by omega)
  |str b=>simp only[Rel]at r2;subst r2;obtain⟨t,rfl⟩:=rv;simp only[aH,ZI,ZK];exact .list_str b t ht.isList (by omega)
  |lst ys =>
   simp only[Rel]at r2;obtain⟨a',ws,rfl,b7,ee⟩:=r2;cases rv
   obtain⟨its',eM,gY,_⟩:=I.list b7.sq
   simp only[aH,jK]
   have l1:xs.length=aw.toArray.size:=by rw[Zt,<- bA.length];exact hr.length
   have l2:ys.length=its'.toArray.size:=by rw[Zt,<- eM.length];exact ee.length
   rw[l1,l2]
   by_cases hs:aw.toArray.size=its'.toArray.size
   . have e0:(aw.toArray.size == its'.toArray.size)=true:=by simpa using hs
     rw[e0,ae0,<- hs,Nat.min_self]
     refine .lists ht.isList gY.isList hs (by omega) λj h1 h2=>?_
     have:=kH I xs ys (A:=A.in1) f1 f2 hr ee bA eM (by rw[in1_units];omega) j (by simpa using h1) (by simpa using h2)
     simpa using this
   . have e0:(aw.toArray.size == its'.toArray.size)=false:=by simpa using hs
     rw[e0,agA,ZK]
     exact .lists_lengths ht.isList gY.isList (by simpa using hs) (by omega)
  |tup ys =>
   simp only[Rel]at r2;obtain⟨a',ws,rfl,b7,ee⟩:=r2;cases rv
   obtain⟨its',eM,gY,_⟩:=I.tuple b7.sq
   simp only[aH,ZI,ZK];exact .list_tuple ht.isList gY (by omega)
  |_=>cases f2
 |.dA,d2,A,x,y,u,v,f1,_,_,_,_,_,_=>by cases f1
 |.ref _,d2,A,x,y,u,v,f1,_,_,_,_,_,_=>by cases f1
 |.aI _,d2,A,x,y,u,v,f1,_,_,_,_,_,_=>by cases f1
 |.fn _,d2,A,x,y,u,v,f1,_,_,_,_,_,_=>by cases f1
end
noncomputable def fF (d1 d2:D)(g:G):Option (D×G):=if(flat d1&&flat d2&&decide (dep d1<=60))=true then some (.bl (!aH d1 d2),g)else none
theorem LB (hu:X.A.units+64<cLine):bB X (Z8 .NotEq) (cJ X.kw fF):=by
 intro pins s σ H x y v u Q I rx ry q
 obtain⟨ι,g,d1,d2,d,g',G0,r1,r2,q,p⟩:=q
 unfold fF at q
 split at q
 . rename_i z
   simp only[Zn,decide_eq_true_eq]at z
   cases q
   exact AQ I d1 d2 z.1.1 z.1.2 r1 r2 rx ry (by omega) _ _ _ _ ⟨.bl _,H,I,rfl,p H ι _ Ext.refl G0 (by simp[Rel])⟩
 . cases q
end
@[simp] theorem Vy {d1 d2:D}{g:G}:fF d1 d2 g=if(flat d1&&flat d2&&decide (dep d1<=60))=true then some (.bl (!aH d1 d2),g)else none:=rfl
noncomputable def dE:List D->Option (List Int)
 | []=>some []
 |.int i::ds=>(dE ds).map (i :: ·)
 |_=>none
theorem yX {d:D}{ds:List D}{ns:List Int}(h:dE (d::ds)=some ns):∃i ms,d = .int i/\ns=i::ms/\dE ds=some ms:=by
 cases d with
 |int i =>
  simp only[dE,ZF]at h
  obtain⟨ms,h1,rfl⟩:=h
  exact⟨i,ms,rfl,rfl,h1⟩
 |_=>simp[dE]at h
theorem fG {K H ι}:∀{xs:List D} {vs:List V} {us:List Value} {ns:List Int},dE xs=some ns->ao K H ι xs vs->Vals vs us->abS us ns
 | [],vs,us,ns,h,r,rv=>by simp only[ao]at r;subst r;cases rv;cases h;exact .nil
 |d::ds,vs,us,ns,h,r,rv=>by
  obtain⟨i,ms,rfl,rfl,h1⟩:=yX h
  simp only[ao,Rel]at r
  obtain⟨v,vr,rfl,rfl,hr⟩:=r
  cases rv with
  |cons r0 rr =>
   obtain⟨t,rfl⟩:=r0
   exact .cons i t (fG h1 hr rr)
theorem g_:∀{us:List Value} {ns:List Int},abS us ns->∃xs:List (Int×Tok),us=xs.map (λp=>aeh p.1 p.2)/\ns=xs.map (·.1)
 |_,_,.nil=>⟨[],rfl,rfl⟩
 |_,_,.cons n t h=>by
  obtain⟨xs,rfl,rfl⟩:=g_ h
  exact⟨(n,t)::xs,rfl,rfl⟩
section
variable {X:Cx}
noncomputable def yY (ds:List D)(g:G):Option (D×G):=match ds with| [d]=>(ff d g).bind λxs=>(dE xs).map λns=>(.int ns.sum,g)|_=>none
theorem LC (hh:X.A.handled=none):cz X (.builtin "sum") (gH X.kw yY):=by
 intro pins s σ H xs us Q I r q
 obtain⟨ι,g,ds,d,g',G0,r1,q,p⟩:=q
 cases ds with
 |nil=>cases q
 |cons e jL =>
 cases jL with
 |cons _ _=>cases q
 |nil =>
  simp only[yY]at q
  obtain⟨ys,hx,q⟩:=bind_some q
  obtain⟨ns,hn,q⟩:=ZF.mp q
  cases q
  simp only[ao]at r1
  obtain⟨v,_,rfl,rv,rfl⟩:=r1
  obtain⟨a,vs,rfl,hq,hr⟩:=gF G0 rv hx
  cases r with
  |cons ru rr =>
   cases rr
   cases ru
   obtain⟨aw,bA,ht,_⟩:=I.list hq
   obtain⟨ps,rfl,rfl⟩:=g_ (fG hn hr bA)
   have hi:(ps.map (λp=>aeh p.1 p.2)).toArray=ads ps.toArray:=by simp[ads]
   have hl:=ht.isList
   rw[hi]at hl
   refine sum_intListG hh hl λh' tk t' hk=>?_
   rw[preSum_eq,aa8 (by simp)]
   exact⟨.int _,H,I.kept hk,⟨_,rfl⟩,p H ι _ Ext.refl G0 (by simp[Rel])⟩
theorem gG:∀{us:List Value} {ns:List Int},abS us ns->Vals (ns.map V.int) us
 |_,_,.nil=>.nil
 |_,_,.cons n t h=>.cons ⟨t,rfl⟩ (gG h)
theorem la {K:KW}{H:Hp}{ι:Ix}:∀ns:List Int,ao K H ι (ns.map D.int) (ns.map V.int)
 | []=>by simp[ao]
 |n::ns=>by
  simp only[ZT,ao]
  exact⟨_,_,rfl,by simp[Rel],la ns⟩
noncomputable def jy (ds:List D)(g:G):Option (D×G):=match ds with| [d]=>(ff d g).bind λxs=>(dE xs).bind λns=>if ns.length<64 then some (.lst ((abb ns).map .int),g)else none|_=>none
theorem AR:cz X (.builtin "sorted") (gH X.kw jy):=by
 intro pins s σ H xs us Q I r q
 obtain⟨ι,g,ds,d,g',G0,r1,q,p⟩:=q
 cases ds with
 |nil=>cases q
 |cons e jL =>
 cases jL with
 |cons _ _=>cases q
 |nil =>
  simp only[jy]at q
  obtain⟨ys,hx,q⟩:=bind_some q
  obtain⟨ns,hn,q⟩:=bind_some q
  split at q
  . rename_i z
    cases q
    simp only[ao]at r1
    obtain⟨v,_,rfl,rv,rfl⟩:=r1
    obtain⟨a,vs,rfl,hq,hr⟩:=gF G0 rv hx
    cases r with
    |cons ru rr =>
     cases rr
     cases ru
     obtain⟨aw,bA,ht,_⟩:=I.list hq
     have hA:=fG hn hr bA
     have hlen:aw.length=ns.length:=by
      obtain⟨ps,rfl,rfl⟩:=g_ hA
      simp
     refine sorted_ints ht.isList hA (by omega) λout WA hO hp hs=>?_
     have e:=af4 hp hs
     subst e
     obtain⟨c,hc⟩:=sortedAll_at s.heap aw out
     have e_:=I.bK.fresh (ab7 s.heap.objs.size)
     have sA:((abb ns).map V.int).length<=ZM:=by
      rw[ZN,hp.length_eq];exact aa7 (abT z) (by decide)
     refine⟨.ref (s.heap.objs.size+1),_,I.laid (t':=s.toks) (λb o e=>sortedAll_old e) (ab7 _) (show cZ X.prog X.w _ _ _ (.lst ((abb ns).map V.int)) from⟨sA,out.toList,c,gG hO,by simpa[aaQ]using hc⟩),rfl,?_⟩
     refine p _ _ _ (Ext.lay e_) (G0.lay e_) ?_
     simp only[Rel]
     exact⟨_,_,rfl,.inl ⟨.inl bC,G0.fresh e_,G0.iQ e_⟩,la _⟩
  . cases q
end
section
variable {σ:Sg}{g:G}{fr:FA}
@[simp] theorem Vz {d:D}:yY [d] g=(ff d g).bind λxs=>(dE xs).map λns=>(.int ns.sum,g):=rfl
@[simp] theorem Pt {d:D}:jy [d] g=(ff d g).bind λxs=>(dE xs).bind λns=>if ns.length<64 then some (.lst ((abb ns).map .int),g)else none:=rfl
end
theorem wV {prog:ZY}{w:World}{A:ZV}{E:Value->Zo->Prop}{s:Zo}{l:Addr}{xs:Array (Int×Tok)}{Q:Value->Zo->Prop}(hh:A.handled=none)(hl:s.heap.IsTuple l (ads xs))
   (h:∀h' tk t',(∀b o,s.heap.get? b=some o->h'.get? b=some o)->Q (.int (preSum (numAt xs) xs.size) t') { s with heap:=h',toks:=tk }):
   wpAny (model prog w) A (call (.builtin "sum") [.ref l]) Q E s:=by
 have bf:l<s.heap.objs.size:=by obtain⟨_,e,_⟩:=hl;exact Zz e
 have gZ:l≠s.heap.objs.size:=ZP bf
 refine call_sum_walkG (ab4 hl ?_)
 refine⟨_,[s.heap.objs.size,l],[s.heap.objs.size],_,_,_,numAt xs,rfl,Walks.tuple (A:=A.in1) hh _ l gZ (ads xs),⟨⟨_,ZD _ rfl,rfl,rfl⟩,hl.push _⟩,λb hb=>?_,(λ_ _=>intItems_at),λh' tk t' hk=>?_⟩
 . show b<(s.heap.push _).objs.size
   rw[abi]
   rcases ZE.mp hb with rfl|hb
   . exact ack _
   . rcases ZE.mp hb with rfl|hb
     . exact aak bf
     . cases hb
 . have:=h h' tk t' λb o e=>by
     refine hk b o (λhm=>?_) (Zr _ e)
     rcases ZE.mp hm with e1|hm
     . exact absurd (e1 ▸ Zz e) (aa_ _)
     . cases hm
   simpa[ads]using this
section
variable {X:Cx}
noncomputable def lb (ds:List D)(g:G):Option (D×G):=match ds with
 | [.tup xs]=>(dE xs).map λns=>(.int ns.sum,g)
 |ds=>yY ds g
theorem HR (hh:X.A.handled=none):cz X (.builtin "sum") (gH X.kw lb):=by
 intro pins s σ H xs us Q I r q
 obtain⟨ι,g,ds,d,g',G0,r1,q,p⟩:=q
 unfold lb at q
 split at q
 . rename_i ys
   obtain⟨ns,hn,q⟩:=ZF.mp q
   cases q
   simp only[ao,Rel]at r1
   obtain⟨v,_,rfl,⟨a,vs,rfl,hq,hr⟩,rfl⟩:=r1
   cases r with
   |cons ru rr =>
    cases rr
    cases ru
    obtain⟨aw,bA,ht,_⟩:=I.tuple hq.sq
    obtain⟨ps,rfl,rfl⟩:=g_ (fG hn hr bA)
    have hi:(ps.map (λp=>aeh p.1 p.2)).toArray=ads ps.toArray:=by simp[ads]
    rw[hi]at ht
    refine wV hh ht λh' tk t' hk=>?_
    rw[preSum_eq,aa8 (by simp)]
    exact⟨.int _,H,I.kept hk,⟨_,rfl⟩,p H ι _ Ext.refl G0 (by simp[Rel])⟩
 . exact LC hh pins s σ H xs us Q I r ⟨ι,g,_,d,g',G0,r1,q,p⟩
end
@[simp] theorem Pu {xs:List D}{g:G}:lb [.tup xs] g=(dE xs).map λns=>(.int ns.sum,g):=rfl
@[simp] theorem Pw {xs:List D}{g:G}:lb [.lst xs] g=(dE xs).map λns=>(.int ns.sum,g):=rfl
end L3
namespace L3
open PySem PySem.Spec PyProof.Rows L2 HT
section
variable {prog:ZY}{w:World}{A:ZV}{E:Value->Zo->Prop}{s:Zo}
theorem ma {t sl:Addr}{items:Array Value}{vl vu:Value}{lo hi:Option Int}{Q:Value->Zo->Prop}(ht:IsTup s.heap t items)(hs:s.heap.IsSliceOf sl vl vu .none)(pl:ac7 vl lo)(pu:ac7 vu hi)
  (hw:bG items.size 0 lo=0/\bG items.size items.size hi=items.size)
  (h:Q (.ref t) s):wpAny (model prog w) A (ado (.ref t) (.ref sl)) Q E s:=by
 obtain⟨os,uB,xa,pG⟩:=id hs
 have J9:s.TypeIs (.ref sl) "slice":=⟨os,uB,xa⟩
 unfold ado
 try with_reducible refine Z7 ?_
 first|refine Zm (Zp ?_)|skip
 refine Zm (acN ht.typeIs (by decide) ?_)
 refine Zm (aav (name:=ZW "__getitem__") ht.typeIs aaw
  (aaa aaw ht.typeIs ae4 ?_ (args_tuple_getitem _ _)))
 show wpAny _ _ (acs (.ref t) >>= _) _ _ s
 refine Zm (tupleItemsOf_ ht ?_)
 refine Zm (ac8 J9 ?_)
 rw[if_pos (by decide)]
 refine Zm (jG hs pl pu ?_)
 have SF:((((bG items.size 0 lo:Nat):Int)== 0&&(1:Int)== 1&&(bG items.size items.size hi-bG items.size 0 lo)== items.size)=true):=by
  rw[hw.1,hw.2];simp
 show wpAny _ _ (if(((bG items.size 0 lo:Nat):Int)== 0&&(1:Int)== 1&&(bG items.size items.size hi-bG items.size 0 lo)== items.size)=true then _ else _) _ _ s
 rw[if_pos SF]
 unfold Builtin.Tuple.tupleIsExact
 refine Zm (Zm (ac8 ht.typeIs (Zp ?_)))
 rw[if_pos (by decide)]
 refine Zm (aba (Zp ⟨_,rfl,Zp h⟩))
end
section
variable {X:Cx}
noncomputable def SG (K:KW):V->Option Int->Option Int->Hp->VK->Prop:=λx lo hi H Q=>∃a xs,x = .ref a/\dQ K H a xs/\(HT.bG xs.length 0 lo=0/\HT.bG xs.length xs.length hi=xs.length)/\Q (.ref a) H
theorem Df:n_ X (SG X.kw):=by
 intro pins s σ H x v vl vu lo hi sl Q I rx hs pl pu h
 obtain⟨a,xs,rfl,hx,hw,q⟩:=h
 cases rx
 obtain⟨aw,r,ht,hz⟩:=I.tuple hx
 have hlen:aw.toArray.size=xs.length:=by rw[Zt];exact r.length.symm
 refine⟨"tuple",_,aaw.lookup,ht.typeIs,?_⟩
 exact ma ht hs pl pu (by rw[hlen];exact hw) ⟨.ref a,H,I,rfl,q⟩
noncomputable def eQ (d:D)(lo hi:Option Int)(g:G):Option (D×G):=match d with
 |.tup xs=>some (.tup (cutD xs lo hi),g)
 |d=>pU d lo hi g
theorem AS {xs:List D}{lo hi:Option Int}(h:gn xs.length lo hi=true):cutD xs lo hi=xs:=by
 unfold gn at h
 rw[Zn,decide_eq_true_eq,decide_eq_true_eq]at h
 unfold cutD
 rw[h.1,h.2]
 simp
noncomputable def cR (fa:FE)(fl fh:FO):FE:=λσ g=>(fa σ g).bind λr=>(fl σ r.2).bind λl=>(fh σ l.2).bind λh=>eQ r.1 l.1 h.1 h.2
theorem AU {a:Expr}{lo hi:Option Expr}{fa:FE}{fl fh:FO}{p2 pos:Pos}(ha:DE X a fa)(hl:DO X lo fl)(hh:DO X hi fh):DE X (.Subscript a (.Slice lo hi none p2) pos) (cR fa fl fh):=.of (
 PE.imp (CH (n_.or HH Df) ha.un hl.un hh.un) λσ H Q h=>by
  obtain⟨ι,σd,g,d,g',G0,S0,h,p⟩:=h
  obtain⟨⟨d1,g1⟩,h1,h⟩:=bind_some h
  obtain⟨⟨l,g2⟩,h2,h⟩:=bind_some h
  obtain⟨⟨u,g3⟩,h3,h⟩:=bind_some h
  refine tD.bind G0 S0 h1 λH1 ι1 v e1 G1 S1 r1=>?_
  refine⟨ι1,σd,g1,l,g2,G1,S1,h2,λH2 ι2 e2 G2=>?_⟩
  refine⟨ι2,σd,g2,u,g3,G2,S1.ext e2,h3,λH3 ι3 e3 G3=>?_⟩
  have r3:=Rel.ext (e2.trans e3) _ r1
  have p3:=p.mono (e1.trans (e2.trans e3))
  have lst:∀{xs:List D} {a:Addr} {vs:List V},v = .ref a->dz X.kw H3 a vs->ao X.kw H3 ι3 xs vs->some (D.lst (cutD xs l u),g3)=some (d,g')->Lq X.kw v l u H3 Q:=fun {xs a vs} ev hq hr hh=>by
   cases hh
   refine .inr ⟨a,vs,ev,hq,λq b7=>p3 _ _ _ (Ext.lay b7) (G3.lay b7) ?_⟩
   simp only[Rel]
   exact⟨q,_,rfl,.inl ⟨.inl bC,G3.fresh b7,G3.iQ b7⟩,ao.ext (Ext.lay b7) _ (hr.Lp l u)⟩
  dsimp only at h
  cases d1 with
  |tup xs =>
   simp only[eQ]at h
   cases h
   have r4:=r3
   simp only[Rel]at r3
   obtain⟨a,vs,rfl,hq,hr⟩:=r3
   by_cases z:gn xs.length l u=true
   . refine .inr ⟨a,vs,rfl,hq.sq,?_,p3 _ _ _ Ext.refl G3 ?_⟩
     . unfold gn at z
       rw[hr.length,Zn,decide_eq_true_eq,decide_eq_true_eq]at z;exact z
     . rw[AS z];exact r4
   . refine .inl (.inl ⟨a,vs,rfl,hq.sq,λc=>z ?_,λq b7=>p3 _ _ _ (Ext.lay b7) (G3.lay b7) ?_⟩)
     . unfold gn
       rw[hr.length,Zn,decide_eq_true_eq,decide_eq_true_eq];exact c
     . simp only[Rel]
       exact⟨q,_,rfl,.inl ⟨.inl bC,G3.fresh b7⟩,ao.ext (Ext.lay b7) _ (hr.Lp l u)⟩
  |lst xs =>
   simp only[eQ,pU]at h
   simp only[Rel]at r3
   obtain⟨a,vs,e0,hq,hr⟩:=r3
   exact .inl (lst e0 hq.sq hr h)
  |ref n =>
   simp only[eQ,pU]at h
   split at h
   . rename_i xs hx
     simp only[Rel]at r3
     obtain⟨a,e0,ha⟩:=r3
     obtain⟨vs,hv,hr⟩:=G3.at hx ha
     exact .inl (lst e0 (.of hv) hr h)
   . cases h
  |_=>cases h)
end
@[simp] theorem HS {fa:FE}{fl fh:FO}{σ:Sg}{g:G}:cR fa fl fh σ g=(fa σ g).bind λr=>(fl σ r.2).bind λl=>(fh σ l.2).bind λh=>eQ r.1 l.1 h.1 h.2:=rfl
theorem jN {d:D}{lo hi:Option Int}{g g':G}{xs:List D}(h:pU (.tup xs) lo hi g=some (d,g')):eQ (.tup xs) lo hi g=some (d,g'):=by
 simp only[pU]at h
 split at h
 . cases h
 . exact h
end L3
namespace L3
open PySem PySem.Spec PyProof.Rows L2
mutual
noncomputable def nd:D->Nat
 |.tup xs=>QH xs+1
 |_=>1
noncomputable def QH:List D->Nat
 | []=>0
 |d::ds=>nd d+QH ds
end
section
variable {X:Cx}
noncomputable def js (ds:List D)(g:G):Option (D×G):=match ds with| [d]=>(ff d g).bind λxs=>(bools xs).map λbs=>(.bl (bs.any id),g)|_=>none
theorem HU (hc:X.calm=true):cz X (.builtin "any") (gH X.kw js):=by
 intro pins s σ H xs us Q I r q
 obtain⟨ι,g,ds,d,g',G0,r1,q,p⟩:=q
 cases ds with
 |nil=>cases q
 |cons e jL =>
 cases jL with
 |cons _ _=>cases q
 |nil =>
  simp only[js]at q
  obtain⟨ys,hx,q⟩:=bind_some q
  cases hb:bools ys with
  |none=>rw[hb]at q;cases q
  |some bs =>
   rw[hb]at q;cases q
   simp only[ao]at r1
   obtain⟨v,_,rfl,rv,rfl⟩:=r1
   obtain⟨a,vs,rfl,hq,hr⟩:=gF G0 rv hx
   obtain⟨u,rfl,ru⟩:=vals1 r
   cases ru
   obtain⟨aw,bA,pl,hz⟩:=I.list hq
   have e0:=mF hb hr bA
   subst e0
   have hl:=pl.isList
   have bf:a<s.heap.objs.size:=by obtain⟨_,e,_⟩:=hl;exact Zz e
   refine call_any_walk (adN hl ?_)
   refine⟨s.heap.objs.size,[s.heap.objs.size,a],[s.heap.objs.size],_,_,_,λi=>(bs[i]?).getD false,rfl,Walks.list (A:=X.A.in1) (I.ok.hd hc) _ a (ZP bf) _,
     ⟨⟨_,ZD _ rfl,rfl,rfl⟩,hl.push _⟩,λi v s' Q' E' hP hQ=>?_,λh' tk hk=>?_⟩
   . have kI:(bs.map abA)[i]? = some v:=by simpa using hP
     rw[Z1]at kI
     cases e:bs[i]? with
     |none=>rw[e]at kI;cases kI
     |some b =>
      rw[e]at kI;cases kI
      dsimp only at hQ
      rw[e]at hQ
      exact aai hQ
   . have e:((Zx (bs.map abA).toArray.size).any λi=>(bs[i]?).getD false)=bs.any id:=by
      rw[Zt,ZN];exact yR bs
     rw[e]
     exact⟨.bl _,H,I.kept (pT hk),rfl,p H ι _ Ext.refl G0 (by simp[Rel])⟩
end
section
variable {X:Cx}
noncomputable def Px (K:KW):V->List V->Hp->VK->Prop:=λx vs H Q=>∃a xs y j,x = .ref a/\dz K H a (xs.map toV)/\vs = [toV y]/\dw y=true/\xs.all dw=true/\iA xs y=some j/\Q (.int j) H
theorem AV:Qk X "list.index" (Px X.kw):=by
 intro pins s σ H x vs v us Q I rx rv h
 obtain⟨a,xs,y,j,rfl,hq,rfl,hy,hx,hj,q⟩:=h
 cases rx
 obtain⟨u,rfl,ru⟩:=rv.one
 obtain⟨aw,bA,pl,hz⟩:=I.list hq
 obtain⟨⟨cls,dd,data,sl⟩,n,hg,h2,h3,h4⟩:=id pl
 simp only at h2 h3 h4
 subst h2 h3 h4
 have fy:jn (toV y)=true:=(nz hy (qV (K:=X.kw) (H:=H) (ι:=⟨[],[],λ_=>0⟩) hy)).2
 have fx:(xs.map toV).all jn=true:=(oS hx (u3 (K:=X.kw) (H:=H) (ι:=⟨[],[],λ_=>0⟩) hx)).2
 unfold iA at hj
 rw[List.findIdx?_eq_some_iff_getElem]at hj
 obtain⟨bf,hit,J_⟩:=hj
 have hlen:(xs.map toV).length=aw.length:=bA.length
 rw[ZN]at hlen
 have hsz:j<aw.toArray.size:=by rw[Zt];omega
 have item:∀m (hm:m<xs.length) (u6:m<aw.toArray.size),EB (toV y) aw.toArray[m]=aH xs[m] y:=λm hm u6=>by
  obtain⟨u',e',r'⟩:=bA.get (i:=m) (x:=toV xs[m]) (by rw[Z1,Zq hm];rfl)
  have u7:m<aw.length:=by simpa using u6
  rw[Zq u7]at e'
  cases e'
  have fm:dw xs[m]=true:=ZH.mp hx _ (aau hm)
  rw[List.getElem_toArray,Ah r' (nz fm (qV (K:=X.kw) (H:=H) (ι:=⟨[],[],λ_=>0⟩) fm)).2,Pn fm hy]
 have Lk:aw.length<=ZM:=by
  have:=bA.length
  first|omega| (simp only[ZN]at *;omega)
 have YW:ZM<2 ^ 62:=by decide
 refine acj F.slot_list_index ⟨_,hg,rfl⟩ F.entry_list_index (F.args_list_index_2 _ _) (SeqAt.list_indexAt a aw.toArray n none sl u (EB (toV y)) j hsz (by rw[Zt]at hsz;omega) (by rw[item j bf hsz];exact hit) (λm hm WB=>by
  have u7:m<xs.length:=by omega
  rw[item m u7 hm]
  simpa using J_ m WB)) ⟨hg,λz hz=>uD ru fy bA fx z (by simpa using hz),?_⟩
 exact⟨.int j,H,I.tok _,⟨_,rfl⟩,q⟩
end
noncomputable def unlike (ns:List Int):Nat:=(abO (λi=>ns.getD i 0) ns.length).length
section
variable {X:Cx}
theorem LD:bB X (aah .LShift) (cJ X.kw (aP cN (λi j=>i*2 ^ j.toNat))):=gX JZ λi j h=>by
 unfold cN at h
 simp only[Zn]at h
 have h2:=aao h.2
 cases j with
 |ofNat n =>
  have h1:=aao (show ab2 n 1000000=true from h.1)
  exact⟨afn n,(by show((n:Nat):Int)<=1000000;omega),(by omega)⟩
 |negSucc n=>exact absurd h.1 (by simp)
theorem LF:bB X (aah .BitAnd) (cJ X.kw (aP a_ Z9)):=gX (bB.imp J0 λ_ _ _ _=>nq) λ_ _ _=>trivial
theorem Py:bB X (aah .BitOr) (cJ X.kw (aP a_ ab0)):=gX (bB.imp OO λ_ _ _ _=>nq) λ_ _ _=>trivial
end
end L3
namespace TL
open PySem PySem.Spec PySem.SeqAt PyProof.Rows
open AutoSeq1 (wpAny_loadPart')
open MeetsSeq MeetsSeq2 MeetsSeq3 SeqRoads2
noncomputable def lg (A:ZV)(s:Zo)(y x:Value)(b:Bool):Prop :=
 ∀(prog:ZY) (w:World) (E:Value->Zo->Prop) (Q:Value->Zo->Prop),Q (.bool b) s->wpAny (model prog w) A (richCompare .Lt y x) Q E s
inductive Lex (A:ZV)(s:Zo)(fin:Bool):List (Value×Value)->Bool->Prop
 |nil:Lex A s fin [] fin
 |eq {p q r k}:EqAt A s p q true->Lex A s fin r k->Lex A s fin ((p,q)::r) k
 |ne {p q r k}:EqAt A s p q false->lg A s p q k->Lex A s fin ((p,q)::r) k
theorem yZ (l b:Addr)(items fD:Array Value)(n n2:Nat)(dd mn:Option Addr)(sl i_:Array (Option Value))(k:Bool):
  Meets (aby.«tuple.__lt__» ⟨[.ref l,.ref b],[]⟩)
   (λA R s=>s.heap.get? l=some { cls:=.type "tuple",dict:=dd,data:=.seq items n,slots:=sl }/\s.heap.get? b=some { cls:=.type "tuple",dict:=mn,data:=.seq fD n2,slots:=i_ } /\
    Lex A.in1 s (decide (items.size<fD.size)) (items.toList.zip fD.toList) k/\R (.ok (.ret (.bool k))) s):=
 .of_wp λprog w A R s h=>by
  obtain⟨hp,g,d,tk,os⟩:=s;obtain⟨hl,hb,he,h⟩:=h
  have f2:=abp
  wp_walk using wpAny_loadPart' hl,wpAny_loadPart' hb,acn _ (λrest b s'=>b.1=none/\s'=⟨hp,g,d,tk,os⟩/\Lex A.in1 ⟨hp,g,d,tk,os⟩ (decide (items.size<fD.size)) rest k) _
  case turn =>
   rintro⟨y,x⟩ rest b s' ⟨fT,rfl,hz⟩
   cases hz with
   |eq e1 e2 =>
    refine Zm (e1 prog w _ _ ?_)
    wp_walk
    exact⟨rfl,rfl,e2⟩
   |ne e1 e2 =>
    refine Zm (e1 prog w _ _ ?_)
    simp only[ZK,if_true]
    refine Zm (aba ?_)
    refine Zm (e2 prog w _ _ ?_)
    wp_walk
    exact⟨_,rfl,h⟩
  case fin =>
   rintro⟨b1,b2⟩ s' ⟨fT,rfl,hz⟩
   simp only at fT
   subst fT
   cases hz
   wp_walk
   exact⟨_,rfl,by simpa[Builtin.Tuple.tupleCompareSizes]using h⟩
  case h =>
   exact⟨rfl,rfl,he⟩
section
variable {A:ZV}{s:Zo}
theorem lg.tuples {l b:Addr}{items fD:Array Value}{k:Bool}(hl:s.heap.IsTuple l items)(hb:s.heap.IsTuple b fD)(hu:A.units<cLine)
  (he:Lex A.in1 s (decide (items.size<fD.size)) (items.toList.zip fD.toList) k):lg A s (.ref l) (.ref b) k:=λprog w E Q h=>by
 obtain⟨⟨cls,dd,data,sl⟩,ho,hc,n,hd⟩:=id hl
 obtain⟨⟨CF,mn,data2,i_⟩,gm,ja,n2,hd2⟩:=id hb
 simp only at hc hd ja hd2
 subst hc hd ja hd2
 exact richCompare_meets_room (op:=.Lt) ⟨_,ho,rfl⟩ ⟨_,gm,rfl⟩ F.slot_tuple_lt F.entry_tuple_lt (F.args_tuple_lt_2 _ _) (yZ l b items fD n n2 dd mn sl i_ k)
  ⟨ho,gm,he,show abA k≠aeQ/\Q (.bool k) s from⟨(λx=>nomatch x),h⟩⟩ hu
theorem lg.ints (a b:Int)(t u:Tok):lg A s (.int a t) (.int b u) (decide (a<b)):=λprog w E Q h =>
 aes (op:=.Lt) (adT s a t) (adT s b u) slot_int_lt (call_int_lt ⟨(λx=>nomatch x),h⟩)
theorem lg.strs (a b:Str)(t u:Tok):lg A s (.str a t) (.str b u) (decide (a.cps.toList<b.cps.toList)):=λprog w E Q h =>
 aes (op:=.Lt) (aeN s a t) (aeN s b u) slot_str_lt (call_str_lt ⟨(λx=>nomatch x),h⟩)
end
open PySem.W
section
variable {prog:ZY}{w:World}{A:ZV}{E:Value->Zo->Prop}{s:Zo}
noncomputable def dG (h:Heap)(a:Addr)(vs:List Value):Heap:=((h.update a (abn λ_=>#[])).push (aaQ "tuple" vs.toArray 0)).push (aaQ "list" #[] 0)
theorem wW {h:Heap}{a b:Addr}{vs:List Value}{o:Obj}(hb:b≠a)(ho:h.get? b=some o):(dG h a vs).get? b=some o:=by
 unfold dG
 have bf:=Zz ho
 rw[abr _ _ _ (by rw[size_push',abX];exact ZP (aak bf)),abr _ _ _ (by rw[abX];exact ZP bf),ae7 _ _ _ _ hb]
 exact ho
end
end TL
namespace L3
open PySem PySem.Spec PyProof.Rows L2
section
variable {X:Cx}{pins:List (Addr×Obj)}{σ:L2.St}{H:Hp}{s:Zo}{ι:Ix}
noncomputable def tt:D->Bool
 |.tup (.tup _::_)=>true
 |_=>false
end
noncomputable def eC (nn L:Nat)(t:FG)(c:FT)(e:FE):Nat->Sg->G->Option (List D×G)
 | 0,_,g=>(g[nn]?).bind λxs=>if xs.length=L then some ([],g)else none
 |r+1,σ,g=>(g[nn]?).bind λxs=>if xs.length=L then(xs[L-(r+1)]?).bind λd=>(t d σ g).bind λq=>(c q.1 q.2).bind λk=>if k.1=true then(e q.1 k.2).bind λr'=>(eC nn L t c e r q.1 r'.2).bind λz=>some (r'.1::z.1,z.2)else eC nn L t c e r q.1 k.2 else none
abbrev fU:=Sg->G->Option (Nat×Nat×G)
noncomputable def y0 (K:KW)(J:It)(H:Hp)(ι:Ix)(nn L:Nat):Prop :=
 ∀(i:Nat) H1 ι1 g1,ib H ι H1 ι1->aB K H1 ι1 g1->∀xs,g1[nn]? = some xs->xs.length=L->(L<=i->J.stop i H1) /\ ∀d,xs[i]? = some d->J.go i H1 /\ ∀x H2,J.uv i H1 x H2->Ext H1 ι1 H2 ι1/\aB K H2 ι1 g1/\Rel K H2 ι1 d x
inductive LG (K:KW)(f:fU)(σ:L2.St)(H:Hp)(R:(It->Hp->Prop)):Prop
 |mk (ι:Ix) (σd:Sg) (g:G) (nn:Nat) (L:Nat) (g':G) (h0:aB K H ι g) (h1:bR K H ι σd σ) (h2:f σd g=some (nn,L,g')) (h3:∀H' ι' J,Ext H ι H' ι'->aB K H' ι' g'->y0 K J H' ι' nn L->R J H'):LG K f σ H R
structure EV (X:Cx)(tg iter:Expr)(f:fU):Prop where of ::
 un:PI X tg iter (LG X.kw f)
noncomputable def mJ (f:FE):fU:=λσ g=>(f σ g).bind λr=>match r.1 with|.ref n=>(r.2[n]?).bind λxs=>some (n,xs.length,r.2)|_=>none
theorem y0.ref {K H ι a n L}(h:d_ ι n a false):y0 K (EA K a) H ι n L:=λi H1 ι1 g1 e1 G1 xs hx hl=>by
 obtain⟨vs,hv,hr⟩:=G1.at hx (e1.at h)
 have hq:dz K H1 a vs:=.inl (.inl hv)
 refine⟨λh=>⟨vs,hq,by rw[<- hr.length];omega⟩,λd hd=>?_⟩
 obtain⟨v,ET,rv⟩:=hr.get hd
 refine⟨⟨vs,v,hq,ET⟩,λx H2 y=>?_⟩
 obtain⟨rfl,y⟩:=y
 have:=y vs hq
 rw[ET]at this;cases this
 exact⟨Ext.refl,G1,rv⟩
theorem xy {X:Cx}{tg l:Expr}{fe:FE}(hl:DE X l fe):EV X tg l (mJ fe):=.of (PI.imp (w9 hl.un) λσ H Q h=>by
 obtain⟨ι,σd,g,nn,L,g',G0,S0,h,p⟩:=h
 obtain⟨⟨d1,g1⟩,h1,h⟩:=bind_some h
 cases d1 with
 |ref n =>
  obtain⟨xs,hx,h⟩:=bind_some h
  cases h
  refine tD.bind G0 S0 h1 λH1 ι1 v e1 G1 S1 r1=>?_
  simp only[Rel]at r1
  obtain⟨a,rfl,ha⟩:=r1
  obtain⟨vs,hv,hr⟩:=G1.at hx ha
  exact⟨a,rfl,⟨vs,.inl (.inl hv)⟩,p H1 ι1 _ e1 G1 (.ref ha)⟩
 |_=>cases h)
noncomputable def fH (mk:List D->G->Option (D×G))(fi:fU)(fr:List (Option Nat))(t:FG)(c:FT)(e:FE):FE:=λσ g=>(fi σ g).bind λr=>if aD r.2.1=true then(eC r.1 r.2.1 t c e r.2.1 (bH fr σ) r.2.2).bind λq=>mk q.1 q.2 else none
noncomputable def LH (fi:fU):om:=λσ g=>(fi σ g).map λr=>(λg=>g[r.1]?,r.2.1,r.2.2)
theorem xA {X:Cx}{tg iter:Expr}{fi:fU}(h:EV X tg iter fi):uR X tg iter (LH fi):=.of (PI.imp h.un λσ H Q q=>by
 obtain⟨ι,σd,g,sh,L,g',G0,S0,h2,p⟩:=q
 obtain⟨⟨nn,L1,g1⟩,h1,e⟩:=ZF.mp h2
 cases e
 exact⟨ι,σd,g,nn,L1,g1,G0,S0,h1,λH' ι' J e1 G1 J1=>p H' ι' J e1 G1 J1⟩)
theorem u9 {nn L:Nat}{t:FG}{c:FT}{e:FE}:∀(k:Nat) (σ:Sg) (g:G),eC nn L t c e k σ g=cS (λg=>g[nn]?) L t c e k σ g
 | 0,σ,g=>by simp only[eC,cS]
 |k+1,σ,g=>by simp only[eC,cS,u9 k]
theorem u_ {mk:List D->G->Option (D×G)}{fi:fU}{fr:List (Option Nat)}{t:FG}{c:FT}{e:FE}:fH mk fi fr t c e=iS mk (LH fi) fr t c e:=by
 funext σ g
 unfold fH iS LH
 cases fi σ g with
 |none=>rfl
 |some r=>simp only[Zv,aab,u9]
section
variable {X:Cx}{tg iter elt:Expr}{ifs:List Expr}{scope:Scope}{pos fW:Pos}{N:List Str}{fr:List (Option Nat)}{fi:fU}{t:FG}{c:FT}{e:FE}
theorem Dg (jh:X.xe=λ_ _=>False)(hc:X.calm=true)(ok:fB X N fr scope)(hit:EV X tg iter fi)(dk:∀C s3 H fp pins,DG (bP X N scope C s3 H fp pins) tg t/\iu (bP X N scope C s3 H fp pins) ifs c/\DE (bP X N scope C s3 H fp pins) elt e)
  (hs:∀x,aaj iter X.env x=pure x:=by intro _;rfl):DE X (.ListComp elt [⟨tg,iter,ifs,0⟩] scope pos) (fH aV fi fr t c e):=by
 rw[u_];exact oO jh hc ok (xA hit) dk hs
theorem vc {i:Nat}{x:Str}{px mC:Pos}(jh:X.xe=λ_ _=>False)(hc:X.calm=true)(ok:fB X N fr scope)(hit:EV X tg iter fi)(dk:∀C s3 H fp pins,DG (bP X N scope C s3 H fp pins) tg t/\iu (bP X N scope C s3 H fp pins) ifs c/\DE (bP X N scope C s3 H fp pins) elt e)
  (hN:X.N.Nodup) (hi:X.N[i]? = some x) (hx:Loc X.env.scope x) (pO:ach (.ListComp elt [⟨tg,iter,ifs,0⟩] scope pos) (some (.Name x px)) mC.line X.env=pure true:=by rfl)
  (hs:∀x,aaj iter X.env x=pure x:=by intro _;rfl) (hf:X.fn x=true\/X.env.scope.names.lookup x=some .local:=by first|exact .inl rfl|exact .inr rfl|assumption):
  DS X (.Assign [.Name x px] (.ListComp elt [⟨tg,iter,ifs,0⟩] scope pos) mC) (aA (fH aV fi fr t c e) (gN i)):=
 by rw[u_];exact mB (λe' _ G' hD r hn h4 p=>oN e' G' hD r hn h4 p) jh hc ok (xA hit) dk hN hi hx pO hs hf
end
section
variable {σ:Sg}{g:G}{fa:FE}
@[simp] theorem HV:mJ fa σ g=(fa σ g).bind λr=>match r.1 with|.ref n=>(r.2[n]?).bind λxs=>some (n,xs.length,r.2)|_=>none:=rfl
@[simp] theorem AW {mk:List D->G->Option (D×G)}{fi:fU}{fr:List (Option Nat)}{t:FG}{c:FT}:fH mk fi fr t c fa σ g=(fi σ g).bind λr=>if aD r.2.1=true then(eC r.1 r.2.1 t c fa r.2.1 (bH fr σ) r.2.2).bind λq=>mk q.1 q.2 else none:=rfl
end
theorem mK {t:FG}{c:FT}{e:FE}{nn:Nat}{g:G}{xs:List D}(hx:g[nn]? = some xs):∀(k:Nat) (σ:Sg) (r:List D),k<=xs.length->(∀σ d q,t d σ g=some q->q.2=g)->(∀σ q,c σ g=some q->q.2=g)->(∀σ q,e σ g=some q->q.2=g)->b6 t c e (xs.drop (xs.length-k)) σ g=some (r,g)->eC nn xs.length t c e k σ g=some (r,g)
 | 0,σ,r,_,_,_,_,h=>by
  simp only[Nat.sub_zero,List.drop_length,b6]at h
  cases h
  simp[eC,hx]
 |k+1,σ,r,hk,ht,hc,he,h=>by
  have bf:xs.length-(k+1)<xs.length:=by omega
  rw[aaT bf,show xs.length-(k+1)+1=xs.length-k by omega]at h
  simp only[b6]at h
  obtain⟨q,h1,h⟩:=bind_some h
  obtain⟨b,h2,h⟩:=bind_some h
  obtain⟨q1,q2⟩:=q
  obtain⟨b1,b2⟩:=b
  have:=ht _ _ _ h1
  dsimp only at this;subst this
  have:=hc _ _ h2
  dsimp only at this;subst this
  simp only[eC,hx,Zv,Zq bf,h1,h2,if_true]
  cases b1 with
  |false =>
   simp only[ZG,if_false]at h ⊢
   exact mK hx k q1 r (by omega) ht hc he h
  |true =>
   simp only[if_true]at h ⊢
   obtain⟨⟨d3,g3⟩,h3,h⟩:=bind_some h
   have:=he _ _ h3
   dsimp only at this;subst this
   obtain⟨⟨z1,z2⟩,h4,h⟩:=bind_some h
   cases h
   rw[h3]
   simp only[Zv]
   rw[mK hx k q1 z1 (by omega) ht hc he h4]
   rfl
noncomputable def ck:FE:=λ_ _=>none
theorem bW {X:Cx}{e:Expr}:DE X e ck:=.of (λpins s σ H Q I h=>by
 obtain⟨ι,σd,g,d,g',G0,S0,h,p⟩:=h
 cases h)
@[simp] theorem SH {σ:Sg}{g:G}:ck σ g=none:=rfl
end L3
namespace L3
open PySem PySem.Spec PyProof.Rows L2
open Sem (wp)
open Builtin
end L3
namespace L3
open PySem PySem.Spec PyProof.Rows L2
noncomputable abbrev QI (h:Heap)(a:Addr):Heap:=h.push { cls:=.type "list_iterator",data:=.fields #[.ref a,.int 0 0] }
noncomputable abbrev lV (h:Heap)(a b:Addr):Heap:=QI (QI h a) b
end L3
namespace DK
open PySem PySem.Spec PyProof.Rows L2 L3 SeqAt
def fO (s:Zo)(m:Nat)(u:Value):Prop:=∀(prog:ZY) (w:World) (A:ZV) (E:Value->Zo->Prop) (Q:Bool->Zo->Prop),Q true s->wpAny (model prog w) A (aek m u) Q E s
structure EW (A:ZV)(s:Zo)(key:Value)(h:Int)(es:Array ZX)(t:Nat->Bool):Prop where
 eq:∀i e,es[i]? = some e->e.hash=h->EqAt A s e.key key (t i)
 hs:∀i e,es[i]? = some e->t i=true->e.hash=h
 qk:fO s 8 key
 qe:∀e∈es,fO s 8 e.key
 rf:∀e∈es,e.key=key->e.hash=h
 un:∀i j,i<es.size->j<es.size->t i=true->t j=true->i=j
 st:∀x tk,key = .str x tk->∀i e,es[i]? = some e->isExactStrKey e.key=true->e.key.isStr x=t i
section
variable {prog:ZY}{w:World}{A:ZV}{E:Value->Zo->Prop}{s:Zo}{d:Addr}{o:Obj}{es:Array ZX}{ep:Nat}{key:Value}{h:Int}{t:Nat->Bool}{Q:Option Nat->Zo->Prop}
theorem oT {stored:List Value}{Q:Bool->Zo->Prop}(hk:fO s 8 key)(cH:∀v∈stored,fO s 8 v)(q:Q false s):wpAny (model prog w) A (tableMayTell key stored) Q E s:=by
 unfold tableMayTell
 split
 . exact Zp q
 refine Zm (hk prog w _ _ _ ?_)
 simp only[ZI,ZG,if_false]
 refine Zm (acn _ (λrest r z=>z=s/\r=(none,()) /\ ∀v∈rest,fO s 8 v) _ ?_ ?_ _ _ ⟨rfl,rfl,cH⟩)
 . rintro x rest r z ⟨rfl,rfl,hr⟩
   refine Zm (hr x ZO prog w _ _ _ ?_)
   simp only[ZI,ZG,if_false]
   exact Zp ⟨rfl,rfl,λv hv=>hr v (ZQ _ hv)⟩
 . rintro r z ⟨rfl,rfl,_⟩
   exact Zp q
theorem lh {i:Nat}:i∈aaz es.size (λi=>es[i]?.map (·.hash)) h ↔ ∃e,es[i]? = some e/\e.hash=h:=by
 unfold aaz
 simp only[ZU,ZJ,beq_iff_eq,ZF]
 constructor
 . rintro⟨_,e,a,b⟩;exact⟨e,a,b⟩
 . rintro⟨e,a,b⟩;exact⟨(abH.mp a).1,e,a,b⟩
theorem vd:(aaz es.size (λi=>es[i]?.map (·.hash)) h).Nodup:=by
 unfold aaz
 exact ad7.sublist ae8
theorem nA (ho:s.heap.get? d=some o)(hd:o.data = .dict es ep)(K:EW A s key h es t)(hn:(∀i,i<es.size->t i=false)->Q none s)(hy:∀i,i<es.size->t i=true->Q (some i) s):
  wpAny (model prog w) A (dictFind d key h) Q E s:=by
 have none_of:(∀i∈aaz es.size (λi=>es[i]?.map (·.hash)) h,t i=false)->Q none s:=λz=>hn λi hi=>by
  cases ht:t i with
  |false=>rfl
  |true =>
    have e1:=acz hi
    rw[z i (lh.mpr ⟨_,e1,K.hs i _ e1 ht⟩)]at ht;cases ht
 have gen:∀tells:Bool,tells=false->wpAny (model prog w) A (do
    let mut hit:Option Nat:=none
    for i in aaz es.size (λi=>es[i]?.map (·.hash)) h do
      if let some e:=es[i]? then
        if e.hash == h then
          let before <- dictEpoch d (keyPart key)
          let same <- eqBool e.key key
          if(<- dictEpoch d (keyPart key)) != before then unsupported "dict.changed-during-lookup"
          if same then
            if hit.isSome then unsupported "dict.find:order-among-keys-of-one-hash"
            rule "dict.find.hit"
            if((aaz es.size (λi=>es[i]?.map (·.hash)) h).filterMap λi=>es[i]?.map (·.key)).length<2 then return some i
            hit:=some i
          else
            rule "dict.find.same-hash-other-key"
            if tells && !(0<=h&&h<32)then unsupported "dict.find:asked-again-or-not-hangs-on-the-table"
    return hit) Q E s:=λtells WC=>by
  subst WC
  refine Zm (acn _ (λrest (b:Option (Option Nat)×Option Nat) z=>z=s /\ ∃done,aaz es.size (λi=>es[i]?.map (·.hash)) h=done++rest/\b.1=none /\
    ((b.2=none /\ ∀i∈done,t i=false) \/ ∃i,b.2=some i/\i∈done/\i<es.size/\t i=true)) _ ?_ ?_ _ _ ⟨rfl,[],rfl,rfl,.inl ⟨rfl,λi z=>by simp at z⟩⟩)
  . rintro x rest ⟨b1,hit⟩ z ⟨rfl,done,hp,rfl,hb⟩
    have hx:x∈aaz es.size (λi=>es[i]?.map (·.hash)) h:=by rw[hp];simp
    obtain⟨e,he,hh⟩:=lh.mp hx
    have bf:x<es.size:=(abH.mp he).1
    have lW:aaz es.size (λi=>es[i]?.map (·.hash)) h=(done ++ [x])++rest:=by rw[hp];simp
    rw[he]
    dsimp only at hb ⊢
    rw[if_pos (by simpa using hh)]
    refine Zm (aa2 ho hd (Zm (K.eq x e he hh prog w _ _ (Zm (aa2 ho hd ?_)))))
    rw[if_neg (by simp)]
    cases ht:t x with
    |true =>
      have h0:hit=none:=by
        rcases hb with⟨h0,_⟩|⟨i,_,hi,ig,u5⟩
        . exact h0
        . have:=K.un i x ig bf u5 ht
          subst this
          have nd:=vd (es:=es) (h:=h)
          rw[hp,aaD]at nd
          exact absurd rfl (nd.2.2 i hi i ZO)
      subst h0
      simp only[if_true,Option.isSome_none,ZG,if_false]
      try refine Zm (Zp ?_)
      refine Zm (aba ?_)
      split
      . exact Zp (Zp (hy x bf ht))
      . exact Zp ⟨rfl,done ++ [x],lW,rfl,.inr ⟨x,rfl,by simp,bf,ht⟩⟩
    |false =>
      simp only[ZG,if_false,aey]
      refine Zm (aba ?_)
      refine Zp ⟨rfl,done ++ [x],lW,rfl,?_⟩
      rcases hb with⟨h0,hz⟩|⟨i,h1,hi,ig,u5⟩
      . exact .inl ⟨h0,λi hi=>by
          rcases Zw.mp hi with hi|hi
          . exact hz i hi
          . simp at hi;subst hi;exact ht⟩
      . exact .inr ⟨i,h1,Zw.mpr (.inl hi),ig,u5⟩
  . rintro⟨b1,hit⟩ z ⟨rfl,done,hp,rfl,hb⟩
    dsimp only at hb ⊢
    refine Zp ?_
    rcases hb with⟨rfl,hz⟩|⟨i,rfl,_,ig,u5⟩
    . exact none_of (by rw[hp];simpa using hz)
    . exact hy i ig u5
 have plain:wpAny (model prog w) A (dictWalkPlain d key h es (aaz es.size (λi=>es[i]?.map (·.hash)) h)) Q E s:=by
  unfold dictWalkPlain
  refine Zm (acn _ (λrest b z=>z=s /\ ∃done,aaz es.size (λi=>es[i]?.map (·.hash)) h=done++rest/\b=(none,()) /\ ∀i∈done,t i=false) _ ?_ ?_ _ _ ⟨rfl,[],rfl,rfl,λi z=>by simp at z⟩)
  . rintro x rest b z ⟨rfl,done,hp,rfl,hb⟩
    have hx:x∈aaz es.size (λi=>es[i]?.map (·.hash)) h:=by rw[hp];simp
    obtain⟨e,he,hh⟩:=lh.mp hx
    have bf:x<es.size:=(abH.mp he).1
    rw[he]
    dsimp only
    rw[if_pos (by simpa using hh)]
    refine Zm (aa2 ho hd (Zm (K.eq x e he hh prog w _ _ (Zm (aa2 ho hd ?_)))))
    rw[if_neg (by simp)]
    cases ht:t x with
    |true =>
      simp only[if_true]
      refine Zm (aba ?_)
      exact Zp (Zp (hy x bf ht))
    |false =>
      simp only[ZG,if_false]
      refine Zm (aba ?_)
      refine Zp ⟨rfl,done ++ [x],by rw[hp];simp,rfl,λi hi=>?_⟩
      rcases Zw.mp hi with hi|hi
      . exact hb i hi
      . simp at hi;subst hi;exact ht
  . rintro b z ⟨rfl,done,hp,rfl,hb⟩
    exact Zp (none_of (by rw[hp];simpa using hb))
 have keys:∀v∈(aaz es.size (λi=>es[i]?.map (·.hash)) h).filterMap (λi=>es[i]?.map (·.key)),fO s 8 v:=λv hv=>by
  obtain⟨i,_,hi⟩:=ab5.mp hv
  obtain⟨e,he,rfl⟩:=ZF.mp hi
  exact K.qe e (acX he)
 unfold dictFind
 refine Z7 ?_
 refine Zm (aa0 ho hd ?_)
 cases key with
 |str x tk =>
  refine aap (λkX=>?_) (λ_=>?_)
  . unfold foundByValue
    have ft:∀i e,es[i]? = some e->e.key.isStr x=t i:=λi e he=>K.st x tk rfl i e he (Array.all_eq_true_iff_forall_mem.mp kX e (acX he))
    cases hf:es.findIdx? (·.key.isStr x)with
    |none =>
      refine Zp (hn λi hi=>?_)
      rw[<- ft i _ (acz hi)]
      simpa using (Array.findIdx?_eq_none_iff.mp hf) es[i] (Array.getElem_mem hi)
    |some i =>
      obtain⟨hi,h1,_⟩:=Array.findIdx?_eq_some_iff_getElem.mp hf
      have e1:=acz hi
      rw[ft i _ e1]at h1
      dsimp only
      rw[e1]
      refine Zm (aa2 ho hd (Zm (K.eq i _ e1 (K.hs i _ e1 h1) prog w _ _ (Zm (aa2 ho hd ?_)))))
      refine aap (λz=>by simp at z) (λ_=>?_)
      rw[h1]
      exact Zm (aba (Zp (hy i hi h1)))
  . refine aap (λ_=>plain) (λ_=>?_)
    refine aap (λ_=>Zm (Zp ?_)) (λ_=>Zm (oT K.qk keys ?_))<;>
      exact aap (λz=>by simp at z) (λ_=>gen false rfl)
 |ref a =>
  refine aap (λz=>by simp[carriedByValue]at z) (λ_=>?_)
  refine aap (λz=>?_) (λ_=>?_)
  . rw[<- Array.any_toList,aaW]at z
    obtain⟨e,he,hc⟩:=z
    simp only[Zn,beq_iff_eq,bne_iff_ne,ne_eq]at hc
    exact absurd (K.rf e (aeR.mp he) hc.1) hc.2
  . refine aap (λ_=>Zm (Zp ?_)) (λ_=>Zm (oT K.qk keys ?_))<;>
      exact aap (λz=>by simp at z) (λ_=>gen false rfl)
 |_ =>
  refine aap (λ_=>plain) (λ_=>?_)
  refine aap (λ_=>Zm (Zp ?_)) (λ_=>Zm (oT K.qk keys ?_))<;>
    exact aap (λz=>by simp at z) (λ_=>gen false rfl)
end
section
variable {X:Cx}{pins:List (Addr×Obj)}{σ:L2.St}{H:Hp}{ι:Ix}{prog:ZY}{E:Value->Zo->Prop}
mutual
theorem mL:∀(d:D) {n:Nat} {s:Zo} {A:ZV} {x:V} {u:Value} {Q:Int->Zo->Prop},Inv X pins σ H s->bD n d=true->Rel X.kw H ι d x->RelV x u->A.units+n<cLine ->
  (∀tk,Q (hD X.w d) { s with toks:=tk })->wpAny (model prog X.w) A (pyHash u) Q E s
 |.az,n,s,A,x,u,Q,I,k,r,ru,hu,q=>by
  simp only[Rel]at r;subst r;cases ru
  simp only[hD]at q
  exact ae9 (T:="NoneType") rfl F.slot_NoneType_hash F.entry_NoneType_hash (F.args_NoneType_hash_1 _) (ad8 _) (.inr (by omega)) (Zm (Zp (Zm (afS (Zp ⟨_,_,rfl,q _⟩)))))
 |.int i,n,s,A,x,u,Q,I,k,r,ru,hu,q=>by
  simp only[Rel]at r;subst r;obtain⟨t,rfl⟩:=ru
  simp only[hD]at q
  exact wpAny_pyHash_int (q _)
 |.str y,n,s,A,x,u,Q,I,k,r,ru,hu,q=>by
  simp only[Rel]at r;subst r;obtain⟨t,rfl⟩:=ru
  simp only[hD]at q
  exact wpAny_pyHash_str (q _)
 |.tup xs,n+1,s,A,x,u,Q,I,k,r,ru,hu,q=>by
  simp only[Rel]at r
  obtain⟨a,vs,rfl,hq,hr⟩:=r
  cases ru
  obtain⟨aw,bA,⟨o,h1,h2,m,h3⟩,_⟩:=I.tuple hq.sq
  simp only[hD]at q
  simp only[bD]at k
  refine ae9 (T:="tuple") ⟨o,h1,h2⟩ F.slot_tuple_hash F.entry_tuple_hash (F.args_tuple_hash_1 _) (ad8 _) (.inr (by omega)) ?_
  show wpAny _ _ (acs (.ref a) >>= _) _ _ s
  refine Zm (wpAny_tupleItemsOf h1 h3 (Zm ?_))
  rw[<- afo]
  refine xB xs (acc:=#[]) I k hr bA (by rw[in1_units];omega) λtk b hb=>?_
  show wpAny _ _ (retInt (adU b.toList)) _ _ _
  rw[hb]
  exact Zm (afS (Zp ⟨_,_,rfl,q _⟩))
 |.tup xs,0,s,A,x,u,Q,I,k,r,ru,hu,q=>by simp[bD]at k
 |.bl _,n,s,A,x,u,Q,I,k,r,ru,hu,q=>by simp[bD]at k
 |.lst _,n,s,A,x,u,Q,I,k,r,ru,hu,q=>by simp[bD]at k
 |.dA,n,s,A,x,u,Q,I,k,r,ru,hu,q=>by simp[bD]at k
 |.ref _,n,s,A,x,u,Q,I,k,r,ru,hu,q=>by simp[bD]at k
 |.aI _,n,s,A,x,u,Q,I,k,r,ru,hu,q=>by simp[bD]at k
 |.fn _,n,s,A,x,u,Q,I,k,r,ru,hu,q=>by simp[bD]at k
theorem xB:∀(ds:List D) {n:Nat} {s:Zo} {A:ZV} {vs:List V} {us:List Value} {acc:Array Int} {Q:Array Int->Zo->Prop},Inv X pins σ H s->eY n ds=true->ao X.kw H ι ds vs->Vals vs us->A.units+n<cLine ->
  (∀tk b,b.toList=acc.toList++Am X.w ds->Q b { s with toks:=tk }) ->
  wpAny (model prog X.w) A (forIn us acc λx r=>do let h <- pyHash x;pure aeS;pure (abo (r.push h))) Q E s
 | [],n,s,A,vs,us,acc,Q,I,k,r,ru,hu,q=>by
  simp only[ao]at r;subst r;cases ru
  exact Zp (q s.toks acc (by simp[Am]))
 |d::ds,n,s,A,vs,us,acc,Q,I,k,r,ru,hu,q=>by
  simp only[ao]at r
  obtain⟨v,vr,rfl,hv,hr⟩:=r
  simp only[eY,Zn]at k
  cases ru with
  |cons r0 rr =>
   rw[ac_]
   refine Zm (Zm (mL d I k.1 hv r0 hu λtk=>Zm (Zp (Zp ?_))))
   exact xB ds (I.tok tk) k.2 hr rr hu λxC b hb=>q xC b (by simp[hb,Am])
end
mutual
theorem qY:∀(d:D) {n m:Nat} {s:Zo} {x:V} {u:Value},Inv X pins σ H s->bD n d=true->n<=m->Rel X.kw H ι d x->RelV x u->fO s m u
 |.az,n,m,s,x,u,I,k,hm,r,ru=>by
  simp only[Rel]at r;subst r;cases ru
  intro prog w A E Q q;unfold aek;exact Zp q
 |.int i,n,m,s,x,u,I,k,hm,r,ru=>by
  simp only[Rel]at r;subst r;obtain⟨t,rfl⟩:=ru
  intro prog w A E Q q;unfold aek;exact Zp q
 |.str y,n,m,s,x,u,I,k,hm,r,ru=>by
  simp only[Rel]at r;subst r;obtain⟨t,rfl⟩:=ru
  intro prog w A E Q q;unfold aek;exact Zp q
 |.tup xs,n+1,m,s,x,u,I,k,hm,r,ru=>by
  simp only[Rel]at r
  obtain⟨a,vs,rfl,hq,hr⟩:=r
  cases ru
  obtain⟨aw,bA,⟨o,h1,h2,z,h3⟩,_⟩:=I.tuple hq.sq
  simp only[bD]at k
  intro prog w A E Q q
  have hT:s.TypeIs (.ref a) "tuple":=⟨o,h1,h2⟩
  obtain⟨m,rfl⟩:∃j,m=j+1:=⟨m-1,by omega⟩
  unfold aek
  refine Zm (ade hT F.slot_tuple_eq.lookup ?_)
  show wpAny _ _ (isInstance (.ref a) (.type "tuple") >>= _) _ _ s
  refine Zm (ad9 hT isSubtype_tuple_tuple ?_)
  simp only[ZI,ZG,if_false]
  refine Zm (aeD h1 h3 (Zm ?_))
  show wpAny _ _ (forIn aw.toArray _ _) _ _ s
  rw[<- afo]
  have WD:=ve xs (m:=m) I k (by omega) hr bA
  refine acn _ (λrest r s'=>r.1=none/\s'=s /\ ∀v∈rest,fO s m v) _ ?_ ?_ _ _ ⟨rfl,rfl,WD⟩
  . rintro v rest r s' ⟨hr,rfl,kX⟩
    refine Zm (kX v ZO prog w _ _ _ ?_)
    simp only[ZI,ZG,if_false]
    exact Zp ⟨rfl,rfl,λu WE=>kX u (ZQ _ WE)⟩
  . rintro⟨r1,r2⟩ s' ⟨hr,rfl,_⟩
    simp only at hr
    subst hr
    exact Zp q
 |.tup xs,0,m,s,x,u,I,k,hm,r,ru=>by simp[bD]at k
 |.bl _,n,m,s,x,u,I,k,hm,r,ru=>by simp[bD]at k
 |.lst _,n,m,s,x,u,I,k,hm,r,ru=>by simp[bD]at k
 |.dA,n,m,s,x,u,I,k,hm,r,ru=>by simp[bD]at k
 |.ref _,n,m,s,x,u,I,k,hm,r,ru=>by simp[bD]at k
 |.aI _,n,m,s,x,u,I,k,hm,r,ru=>by simp[bD]at k
 |.fn _,n,m,s,x,u,I,k,hm,r,ru=>by simp[bD]at k
theorem ve:∀(ds:List D) {n m:Nat} {s:Zo} {vs:List V} {us:List Value},Inv X pins σ H s->eY n ds=true->n<=m->ao X.kw H ι ds vs->Vals vs us->∀v∈us,fO s m v
 | [],n,m,s,vs,us,I,k,hm,r,ru=>by
  simp only[ao]at r;subst r;cases ru
  intro v hv;simp at hv
 |d::ds,n,m,s,vs,us,I,k,hm,r,ru=>by
  simp only[ao]at r
  obtain⟨v,vr,rfl,hv,hr⟩:=r
  simp only[eY,Zn]at k
  cases ru with
  |cons r0 rr =>
   intro z hz
   rcases ZE.mp hz with rfl|hz
   . exact qY d I k.1 hm hv r0
   . exact ve ds I k.2 hm hr rr z hz
end
end
mutual
theorem jO:∀(d:D) {n:Nat},bD n d=true->flat d=true/\dep d<=n
 |.az,n,h=>⟨rfl,aae _⟩
 |.int _,n,h=>⟨rfl,aae _⟩
 |.str _,n,h=>⟨rfl,aae _⟩
 |.tup xs,n+1,h=>by
  simp only[bD]at h
  obtain⟨a,b⟩:=sJ xs h
  exact⟨a,by simp only[dep];omega⟩
 |.tup xs,0,h=>by simp[bD]at h
 |.bl _,n,h=>by simp[bD]at h
 |.lst _,n,h=>by simp[bD]at h
 |.dA,n,h=>by simp[bD]at h
 |.ref _,n,h=>by simp[bD]at h
 |.aI _,n,h=>by simp[bD]at h
 |.fn _,n,h=>by simp[bD]at h
theorem sJ:∀(ds:List D) {n:Nat},eY n ds=true->aX ds=true/\bS ds<=n
 | [],n,h=>⟨rfl,aae _⟩
 |d::ds,n,h=>by
  simp only[eY,Zn]at h
  obtain⟨a,b⟩:=jO d h.1
  obtain⟨a',b'⟩:=sJ ds h.2
  exact⟨by simp[aX,a,a'],by simp only[bS];omega⟩
end
mutual
theorem iU:∀(d e:D) {n m:Nat},bD n d=true->bD m e=true->(aH d e=true ↔ d=e)
 |.az,e,n,m,h,k=>by cases e<;>simp_all[bD,aH]
 |.int _,e,n,m,h,k=>by cases e<;>simp_all[bD,aH]
 |.str _,e,n,m,h,k=>by cases e<;>simp_all[bD,aH]
 |.tup xs,e,n+1,m,h,k=>by
  cases e with
  |tup ys =>
   cases m with
   |zero=>simp[bD]at k
   |succ m =>
    simp only[bD]at h k
    simp only[aH,D.tup.injEq]
    exact xD xs ys h k
  |_=>simp_all[bD,aH]
 |.tup xs,e,0,m,h,k=>by simp[bD]at h
 |.bl _,e,n,m,h,k=>by simp[bD]at h
 |.lst _,e,n,m,h,k=>by simp[bD]at h
 |.dA,e,n,m,h,k=>by simp[bD]at h
 |.ref _,e,n,m,h,k=>by simp[bD]at h
 |.aI _,e,n,m,h,k=>by simp[bD]at h
 |.fn _,e,n,m,h,k=>by simp[bD]at h
theorem xD:∀(ds es:List D) {n m:Nat},eY n ds=true->eY m es=true->(de ds es=true ↔ ds=es)
 | [],es,n,m,h,k=>by cases es<;>simp[de]
 |d::ds,[],n,m,h,k=>by simp[de]
 |d::ds,e::es,n,m,h,k=>by
  simp only[eY,Zn]at h k
  simp only[de,Zn,ael,iU d e h.1 k.1,xD ds es h.2 k.2]
end
end DK
namespace L3
noncomputable def aW:List D->D->Option D
 |k::v::r,key=>if aH k key=true then some v else aW r key
 |_,_=>none
noncomputable def bU:List D->D->D->List D
 |k::v::r,key,val=>if aH k key=true then k::val::r else k::v::bU r key val
 |_,key,val=>[key,val]
noncomputable def tq:List D->D->Nat->Bool
 |k::_::_,key,0=>aH k key
 |_::_::r,key,i+1=>tq r key i
 |_,_,_=>false
end L3
namespace DK
open PySem PySem.Spec PyProof.Rows L2 L3 SeqAt
inductive Ent (K:KW)(H:Hp)(ι:Ix):List D->List ZX->Prop
 |nil:Ent K H ι [] []
 |cons {k v:D} {kv vv:V} {r:List D} {e:ZX} {es:List ZX}:bD 6 k=true->e.hash=hD K.w k->Rel K H ι k kv->RelV kv e.key->Rel K H ι v vv->RelV vv e.val->Ent K H ι r es->Ent K H ι (k::v::r) (e::es)
theorem Ent.of {K H ι}:∀{es:List ZX} {xs:List D} {vs:List V},Vals vs (jq es)->jH K.w xs es->ao K H ι xs vs->Ent K H ι xs es
 | [],xs,vs,rv,h,r=>by cases h;exact .nil
 |e::es,xs,vs,rv,h,r=>by
  cases h with
  |cons h1 h2 h3 =>
   simp only[ao]at r
   obtain⟨a,ar,rfl,ha,b,br,rfl,hb,hr⟩:=r
   cases rv with
   |cons r1 rv=>cases rv with
    |cons r2 rv=>exact .cons h1 h2 ha r1 hb r2 (Ent.of rv h3 hr)
theorem Ent.out {K H ι}:∀{es:List ZX} {xs:List D},Ent K H ι xs es->jH K.w xs es /\ ∃vs,Vals vs (jq es)/\ao K H ι xs vs
 | [],xs,h=>by cases h;exact⟨.nil,[],.nil,by simp[ao]⟩
 |e::es,xs,h=>by
  cases h with
  | @cons k v kv vv r _ _ h1 h2 h3 h4 h5 h6 h7 =>
   obtain⟨a,vs,b,c⟩:=h7.out
   refine⟨.cons h1 h2 a,kv::vv::vs,.cons h4 (.cons h6 b),?_⟩
   simp only[ao]
   exact⟨kv,_,rfl,h3,vv,_,rfl,h5,c⟩
theorem Ent.at {K H ι}:∀{es:List ZX} {xs:List D} {i:Nat} {e:ZX},Ent K H ι xs es->es[i]? = some e->∃k kv,bD 6 k=true/\(aT xs)[i]? = some k/\e.hash=hD K.w k/\Rel K H ι k kv/\RelV kv e.key /\ ∀key,tq xs key i=aH k key
 | [],xs,i,e,h,q=>by simp at q
 |e0::es,xs,i,e,h,q=>by
  cases h with
  |cons h1 h2 h3 h4 h5 h6 h7 =>
   cases i with
   |zero=>simp at q;subst q;exact⟨_,_,h1,rfl,h2,h3,h4,λ_=>rfl⟩
   |succ i =>
    obtain⟨k,kv,a,b,c,d,e',f⟩:=h7.at (i:=i) (by simpa using q)
    exact⟨k,kv,a,by simpa[aT]using b,c,d,e',λkey=>f key⟩
theorem Ent.len {K H ι}:∀{es:List ZX} {xs:List D},Ent K H ι xs es->(aT xs).length=es.length
 | [],xs,h=>by cases h;rfl
 |e::es,xs,h=>by
  cases h with
  |cons h1 h2 h3 h4 h5 h6 h7=>simp[aT,h7.len]
theorem Ent.none_ {K H ι}:∀{es:List ZX} {xs:List D} {key:D},Ent K H ι xs es->(∀i,i<es.length->tq xs key i=false)->aW xs key=none /\ ∀v,bU xs key v=xs ++ [key,v]
 | [],xs,key,h,q=>by cases h;exact⟨rfl,λ_=>rfl⟩
 |e::es,xs,key,h,q=>by
  cases h with
  |cons h1 h2 h3 h4 h5 h6 h7 =>
   have q0:=q 0 (by simp)
   simp only[tq]at q0
   obtain⟨a,b⟩:=h7.none_ (key:=key) λi hi=>by have:=q (i+1) (by simpa using hi);simpa[tq]using this
   exact⟨by simp[aW,q0,a],λv=>by simp[bU,q0,b]⟩
theorem Ent.pW {K H ι}{key:D}:∀{es:List ZX} {xs:List D} {i:Nat},Ent K H ι xs es->i<es.length->tq xs key i=true->(∀j,j<es.length->tq xs key j=true->j=i) ->
  ∃e v vv,es[i]? = some e/\aW xs key=some v/\Rel K H ι v vv/\RelV vv e.val/\aT (bU xs key v)=aT xs /\
   ∀(w:D) (wv:V) (u:Value),Rel K H ι w wv->RelV wv u->Ent K H ι (bU xs key w) (es.modify i λe=>{ e with val:=u })/\aT (bU xs key w)=aT xs
 | [],xs,i,h,hi,q,un=>by simp at hi
 |e0::es,xs,i,h,hi,q,un=>by
  cases h with
  | @cons k v kv vv r _ _ h1 h2 h3 h4 h5 h6 h7 =>
   cases i with
   |zero =>
    simp only[tq]at q
    refine⟨e0,v,vv,rfl,by simp[aW,q],h5,h6,by simp[bU,q,aT],λw wv u rw_ ru=>⟨?_,by simp[bU,q,aT]⟩⟩
    simp only[bU,q,if_true,List.modify_zero_cons]
    exact .cons h1 h2 h3 h4 rw_ ru h7
   |succ i =>
    have q0:aH k key=false:=by
     cases hk:aH k key with
     |false=>rfl
     |true=>exact absurd (un 0 (by simp) (by simpa[tq]using hk)) (by omega)
    obtain⟨e,v',WG,a,b,c,d,f,g⟩:=h7.pW (i:=i) (by simpa using hi) (by simpa[tq]using q) λj hj z=>by
     have:=un (j+1) (by simpa using hj) (by simpa[tq]using z)
     omega
    refine⟨e,v',WG,by simpa using a,by simp[aW,q0,b],c,d,by simp[bU,q0,aT,f],λw wv u rw_ ru=>?_⟩
    obtain⟨g1,g2⟩:=g w wv u rw_ ru
    simp only[bU,q0,ZG,if_false,List.modify_succ_cons]
    exact⟨.cons h1 h2 h3 h4 h5 h6 g1,by simp[aT,g2]⟩
theorem Ent.push {K H ι}{k v:D}{kv vv:V}{e:ZX}(h1:bD 6 k=true)(h2:e.hash=hD K.w k)(h3:Rel K H ι k kv)(h4:RelV kv e.key)(h5:Rel K H ι v vv)(h6:RelV vv e.val):
  ∀{es:List ZX} {xs:List D},Ent K H ι xs es->Ent K H ι (xs ++ [k,v]) (es ++ [e])/\aT (xs ++ [k,v])=aT xs ++ [k]
 | [],xs,h=>by cases h;exact⟨.cons h1 h2 h3 h4 h5 h6 .nil,rfl⟩
 |e0::es,xs,h=>by
  cases h with
  |cons a1 a2 a3 a4 a5 a6 a7 =>
   obtain⟨b1,b2⟩:=Ent.push h1 h2 h3 h4 h5 h6 a7
   exact⟨.cons a1 a2 a3 a4 a5 a6 b1,by simp[aT,b2]⟩
section
variable {X:Cx}{pins:List (Addr×Obj)}{σ:L2.St}{H:Hp}{ι:Ix}{s:Zo}
theorem pX (I:Inv X pins σ H s){A:ZV}{d e:D}{x y:V}{u v:Value}(fd:flat d=true)(fe:flat e=true)(rd:Rel X.kw H ι d x)(re:Rel X.kw H ι e y)(ru:RelV x u)(rv:RelV y v)(hu:A.units+dep d<cLine):EqAt A s u v (aH d e):=by
 refine pR (uU I d e (A:=A) fd fe rd re ru rv hu) (λK_=>?_) (λb t ef=>Rel.xq rd (by rw[ef]at ru;exact ru))
 subst K_
 have La:=ru.inj rv
 subst La
 have Lb:=Rel.inj I d e fd fe rd re
 subst Lb
 exact iw d fd
theorem iB (I:Inv X pins σ H s){A:ZV}(hu:A.units+8<cLine){xs:List D}{es:List ZX}(en:Ent X.kw H ι xs es)(nd:(aT xs).Nodup){key:D}{x:V}{u:Value}(hk:bD 6 key=true)(r:Rel X.kw H ι key x)(ru:RelV x u):
  EW A s u (hD X.w key) es.toArray (tq xs key) where
 eq:=λi e he hh=>by
  obtain⟨k,kv,a,b,c,d,f,g⟩:=en.at (i:=i) (by simpa using he)
  rw[g key]
  obtain⟨f1,f2⟩:=jO k a
  exact pX I f1 (jO key hk).1 d r f ru (by omega)
 hs:=λi e he ht=>by
  obtain⟨k,kv,a,b,c,d,f,g⟩:=en.at (i:=i) (by simpa using he)
  rw[g key]at ht
  rw[c,(iU k key a hk).mp ht]
 qk:=qY key I hk (by omega) r ru
 qe:=λe he=>by
  obtain⟨i,hi⟩:=aaq.mp (by simpa using he)
  obtain⟨k,kv,a,b,c,d,f,g⟩:=en.at hi
  exact qY k I a (by omega) d f
 rf:=λe he ek=>by
  obtain⟨i,hi⟩:=aaq.mp (by simpa using he)
  obtain⟨k,kv,a,b,c,d,f,g⟩:=en.at hi
  rw[ek]at f
  have:=f.inj ru
  subst this
  rw[c,Rel.inj I k key (jO k a).1 (jO key hk).1 d r]
 un:=λi j hi hj ti tj=>by
  obtain⟨e,he⟩:∃e,es[i]? = some e:=⟨_,Zq (by simpa using hi)⟩
  obtain⟨e',LJ⟩:∃e,es[j]? = some e:=⟨_,Zq (by simpa using hj)⟩
  obtain⟨k,kv,a,b,c,d,f,g⟩:=en.at he
  obtain⟨k',WH,a',b',c',d',f',g'⟩:=en.at LJ
  rw[g key]at ti
  rw[g' key]at tj
  rw[(iU k key a hk).mp ti]at b
  rw[(iU k' key a' hk).mp tj]at b'
  exact(afJ (Zs.mp b).1 nd).mp (b.trans b'.symm)
 st:=λy tk e0 i e he hx=>by
  subst e0
  obtain⟨k,kv,a,b,c,d,f,g⟩:=en.at (i:=i) (by simpa using he)
  rw[g key]
  have kx:key = .str y:=by
   cases key with
   |str z=>simp only[Rel]at r;subst r;obtain⟨t,q⟩:=ru;cases q;rfl
   |az=>simp only[Rel]at r;subst r;cases ru
   |int z=>simp only[Rel]at r;subst r;obtain⟨t,q⟩:=ru;cases q
   |tup z=>simp only[Rel]at r;obtain⟨_,_,rfl,_⟩:=r;cases ru
   |_=>simp[bD]at hk
  subst kx
  cases k with
  |str z =>
   simp only[Rel]at d;subst d;obtain⟨t,q⟩:=f
   rw[q]
   simp only[Value.isStr,aH]
  |az=>simp only[Rel]at d;subst d;rw[f]at hx;cases hx
  |int z=>simp only[Rel]at d;subst d;obtain⟨t,q⟩:=f;rw[q]at hx;cases hx
  |tup z=>simp only[Rel]at d;obtain⟨_,_,rfl,_⟩:=d;rw[show e.key=_ from f]at hx;cases hx
  |_=>simp[bD]at a
end
section
variable {X:Cx}{pins:List (Addr×Obj)}{σ:L2.St}{H:Hp}{ι:Ix}{s:Zo}{A:ZV}{E:Value->Zo->Prop}{a:Addr}{xs:List D}{es:List ZX}{c:Nat}{key:D}{x:V}{u:Value}
theorem gp (I:Inv X pins σ H s)(hH:H a=some (dO a es c)):s.heap.get? a=some { cls:=.type "dict",data:=.dict es.toArray (es.length-c) }:=
 (show cZ X.prog X.w H s.heap a (dO a es c) from I.bK a _ hH).1
theorem tR (I:Inv X pins σ H s)(hH:H a=some (dO a es c)):∃ep,s.heap.get? a=some { cls:=.type "dict",data:=.dict es.toArray ep }:=⟨_,gp I hH⟩
theorem tS (I:Inv X pins σ H s)(hH:H a=some (dO a es c)):s.TypeIs (.ref a) "dict":=let⟨_,h⟩:=tR I hH;⟨_,h,rfl⟩
theorem sL (I:Inv X pins σ H s)(hu:A.units+8<cLine)(hH:H a=some (dO a es c))(en:Ent X.kw H ι xs es)(nd:(aT xs).Nodup)(hk:bD 6 key=true)(r:Rel X.kw H ι key x)(ru:RelV x u){Q:Option Value->Zo->Prop}
   (hn:aW xs key=none->∀tk,Q none { s with toks:=tk }) (hs:∀v,aW xs key=some v->∀tk vv z,Rel X.kw H ι v vv->RelV vv z->Q (some z) { s with toks:=tk }):wpAny (model X.prog X.w) A (ad2 a u) Q E s:=by
 obtain⟨ep,ho⟩:=tR I hH
 unfold ad2
 refine Z7 (Zm (mL key I hk r ru (by omega) λtk=>Zm (nA (s:={ s with toks:=tk }) ho rfl (iB (I.tok tk) hu en nd hk r ru) (λz=>?_) (λi hi ht=>?_))))
 . exact Zp (hn (en.none_ λi hi=>z i (by simpa using hi)).1 tk)
 . have K:=iB (I.tok tk) hu en nd hk r ru (A:=A)
   obtain⟨e,v,vv,h1,h2,h3,h4,_⟩:=en.pW (key:=key) (by simpa using hi) ht λj hj z=>(K.un i j hi (by simpa using hj) ht z).symm
   refine Zm (aa0 (s:={ s with toks:=tk }) ho rfl ?_)
   have:es.toArray[i]? = some e:=by simpa using h1
   rw[this]
   exact Zp (hs v h2 tk vv _ h3 h4)
theorem AX (I:Inv X pins σ H s)(hH:H a=some (dO a es c))(en:Ent X.kw H ι xs es)(nd:(aT xs).Nodup)(hk:bD 6 key=true)(r:Rel X.kw H ι key x)(ru:RelV x u){v:D}(hv:aW xs key=some v):
   ∃vv z,Rel X.kw H ι v vv/\RelV vv z /\ ∀{A:ZV} {E:Value->Zo->Prop} {Q:Option Value->Zo->Prop},A.units+8<cLine->(∀tk,Q (some z) { s with toks:=tk })->wpAny (model X.prog X.w) A (ad2 a u) Q E s:=by
 obtain⟨ep,ho⟩:=tR I hH
 have hex:∃i,i<es.length/\tq xs key i=true:=by
   refine Classical.byContradiction λno=>?_
   have:=(en.none_ (key:=key) λi hi=>by
    cases h:tq xs key i with
    |false=>rfl
    |true=>exact absurd ⟨i,hi,h⟩ no).1
   rw[hv]at this;cases this
 obtain⟨i,hi,ht⟩:=hex
 have un:∀j,j<es.length->tq xs key j=true->j=i:=λj hj z=>by
   obtain⟨k,kv,a1,b1,_,_,_,g⟩:=en.at (Zq hi)
   obtain⟨k',WH,a2,b2,_,_,_,g'⟩:=en.at (Zq hj)
   rw[g]at ht
   rw[g']at z
   rw[(iU k key a1 hk).mp ht]at b1
   rw[(iU k' key a2 hk).mp z]at b2
   exact(afJ (Zs.mp b2).1 nd).mp (b2.trans b1.symm)
 obtain⟨e,v',vv,h1,h2,h3,h4,_⟩:=en.pW (key:=key) hi ht un
 rw[hv]at h2;cases h2
 refine⟨vv,e.val,h3,h4,fun {A E Q} hu q=>?_⟩
 unfold ad2
 refine Z7 (Zm (mL key I hk r ru (by omega) λtk=>Zm (nA (s:={ s with toks:=tk }) ho rfl (iB (I.tok tk) hu en nd hk r ru) (λz=>?_) (λj hj tj=>?_))))
 . have:=z i (by simpa using hi);rw[ht]at this;cases this
 . have:=un j (by simpa using hj) tj
   subst this
   refine Zm (aa0 (s:={ s with toks:=tk }) ho rfl ?_)
   have:es.toArray[j]? = some e:=by simpa using h1
   rw[this]
   exact Zp (q tk)
theorem sM (I:Inv X pins σ H s)(hu:A.units+8<cLine)(hH:H a=some (dO a es c))(dU:c<=es.length)(hz:es.length<=ZM)(en:Ent X.kw H ι xs es)(nd:(aT xs).Nodup)(hk:bD 6 key=true)(r:Rel X.kw H ι key x)(ru:RelV x u){v:D}{vv:V}{z:Value}(rv:Rel X.kw H ι v vv)(rz:RelV vv z){Q:Unit->Zo->Prop}
   (h:∀tk h' bY,Ent X.kw H ι (bU xs key v) bY->(aT (bU xs key v)).Nodup->bY.length<=es.length+1->c<=bY.length->h'.get? a=some { cls:=.type "dict",data:=.dict bY.toArray (bY.length-c) }->acd a s.heap h'->Q () { s with heap:=h',toks:=tk }):
   wpAny (model X.prog X.w) A (dictSet a u z) Q E s:=by
 have ho:=gp I hH
 unfold dictSet
 refine Z7 (Zm (mL key I hk r ru (by omega) λtk=>?_))
 unfold dictSetHashed
 refine Z7 (Zm (nA (s:={ s with toks:=tk }) ho rfl (iB (I.tok tk) hu en nd hk r ru) (λy=>?_) (λi hi ht=>?_)))
 . obtain⟨_,AY⟩:=en.none_ (key:=key) λi hi=>y i (by simpa using hi)
   obtain⟨e1,e2⟩:=Ent.push (e:=⟨hD X.w key,u,z⟩) hk rfl r ru rv rz en
   refine Zm (aba (aeT (hz:=by simpa using hz) (s:={ s with toks:=tk }) ho rfl ?_))
   refine h tk _ (es ++ [⟨hD X.w key,u,z⟩]) (by rw[AY];exact e1) ?_ (by simp) (by simp;omega) ?_ (aa5 ..)
   . rw[AY,e2,aaD]
     refine⟨nd,by simp,λk uX k' pY=>?_⟩
     simp at pY;subst pY
     rintro rfl
     obtain⟨i,hi,e⟩:=aax.mp uX
     have ig:i<es.length:=by rw[<- en.len];exact hi
     obtain⟨k,kv,a1,b1,_,_,_,g⟩:=en.at (Zq ig)
     rw[Zq hi,e]at b1
     cases b1
     have:=y i (by simpa using ig)
     rw[g,(iU _ _ hk hk).mpr rfl]at this
     cases this
   . have q:=abg (h:=s.heap) (acA (·.push ⟨hD X.w key,u,z⟩)) ho rfl
     rw[q];simp[acA];omega
 . have K:=iB (I.tok tk) hu en nd hk r ru (A:=A)
   obtain⟨e,v0,WI,h1,h2,h3,h4,_,h5⟩:=en.pW (key:=key) (by simpa using hi) ht λj hj y=>(K.un i j hi (by simpa using hj) ht y).symm
   obtain⟨h6,h7⟩:=h5 v vv z rv rz
   refine Zm (aba (Zm (wpAny_updateDict (s:={ s with toks:=tk }) ho rfl ?_)))
   refine wpAny_point ?_
   refine h tk _ (es.modify i λe=>{ e with val:=z }) h6 (by rw[h7];exact nd) (by simp) (by simpa using dU) ?_ (aa5 ..)
   have q:=abg (h:=s.heap) (Obj.mapDict (·.modify i λe=>{ e with val:=z })) ho rfl
   rw[q];simp[Obj.mapDict]
end
end DK
namespace L3
open PySem PySem.Spec PyProof.Rows L2 SeqAt DK
noncomputable def ax (d1 d2:D)(g:G):Option (D×G):=match d1 with
 |.aI n=>(g[n]?).bind λxs=>if bD 6 d2=true then(aW xs d2).map λd=>(d,g)else none
 |d1=>sH d1 d2 g
section
variable {X:Cx}
theorem HW (hu:X.A.units+64<cLine):mr X (cJ X.kw ax):=by
 intro value slice pins s σ H x y v u Q I rx ry q hs
 obtain⟨ι,g,d1,d2,d,g',G0,r1,r2,q,p⟩:=q
 cases d1 with
 |aI n =>
  simp only[ax]at q
  obtain⟨xs,hx,q⟩:=bind_some q
  split at q
  . rename_i hk
    simp only[Rel]at r1
    obtain⟨a,rfl,ha⟩:=r1
    cases rx
    obtain⟨es,vs,c,hH,iV,dU,rv,hh,nd,sy,sz,rl⟩:=G0.lR hx ha
    have en:=Ent.of rv hh rl
    cases hv:aW xs d2 with
    |none=>rw[hv]at q;cases q
    |some dv =>
     rw[hv]at q;cases q
     obtain⟨vv,z,h1,h2,h3⟩:=AX I hH en nd hk r2 ry hv
     have hT:=tS I hH
     refine acQ (x:=z) hT adP.lookup ?_ hs
     unfold ado
     refine Z7 (Zm (acN hT (by decide) ?_))
     refine Zm (aav (name:=ZW "__getitem__") hT adP (aaa adP hT entry_dict_getitem ?_ (args_dict_getitem _ _)))
     show wpAny _ _ (ad2 a u >>= _) _ _ s
     refine Zm (h3 (by rw[in1_units];omega) λtk=>?_)
     exact Zp ⟨z,rfl,Zp ⟨rfl,vv,H,I.tok tk,h2,p H ι vv Ext.refl G0 h1⟩⟩
  . cases q
 |_=>exact HB value slice pins s σ H x y v u Q I rx ry ⟨ι,g,_,d2,d,g',G0,r1,r2,q,p⟩ hs
theorem LK {a b:Expr}{fa fb:FE}{pos:Pos}(hu:X.A.units+64<cLine)(ha:DE X a fa)(hb:DE X b fb)(hs:qO b:=by exact λ_ _=>rfl):DE X (.Subscript a b pos) (aj ax fa fb):=.of (
 PE.imp (OY (HW hu) ha.un hb.un hs) λσ H Q h=>pJ h)
end
noncomputable def AZ (d1:D)(xs:List D):Option Bool:=if(flat d1&&aX xs&&decide (bS xs<=50))=true then some (xs.any λy=>aH y d1)else none
noncomputable def ou (d1 d2:D)(g:G):Option Bool:=match d2 with
 |.aI n=>(g[n]?).bind λxs=>if bD 6 d1=true then some (aW xs d1).isSome else none
 |d2=>(b4 d2 g).bind (AZ d1)
noncomputable def hG (d1 d2:D)(g:G):Option (D×G):=(ou d1 d2 g).map λb=>(.bl b,g)
noncomputable def gO (d1 d2:D)(g:G):Option (D×G):=(ou d1 d2 g).map λb=>(.bl (!b),g)
theorem A0 {d1 d2:D}{g:G}{b:Bool}(h:ou d1 d2 g=some b):(∃n,d2 = .aI n) \/ ∃xs,b4 d2 g=some xs/\AZ d1 xs=some b:=by
 cases d2 with
 |aI n=>exact .inl ⟨n,rfl⟩
 |_=>simp only[ou]at h;exact .inr (bind_some h)
section
variable {X:Cx}
theorem j5:∀{xs:List D} {i:Nat} {d:D},aX xs=true->xs[i]? = some d->flat d=true/\dep d<=bS xs
 | [],i,d,h,e=>by simp at e
 |x::xs,0,d,h,e=>by
  simp at e;subst e
  simp only[aX,Zn]at h
  exact⟨h.1,by simp only[bS];omega⟩
 |x::xs,i+1,d,h,e=>by
  simp only[aX,Zn]at h
  obtain⟨a,b⟩:=j5 (i:=i) h.2 (by simpa using e)
  exact⟨a,by simp only[bS];omega⟩
theorem vf {pins:List (Addr×Obj)}{σ:L2.St}{H:Hp}{s:Zo}{ι:Ix}(I:Inv X pins σ H s){A:ZV}{key:D}{x:V}{u:Value}(fk:flat key=true)(r:Rel X.kw H ι key x)(ru:RelV x u){n:Nat}(hu:A.units+n<cLine):
   ∀{xs:List D} {vs:List V} {us:List Value},aX xs=true->bS xs<=n->ao X.kw H ι xs vs->Vals vs us->∃e:Value->Bool,(∀y,y∈us->EqAt A s y u (e y))/\us.any e=xs.any (λy=>aH y key):=by
 classical
 intro xs vs us fx hn rl rv
 refine⟨λy=>decide (∃d v,Rel X.kw H ι d v/\RelV v y/\flat d=true/\aH d key=true),λy hy=>?_,?_⟩
 . obtain⟨i,hi,e⟩:=aax.mp hy
   have WJ:i<vs.length:=by rw[rv.length];exact hi
   have A1:i<xs.length:=by rw[rl.length];exact WJ
   obtain⟨v,h1,h2⟩:=rl.get (Zq A1)
   obtain⟨z,h3,h4⟩:=rv.get h1
   rw[Zq hi,e]at h3
   cases h3
   obtain⟨f1,f2⟩:=j5 fx (Zq A1)
   have key_:=pX I f1 fk h2 r h4 ru (A:=A) (by omega)
   have:decide (∃d v,Rel X.kw H ι d v/\RelV v y/\flat d=true/\aH d key=true)=aH xs[i] key:=by
    cases hq:aH xs[i] key with
    |true=>exact decide_eq_true ⟨_,_,h2,h4,f1,hq⟩
    |false =>
     refine decide_eq_false ?_
     rintro⟨d,v',a,b,c,e'⟩
     have:=b.inj h4
     subst this
     rw[Rel.inj I d _ c f1 a h2,hq]at e'
     cases e'
   show EqAt A s y u (decide _);rw[this];exact key_
 . induction xs generalizing vs us with
   |nil=>simp only[ao]at rl;subst rl;cases rv;rfl
   |cons d ds ih =>
    simp only[ao]at rl
    obtain⟨v,vr,rfl,h2,hr⟩:=rl
    cases rv with
    |cons r0 rr =>
     simp only[aX,Zn]at fx
     simp only[bS]at hn
     rw[aaG,aaG,ih fx.2 (by omega) hr rr]
     congr 1
     cases hq:aH d key with
     |true=>exact decide_eq_true ⟨_,_,h2,r0,fx.1,hq⟩
     |false =>
      refine decide_eq_false ?_
      rintro⟨d',v',a,b,c,e'⟩
      have:=b.inj r0
      subst this
      rw[Rel.inj I d' _ c fx.1 a h2,hq]at e'
      cases e'
theorem xF (neg:Bool)(hu:X.A.units+64<cLine):bB X (Z8 (if neg then .NotIn else .In)) (cJ X.kw λd1 d2 g=>(ou d1 d2 g).map λb=>(.bl (if neg then !b else b),g)):=by
 intro pins s σ H x y v u Q I rx ry q
 obtain⟨ι,g,d1,d2,d,g',G0,r1,r2,q,p⟩:=q
 obtain⟨b,hb,q⟩:=ZF.mp q
 cases q
 have fin:∀tk,EP X pins σ Q (.bool (if neg then !b else b)) { s with toks:=tk }:=λtk=>⟨.bl _,H,I.tok tk,rfl,p H ι _ Ext.refl G0 (by simp[Rel])⟩
 rcases A0 hb with⟨n,rfl⟩|⟨xs,hx,hb⟩
 . simp only[ou]at hb
   obtain⟨xs,hx,hb⟩:=bind_some hb
   split at hb
   . rename_i hk
     cases hb
     simp only[Rel]at r2
     obtain⟨a,rfl,ha⟩:=r2
     cases ry
     obtain⟨es,vs,c,hH,iV,dU,rv,hh,nd,sy,sz,rl⟩:=G0.lR hx ha
     have en:=Ent.of rv hh rl
     have hT:=tS I hH
     have core:∀{Q':Bool->Zo->Prop},(∀tk,Q' (aW xs d1).isSome { s with toks:=tk })->wpAny (model X.prog X.w) X.A (contains (.ref a) v) Q' X.xe s:=fun {Q'} fin=>by
       unfold contains
       refine Z7 (Zm (ade hT adA.lookup ?_))
       refine aap (λz=>by rw[ad8]at z;cases z) (λ_=>?_)
       refine Zm (wpAny_callSpecialUnlessNone?_slot (name:=ZW "__contains__") hT adA (aaa adA hT entry_dict_contains ?_ (args_dict_contains _ _)))
       show wpAny _ _ (ad2 a v >>= _) _ _ s
       refine Zm (sL I (by rw[in1_units];omega) hH en nd hk r1 rx (λhn tk=>?_) (λw hs tk vv z _ _=>?_))
       . rw[hn]at fin
         show wpAny _ _ (Builtin.Dict.pendingKey? a v >>= _) _ _ _
         exact Zm (wpAny_pendingKey_other sy (Zp ⟨_,rfl,aai (fin tk)⟩))
       . rw[hs]at fin
         show wpAny _ _ (ret (.bool true)) _ _ _
         exact Zp ⟨_,rfl,aai (fin tk)⟩
     cases neg with
     |false=>exact(show wpAny _ _ (do return abA (<- contains (.ref a) v)) _ _ s from Zm (core λtk=>Zp (fin tk)))
     |true=>exact(show wpAny _ _ (do return abA (!(<- contains (.ref a) v))) _ _ s from Zm (core λtk=>Zp (fin tk)))
   . cases hb
 . unfold AZ at hb
   split at hb
   . rename_i z
     simp only[Zn,decide_eq_true_eq]at z
     cases hb
     obtain⟨a,vs,rfl,hq,hr⟩:=gJ G0 r2 hx
     cases ry
     rcases hq with hq|hq
     . obtain⟨aw,bA,ht,_⟩:=I.list hq
       obtain⟨e,h1,h2⟩:=vf I (A:=X.A.in1) z.1.1 r1 rx (n:=50) (by rw[in1_units];omega) z.1.2 z.2 hr bA
       have fin:=fin s.toks
       rw[<- h2]at fin
       cases neg with
       |false=>exact in_listAt e ht.isList (λy hy=>h1 y (by simpa using hy)) (by simpa using fin)
       |true=>exact notIn_listAt e ht.isList (λy hy=>h1 y (by simpa using hy)) (by simpa using fin)
     . obtain⟨aw,bA,ht,_⟩:=I.tuple hq
       obtain⟨e,h1,h2⟩:=vf I (A:=X.A.in1) z.1.1 r1 rx (n:=50) (by rw[in1_units];omega) z.1.2 z.2 hr bA
       have fin:=fin s.toks
       rw[<- h2]at fin
       cases neg with
       |false=>exact in_tupleAt e ht (λy hy=>h1 y (by simpa using hy)) (by simpa using fin)
       |true=>exact notIn_tupleAt e ht (λy hy=>h1 y (by simpa using hy)) (by simpa using fin)
   . cases hb
theorem LM (hu:X.A.units+64<cLine):bB X (Z8 .In) (cJ X.kw hG):=xF false hu
theorem A2 (hu:X.A.units+64<cLine):bB X (Z8 .NotIn) (cJ X.kw gO):=xF true hu
end
section
variable {X:Cx}{pins:List (Addr×Obj)}{σ:L2.St}{H:Hp}{ι:Ix}{s:Zo}{g:G}{a:Addr}{n:Nat}{xs:List D}{es:List ZX}{c:Nat}
theorem oU (I:Inv X pins σ H s)(hH:H a=some (dO a es c)){bY:List ZX}{h':Heap}{tk:Nat}(hg:h'.get? a=some { cls:=.type "dict",data:=.dict bY.toArray (bY.length-c) })(sb:acd a s.heap h'):
  Inv X pins σ (upd H a (dO a bY c)) { s with heap:=h',toks:=tk }:=by
 refine I.write (x:=a) (e:=a) (o:=dO a bY c) (t':=tk) (by rw[hH];exact ab6) (.inl rfl) (λb u hb q=>?_) ⟨_,hg⟩ ⟨hg,⟨_,hg⟩,λh1 h2 q k=>k _ q⟩
 rw[sb.2 b hb];exact q
theorem oV (G0:aB X.kw H ι g)(ha:d_ ι n a true)(iV:ι.kd n=c+1)(hH:H a=some (dO a es c)){LN:List D}{bY:List ZX}(en:Ent X.kw H ι LN bY)(nd:(aT LN).Nodup)(sy:(a == aa9)=false)(dU:c<=bY.length)(sz:bY.length<=ZM):
  aB X.kw (upd H a (dO a bY c)) ι (g.set n LN):=by
 obtain⟨h1,vs,h2,h3⟩:=en.out
 exact G0.Ks ha hH (by rw[iV];exact .d c bY vs dU h2 h1 nd sy sz) h3
end
noncomputable def j6 (xs:List D):Bool:=aD (xs.length / 2+1)
noncomputable def kj (o i v:D)(g:G):Option G:=match o with
 |.aI n=>(g[n]?).bind λxs=>if(bD 6 i&&j6 xs)=true then some (g.set n (bU xs i v))else none
 |o=>putD o i v g
inductive EX (K:KW)(o i v:V)(H:Hp)(Q:Hp->Prop):Prop
 |mk (ι:Ix) (g:G) (d1 d2 d3:D) (g':G) (h0:aB K H ι g) (h1:Rel K H ι d1 o) (h2:Rel K H ι d2 i) (h3:Rel K H ι d3 v) (h4:kj d1 d2 d3 g=some g') (h5:∀H' ι',Ext H ι H' ι'->aB K H' ι' g'->Q H'):EX K o i v H Q
theorem nB {K H ι}{xs:List D}{es:List ZX}(en:Ent K H ι xs es):xs.length=2*es.length:=by
 induction en with
 |nil=>rfl
 |cons _ _ _ _ _ _ _ ih=>simp[ih];omega
section
variable {X:Cx}
theorem HY (hu:X.A.units+64<cLine):Cq X (EX X.kw):=by
 intro pins s σ H o i v ov iv u Q I ro ri rv q
 obtain⟨ι,g,d1,d2,d3,g',G0,r1,r2,r3,q,p⟩:=q
 cases d1 with
 |aI n =>
  simp only[kj]at q
  obtain⟨xs,hx,q⟩:=bind_some q
  split at q
  . rename_i hk
    simp only[Zn]at hk
    cases q
    simp only[Rel]at r1
    obtain⟨a,rfl,ha⟩:=r1
    cases ro
    obtain⟨es,vs,c,hH,iV,dU,mM,hh,nd,sy,sz,rl⟩:=G0.lR hx ha
    have en:=Ent.of mM hh rl
    have hT:=tS I hH
    have hz:=aD.le hk.2
    rw[nB en]at hz
    unfold afx
    refine Z7 (Zm (acN hT (by decide) ?_))
    refine Zm (aav (name:=ZW "__setitem__") hT slot_dict_setitem (aaa slot_dict_setitem hT entry_dict_setitem ?_ (args_dict_setitem _ _ _)))
    show wpAny _ _ (Builtin.Dict.notOrdered "__setitem__" ⟨[.ref a,iv,u],[]⟩ >>= _) _ _ s
    refine Zm (acY hT ?_)
    show wpAny _ _ (dictSet a iv u >>= _) _ _ s
    refine Zm (sM I (by rw[in1_units];omega) hH dU sz en nd hk.1 r2 ri r3 rv λtk h' bY e1 e2 e3 e0 e4 e5=>Zp ⟨.none,rfl,Zp ?_⟩)
    exact⟨_,oU I hH e4 e5,p _ ι (Ext.put ha hH) (oV G0 ha iV hH e1 e2 sy e0 (by omega))⟩
  . cases q
 |ref n =>
  refine set_list pins s σ H o i v ov iv u Q I ro ri rv ?_
  simp only[kj,putD]at q
  cases d2 with
  |int k =>
    simp only[Rel]at r1 r2
    obtain⟨a,rfl,ha⟩:=r1
    subst r2
    dsimp only at q
    cases hx:g[n]? with
    |none=>rw[hx]at q;cases q
    |some xs =>
     rw[hx]at q
     dsimp only at q
     cases hj:kB xs.length k with
     |none=>rw[hj]at q;cases q
     |some j =>
      rw[hj]at q
      cases q
      obtain⟨vs,hv,hr⟩:=G0.at hx ha
      exact⟨a,vs,k,j,rfl,rfl,hv,by rw[<- hr.length];exact hj,p _ ι (Ext.put ha hv) (G0.put ha hv (ao.set r3 j hr))⟩
  |_=>cases q
 |_=>cases q
noncomputable def eR (fo fi:FE):FG:=λv σ g=>(fo σ g).bind λr=>(fi σ r.2).bind λq=>(kj r.1 q.1 v q.2).map λg'=>(σ,g')
theorem xG {o i:Expr}{fo fi:FE}{pos:Pos}(hu:X.A.units+64<cLine)(ho:DE X o fo)(hi:DE X i fi)
  (ha:∀v,acr (.Subscript o i pos) X.env v=(do
   let ov <- ace [v] (eval o X.env)
   let iv <- ace [v,ov] (eval i X.env)
   aex pos
   ace [v,ov,iv] (afx ov iv v)
   release [v,ov,iv] []):=by intro _;rfl):DG X (.Subscript o i pos) (eR fo fi):=.of (PG.imp (JJ ho.un hi.un (HY hu) ha) λv σ H Q h=>by
 obtain⟨ι,σd,g,d,cf,g',G0,S0,r,h,p⟩:=h
 obtain⟨⟨d1,g1⟩,h1,h⟩:=bind_some h
 obtain⟨⟨d2,g2⟩,h2,h⟩:=bind_some h
 refine tD.bind G0 S0 h1 λH1 ι1 v1 e1 G1 S1 r1=>?_
 refine tD.bind G1 S1 h2 λH2 ι2 v2 e2 G2 S2 r2=>?_
 obtain⟨g3,h3,h⟩:=ZF.mp h
 cases h
 exact⟨ι2,g2,d1,d2,d,g',G2,Rel.ext e2 _ r1,r2,Rel.ext (e1.trans e2) _ r,h3,λH' ι' e' G'=>p H' ι' σ ((e1.trans e2).trans e') G' (S2.ext e')⟩)
end
inductive QJ (K:KW)(ij:D->Bool)(m:D->List D->G->Option (D×G))(x:V)(xs:List V)(H:Hp)(Q:VK):Prop
 |mk (ι:Ix) (g:G) (d:D) (ds:List D) (d':D) (g':G) (h0:aB K H ι g) (h1:Rel K H ι d x) (h2:ao K H ι ds xs) (h3:ij d=true) (h4:m d ds g=some (d',g')) (h5:gD K H ι d' g' Q):QJ K ij m x xs H Q
structure MR (X:Cx)(T:String)(name:Str)(id:String)(ij:D->Bool)(m:D->List D->G->Option (D×G)):Prop where
 pa:PlainAttrs T
 slot:Slot T name id
 ty:typeOf (.builtin id)=pure (.type "method_descriptor")
 is:∀{pins:List (Addr×Obj)} {σ:L2.St} {H:Hp} {s:Zo} {ι:Ix} {g:G} {d:D} {x:V} {v:Value},Inv X pins σ H s->aB X.kw H ι g->Rel X.kw H ι d x->RelV x v->ij d=true->s.TypeIs v T /\ ∀a,v = .ref a->∃ob,s.heap.get? a=some ob/\ob.dict=none
 run:Qk X id (QJ X.kw ij m)
noncomputable def bX (ij:D->Bool)(m:D->List D->G->Option (D×G))(fo:FE)(fr:FA):FE:=λσ g=>(fo σ g).bind λr=>if ij r.1=true then(fr σ r.2).bind λq=>m r.1 q.1 q.2 else none
section
variable {X:Cx}{T:String}{name:Str}{id:String}{ij:D->Bool}{m:D->List D->G->Option (D×G)}{o e:Expr}{es:List Expr}{fo:FE}{fr:FA}{apos fW:Pos}
theorem LO (R:MR X T name id ij m)(ho:DE X o fo)(ha:DA X (e::es) fr)(y3:adI o name X.env (eval o X.env)=eval o X.env:=by rfl)
   (SI:((abU fW (ZS (e::es) X.env)).all (λx=>!x.1)&&(backToKw fW (keywordEach [] X.env)).all (λx=>x.1.isSome)
    && decide ((e::es).length+([]:List afy).length+(if([]:List afy).isEmpty then 0 else 1)<30))=true:=by rfl)
   (y4:(apos.endLine == fW.line)=true:=by rfl) (hs:ZS (e::es) X.env=(false,eval e X.env)::ZS es X.env:=by rfl) (LP:(abU fW (ZS es X.env)).any (·.1)=false:=by rfl):
   DE X (.Call (.Attribute o name apos) (e::es) [] fW) (bX ij m fo fr):=.of (by
 intro pins s σ H Q I h
 obtain⟨ι,σd,g,d,g',G0,S0,h,p⟩:=h
 obtain⟨⟨d1,g1⟩,h1,h⟩:=bind_some h
 dsimp only at h
 split at h
 . rename_i hT
   obtain⟨⟨ds,g2⟩,h2,h⟩:=bind_some h
   refine wpAny_Call_method_late y3 SI y4 rfl (bp (ho.un pins s σ H (λx H1=>∃ι1,Ext H ι H1 ι1/\aB X.kw H1 ι1 g1/\bR X.kw H1 ι1 σd σ/\Rel X.kw H1 ι1 d1 x) I (tD.bind G0 S0 h1 λH1 ι1 v e1 G1 S1 r1=>⟨ι1,e1,G1,S1,r1⟩)) λv s1 ⟨x,H1,I1,rx,ι1,e1,G1,S1,r1⟩=>?_)
   obtain⟨t1,t2⟩:=R.is I1 G1 r1 rx hT
   refine⟨T,id,R.pa,R.slot,R.ty,t1,t2,?_⟩
   have hA:=ha.un fW pins s1 σ H1 _ I1 (jf.bind G1 S1 h2 λH2 ι2 vs e2 G2 S2 r2=>(⟨ι2,e2,G2,r2⟩:(λ(vs:List V) (H2:Hp)=>∃ι2,Ext H1 ι1 H2 ι2/\aB X.kw H2 ι2 g2/\ao X.kw H2 ι2 ds vs) vs H2))
   rw[hs]at hA ⊢
   refine aet (by show(false||(abU fW (ZS es X.env)).any (·.1))=false;rw[LP]<;>rfl) (Calls.evalArgs_plain ?_)
   refine bp hA λus s2 ⟨vs,H2,I2,r2,ι2,e2,G2,rs⟩=>?_
   exact R.run pins s2 σ H2 x vs v us Q I2 rx r2 ⟨ι2,g2,d1,ds,d,g',G2,Rel.ext e2 _ r1,rs,hT,h,p.mono (e1.trans e2)⟩
 . cases h)
theorem HZ (R:MR X T name id ij m)(ho:DE X o fo)(y3:adI o name X.env (eval o X.env)=eval o X.env:=by rfl)(y4:(apos.endLine == fW.line)=true:=by rfl):
   DE X (.Call (.Attribute o name apos) [] [] fW) (bX ij m fo ag):=.of (by
 intro pins s σ H Q I h
 obtain⟨ι,σd,g,d,g',G0,S0,h,p⟩:=h
 obtain⟨⟨d1,g1⟩,h1,h⟩:=bind_some h
 dsimp only at h
 split at h
 . rename_i hT
   obtain⟨⟨ds,g2⟩,h2,h⟩:=bind_some h
   cases h2
   refine wpAny_Call_method0_late y3 y4 (bp (ho.un pins s σ H (λx H1=>∃ι1,Ext H ι H1 ι1/\aB X.kw H1 ι1 g1/\bR X.kw H1 ι1 σd σ/\Rel X.kw H1 ι1 d1 x) I (tD.bind G0 S0 h1 λH1 ι1 v e1 G1 S1 r1=>⟨ι1,e1,G1,S1,r1⟩)) λv s1 ⟨x,H1,I1,rx,ι1,e1,G1,S1,r1⟩=>?_)
   obtain⟨t1,t2⟩:=R.is I1 G1 r1 rx hT
   refine⟨T,id,R.pa,R.slot,R.ty,t1,t2,aet rfl (PySem.evalArgs_none ?_)⟩
   exact R.run pins s1 σ H1 x [] v [] Q I1 rx .nil ⟨ι1,g1,d1,[],d,g',G1,r1,by simp[ao],hT,h,p.mono e1⟩
 . cases h)
end
noncomputable def fg:D->Bool
 |.aI _=>true
 |_=>false
theorem lj {X:Cx}{pins:List (Addr×Obj)}{σ:L2.St}{H:Hp}{s:Zo}{ι:Ix}{g:G}{d:D}{x:V}{v:Value}(I:Inv X pins σ H s)(G0:aB X.kw H ι g)(r:Rel X.kw H ι d x)(rv:RelV x v)(h:fg d=true):
  s.TypeIs v "dict" /\ ∀a,v = .ref a->∃ob,s.heap.get? a=some ob/\ob.dict=none:=by
 cases d with
 |aI n =>
  simp only[Rel]at r
  obtain⟨a,rfl,ha⟩:=r
  cases rv
  have hi:n<g.length:=by rw[<- G0.len];exact(Zs.mp ha.1).1
  obtain⟨es,vs,c,hH,_⟩:=G0.lR (Zq hi) ha
  obtain⟨ep,ho⟩:=tR I hH
  refine⟨⟨_,ho,rfl⟩,λb e=>?_⟩
  cases e
  exact⟨_,ho,rfl⟩
 |_=>cases h
noncomputable def i6 (d:D)(ds:List D)(g:G):Option (D×G):=match d,ds with
 |.aI n,[k]=>(g[n]?).bind λxs=>if bD 6 k=true then some ((aW xs k).getD .az,g)else none
 |.aI n,[k,x]=>(g[n]?).bind λxs=>if bD 6 k=true then some ((aW xs k).getD x,g)else none
 |_,_=>none
theorem vals1 {x:V}{us:List Value}(r:Vals [x] us):∃u,us = [u]/\RelV x u:=by
 cases r with
 |cons a b=>cases b;exact⟨_,rfl,a⟩
theorem LQ {X:Cx}(hu:X.A.units+64<cLine):MR X "dict" "get" "dict.get" fg i6 where
 pa:=aee
 slot:=acZ
 ty:=PySem.F.type_dict_get
 is:=lj
 run:=by
  intro pins s σ H x xs v us Q I rx rs q
  obtain⟨ι,g,d,ds,d',g',G0,r1,rl,hT,q,p⟩:=q
  have A3:=(lj I G0 r1 rx hT).1
  cases d with
  |aI n =>
   simp only[Rel]at r1
   obtain⟨a,rfl,ha⟩:=r1
   cases rx
   have core:∀{k dflt:D} {ys:List D} {kv dv:V} {ku du:Value} {Q':Fin->Zo->Prop},g[n]? = some ys->bD 6 k=true->Rel X.kw H ι k kv->RelV kv ku->Rel X.kw H ι dflt dv->RelV dv du->gD X.kw H ι ((aW ys k).getD dflt) g Q ->
      (∀v s',EP X pins σ Q v s'->Q' (.done (.ret v)) s')->wpAny (model X.prog X.w) X.A.in1 (do
       if let some v <- ad2 a ku then return <- ret v
       match <- Builtin.Dict.missed a ku with
       |some v=>ret v
       |none=>ret du) Q' X.xe s:=by
    intro k dflt ys kv dv ku du Q' hx hk rk WK rd WL p hQ
    obtain⟨es,vs,c,hH,iV,dU,rv,hh,nd,sy,sz,rl⟩:=G0.lR hx ha
    have en:=Ent.of rv hh rl
    refine Zm (sL I (by rw[in1_units];omega) hH en nd hk rk WK (λhn tk=>?_) (λw hs tk vv z rw_ rz=>?_))
    . rw[hn]at p
      exact Zm (wpAny_missed_other sy (Zp (hQ _ _ ⟨_,H,I.tok tk,WL,p H ι _ Ext.refl G0 rd⟩)))
    . rw[hs]at p
      exact Zp (hQ _ _ ⟨_,H,I.tok tk,rz,p H ι _ Ext.refl G0 rw_⟩)
   match ds,q,rl with
   | [k],q,rl =>
    simp only[i6]at q
    obtain⟨ys,hx,q⟩:=bind_some q
    split at q
    . rename_i hk
      cases q
      simp only[ao]at rl
      obtain⟨kv,_,rfl,rk,rfl⟩:=rl
      obtain⟨u,rfl,ru⟩:=vals1 rs
      exact aaa acZ A3 aeu (core (dflt:=.az) (dv:=.az) (du:=.none) hx hk rk ru (by simp[Rel]) rfl p λv s' h=>⟨v,rfl,h⟩) (PySem.F.args_dict_get_2 _ _)
    . cases q
   | [k,y],q,rl =>
    simp only[i6]at q
    obtain⟨ys,hx,q⟩:=bind_some q
    split at q
    . rename_i hk
      cases q
      simp only[ao]at rl
      obtain⟨kv,_,rfl,rk,yv,_,rfl,ry,rfl⟩:=rl
      obtain⟨u,w',rfl,ru,rw_⟩:=vals2 rs
      exact aaa acZ A3 aeu (core (dflt:=y) hx hk rk ru ry rw_ p λv s' h=>⟨v,rfl,h⟩) (PySem.F.args_dict_get_3 _ _ _)
    . cases q
   | [],q,rl=>cases q
   |_::_::_::_,q,rl=>cases q
  |_=>cases hT
noncomputable def hJ:FE:=λ_ g=>some (.aI g.length,g ++ [[]])
section
variable {X:Cx}
theorem H0 {pos:Pos}:DE X (.Dict [] [] pos) hJ:=.of (by
 intro pins s σ H Q I h
 obtain⟨ι,σd,g,d,g',G0,S0,h,p⟩:=h
 cases h
 have hf:H s.heap.objs.size=none:=I.bK.fresh (Zy _)
 have hg:∀h:Heap,(h.push { cls:=.type "dict",data:=.dict #[] }).get? h.objs.size=some { cls:=.type "dict",data:=.dict #[] }:=λh=>ZD _ rfl
 refine wpAny_Dict_empty ⟨.ref s.heap.objs.size,upd H s.heap.objs.size (dO s.heap.objs.size [] 0),I.laid (t':=s.toks) (λb u e=>Zr _ e) (Zy _) ?_,rfl,p _ _ _ (Ext.iM (b:=1) hf) (G0.iM hf (.d 0 [] [] (aae _) .nil .nil (by simp[aT]) (beq_eq_false_iff_ne.mpr (acb (ZP (big I)))) (aae _)) (by simp[ao])) ?_⟩
 . exact⟨hg _,⟨_,hg _⟩,λh1 h2 q k=>k _ q⟩
 . simp only[Rel]
   exact⟨_,rfl,d_.new G0.len⟩)
end
end L3
namespace L3
open PySem PySem.Spec PyProof.Rows L2
end L3
namespace L3
open PySem PySem.Spec PyProof.Rows L2 SeqAt DK
noncomputable def qZ:List (FE×FE)->Sg->G->Option (List (D×D)×G)
 | [],_,g=>some ([],g)
 |p::r,σ,g=>(p.1 σ g).bind λa=>(p.2 σ a.2).bind λb=>(qZ r σ b.2).bind λq=>some ((a.1,b.1)::q.1,q.2)
noncomputable def putAll (n:Nat):List (D×D)->G->Option G
 | [],g=>some g
 |p::r,g=>(kj (.aI n) p.1 p.2 g).bind λg'=>putAll n r g'
noncomputable def gq (ps:List (FE×FE)):FE:=λσ g=>(qZ ps σ (g ++ [[]])).bind λq=>(putAll g.length q.1 q.2).map λg'=>(.aI g.length,g')
inductive j7 (K:KW)(H:Hp)(ι:Ix):List (D×D)->List (Value×Value)->Prop
 |nil:j7 K H ι [] []
 |cons {d1 d2:D} {x y:V} {u v:Value} {ds us} (h1:Rel K H ι d1 x) (h2:RelV x u) (h3:Rel K H ι d2 y) (h4:RelV y v) (r:j7 K H ι ds us):j7 K H ι ((d1,d2)::ds) ((u,v)::us)
theorem j7.ext {K H ι H' ι' ds us}(r:j7 K H ι ds us)(e:Ext H ι H' ι'):j7 K H' ι' ds us:=by
 induction r with
 |nil=>exact .nil
 |cons h1 h2 h3 h4 _ ih=>exact .cons (Rel.ext e _ h1) h2 (Rel.ext e _ h3) h4 ih
section
variable {X:Cx}
noncomputable def fP (X:Cx):List (Option Expr)->List Expr->List (FE×FE)->Prop
 | [],[],[]=>True
 |some k::ks,v::vs,p::r=>DE X k p.1/\DE X v p.2/\fP X ks vs r
 |_,_,_=>False
theorem vg {pos:Pos}:∀(ps:List (FE×FE)) (keys:List (Option Expr)) (vals:List Expr),fP X keys vals ps->∀{pins:List (Addr×Obj)} {s:Zo} {σ:L2.St} {H:Hp} {ι:Ix} {σd:Sg} {g g':G} {ds:List (D×D)},Inv X pins σ H s->aB X.kw H ι g->bR X.kw H ι σd σ->qZ ps σd g=some (ds,g') ->
  wpAny (model X.prog X.w) X.A (evalPairs (pairTrees keys vals X.env pos)) (λus s'=>∃H' ι',Inv X pins σ H' s'/\Ext H ι H' ι'/\aB X.kw H' ι' g'/\j7 X.kw H' ι' ds us) X.xe s
 | [],keys,vals,hd,pins,s,σ,H,ι,σd,g,g',ds,I,G0,S0,h=>by
  have e:keys = []/\vals = []:=by
    cases keys with
    |nil=>cases vals with|nil=>exact⟨rfl,rfl⟩|cons _ _=>simp[fP]at hd
    |cons k _=>cases k<;>cases vals<;>simp[fP]at hd
  obtain⟨rfl,rfl⟩:=e
  cases h
  exact pairTrees_nil_walk ⟨H,ι,I,Ext.refl,G0,.nil⟩
 |p::ps,keys,vals,hd,pins,s,σ,H,ι,σd,g,g',ds,I,G0,S0,h=>by
  obtain⟨k,ks,v,vs,rfl,rfl,h1,h2,h3⟩:∃k ks v vs,keys=some k::ks/\vals=v::vs/\DE X k p.1/\DE X v p.2/\fP X ks vs ps:=by
    cases keys with
    |nil=>cases vals<;>simp[fP]at hd
    |cons k ks =>
     cases k with
     |none=>cases vals<;>simp[fP]at hd
     |some k =>
      cases vals with
      |nil=>simp[fP]at hd
      |cons v vs=>simp only[fP]at hd;exact⟨k,ks,v,vs,rfl,rfl,hd⟩
  . simp only[qZ]at h
    obtain⟨⟨d1,g1⟩,e1,h⟩:=bind_some h
    obtain⟨⟨d2,g2⟩,e2,h⟩:=bind_some h
    obtain⟨⟨dr,g3⟩,e3,h⟩:=bind_some h
    cases h
    refine pairTrees_cons_walk (bp (h1.un pins s σ H (λw H'=>∃ι1,Ext H ι H' ι1/\aB X.kw H' ι1 g1/\Rel X.kw H' ι1 d1 w) I ⟨ι,σd,g,d1,g1,G0,S0,e1,λH1 ι1 w e G1 r=>⟨ι1,e,G1,r⟩⟩) λu1 s1 q1=>?_)
    obtain⟨w1,H1,I1,WM,ι1,x1,G1,r1⟩:=q1
    refine bp (h2.un pins s1 σ H1 (λw H'=>∃ι2,Ext H1 ι1 H' ι2/\aB X.kw H' ι2 g2/\Rel X.kw H' ι2 d2 w) I1 ⟨ι1,σd,g1,d2,g2,G1,S0.ext x1,e2,λH2 ι2 w e G2 r=>⟨ι2,e,G2,r⟩⟩) λu2 s2 q2=>?_
    obtain⟨w2,H2,I2,WN,ι2,x2,G2,r2⟩:=q2
    refine bp (vg ps ks vs h3 I2 G2 ((S0.ext x1).ext x2) e3) λus s3 q3=>?_
    obtain⟨H3,ι3,I3,x3,G3,r3⟩:=q3
    exact⟨H3,ι3,I3,(x1.trans x2).trans x3,G3,.cons (Rel.ext (x2.trans x3) _ r1) WM (Rel.ext x3 _ r2) WN r3⟩
theorem vh (hu:X.A.units+64<cLine){a:Addr}{n:Nat}{E:Value->Zo->Prop}:∀(ds:List (D×D)) (us:List (Value×Value)) {pins:List (Addr×Obj)} {s:Zo} {σ:L2.St} {H:Hp} {ι:Ix} {g g':G} {Q:PUnit->Zo->Prop},Inv X pins σ H s->aB X.kw H ι g->d_ ι n a true->j7 X.kw H ι ds us->putAll n ds g=some g' ->
  (∀s' H',Inv X pins σ H' s'->Ext H ι H' ι->aB X.kw H' ι g'->Q aeS s') ->
  wpAny (model X.prog X.w) X.A (forIn us aeS λ(x:Value×Value) (_:PUnit)=>(do dictSet a x.1 x.2;pure (abo aeS):Sem (ForInStep PUnit))) Q E s
 | [],us,pins,s,σ,H,ι,g,g',Q,I,G0,ha,r,h,p=>by
  cases r
  cases h
  rw[aeB]
  exact Zp (p s H I Ext.refl G0)
 | (k,v)::ds,us,pins,s,σ,H,ι,g,g',Q,I,G0,ha,r,h,p=>by
  cases r with
  |cons h1 h2 h3 h4 r =>
   simp only[putAll,kj]at h
   obtain⟨g1,h5,h⟩:=bind_some h
   obtain⟨xs,hx,h5⟩:=bind_some h5
   split at h5
   . rename_i hk
     simp only[Zn]at hk
     cases h5
     obtain⟨es,vs,c,hH,iV,dU,mM,hh,nd,sy,sz,rl⟩:=G0.lR hx ha
     have en:=Ent.of mM hh rl
     have hz:=aD.le hk.2
     rw[nB en]at hz
     rw[ac_]
     refine Zm (Zm (sM I (by omega) hH dU sz en nd hk.1 h1 h2 h3 h4 λtk h' bY e1 e2 e3 e0 e4 e5=>Zp ?_))
     refine vh hu ds _ (oU I hH e4 e5) (oV G0 ha iV hH e1 e2 sy e0 (by omega)) ha (r.ext (Ext.put ha hH)) h λs' H' I' x' G'=>?_
     exact p s' H' I' ((Ext.put ha hH).trans x') G'
   . cases h5
theorem Dh (hu:X.A.units+64<cLine){keys:List (Option Expr)}{vals:List Expr}{pos:Pos}{ps:List (FE×FE)}(hd:fP X keys vals ps)(kX:keys.all (·.isSome)=true)(hl:keys.length=vals.length)(h0:keys ≠ [])(WO:keys.length<=15):
  DE X (.Dict keys vals pos) (gq ps):=.of (by
 intro pins s σ H Q I h
 obtain⟨ι,σd,g,d,g',G0,S0,h,p⟩:=h
 obtain⟨⟨ds,g1⟩,h1,h⟩:=bind_some h
 obtain⟨g2,h2,h⟩:=ZF.mp h
 cases h
 have hn:=pairTrees_length keys vals X.env pos kX hl
 have gZ:pairTrees keys vals X.env pos ≠ []:=λhe=>by
  rw[he]at hn
  exact h0 (aef.mp hn.symm)
 rw[arm_eval_Dict,zip_pairTrees keys vals X.env pos kX hl,dictDisplay_pairs _ gZ (by rw[hn];omega)]
 have hf:H s.heap.objs.size=none:=I.bK.fresh (Zy _)
 have hg:∀h:Heap,(h.push { cls:=.type "dict",data:=.dict #[] }).get? h.objs.size=some { cls:=.type "dict",data:=.dict #[] }:=λh=>ZD _ rfl
 have I1:Inv X pins σ (upd H s.heap.objs.size (dO s.heap.objs.size [] 0)) { s with heap:=s.heap.push { cls:=.type "dict",data:=.dict #[] } }:=I.laid (t':=s.toks) (λb u e=>Zr _ e) (Zy _) ⟨hg _,⟨_,hg _⟩,λh1 h2 q k=>k _ q⟩
 have x1:Ext H ι (upd H s.heap.objs.size (dO s.heap.objs.size [] 0)) (ι.more s.heap.objs.size 1):=Ext.iM (b:=1) hf
 have G1:aB X.kw (upd H s.heap.objs.size (dO s.heap.objs.size [] 0)) (ι.more s.heap.objs.size 1) (g ++ [[]]):=G0.iM hf (.d 0 [] [] (aae _) .nil .nil (by simp[aT]) (beq_eq_false_iff_ne.mpr (acb (ZP (big I)))) (aae _)) (by simp[ao])
 have EY:d_ (ι.more s.heap.objs.size 1) g.length s.heap.objs.size true:=d_.new G0.len
 refine Zm (adF (Zm ?_))
 unfold subDict
 refine Zm (afQ ?_)
 refine Zm (Z7 ?_)
 rw[if_pos (by rw[hn];exact WO)]
 refine Zm (bp (vg ps keys vals hd I1 G1 (S0.ext x1) h1) λus s1 q=>?_)
 obtain⟨H1,ι1,I2,x2,G2,rp⟩:=q
 refine Z7 (Zm (vh hu ds us I2 G2 (x2.at EY) rp h2 λs' H' I' x' G'=>Zp (Zp (Zp ?_))))
 refine⟨.ref s.heap.objs.size,H',I',rfl,p H' ι1 _ ((x1.trans x2).trans x') G' ?_⟩
 simp only[Rel]
 exact⟨_,rfl,x2.at EY⟩)
end
end L3
namespace DK
open PySem PySem.Spec PyProof.Rows L2 L3
section
variable {prog:ZY}{w:World}{A:ZV}{E:Value->Zo->Prop}{s:Zo}{it d:Addr}{i n ep:Nat}{es:Array ZX}{Q:Option Value->Zo->Prop}
theorem next_end (hh:A.handled=none)(hit:s.heap.IsKeyIter it d i n ep)(ho:s.heap.get? d=some { cls:=.type "dict",data:=.dict es ep })(hn:es.size=n)(he:es.size<=i)
  (hQ:∀h',aer it s.heap h'->Q none { s with heap:=h' }):wpAny (model prog w) A (pyNext (.ref it)) Q E s:=by
 subst hn
 obtain⟨o,h1,h2,h3⟩:=id hit
 have T:=hit.typeIs
 have own:adt "dict_keyiterator" = false:=by decide
 have WQ:A.in1.handled=none:=hh
 have ge:es[i]? = none:=Array.getElem?_eq_none he
 unfold pyNext
 refine Zm (wpAny_attempt (aav (name:=ZW "__next__") T F.slot_dict_keyiterator_next (aaa F.slot_dict_keyiterator_next T F.entry_dict_keyiterator_next ?_ (F.args_dict_keyiterator_next_1 _))))
 unfold aby.«dict_keyiterator.__next__»
 wp_walk using (abu T),(wpAny_fieldsOf h1 h3),(aa0 ho rfl),(aa2 ho rfl)
 have ni:¬((i:Int)<0):=by omega
 simp only[ni,if_false,abI,ge]
 wp_walk using (abu T),(adq h1 h3 (by simp[own]))
 unfold raiseNew
 refine Zm (wpAny_handled ?_)
 rw[WQ]
 refine Zm (Zp (wpAny_throw (Zm (ad9 (T:="StopIteration") (b:=true) (v:=.ref _) (by exact⟨_,ZD _ rfl,rfl⟩) isSubtype_stop ?_))))
 exact Zp (hQ _ (((aa5 ..).extBut.push _).push _))
theorem next_item {e:ZX}(hit:s.heap.IsKeyIter it d i n ep)(ho:s.heap.get? d=some { cls:=.type "dict",data:=.dict es ep })(hn:es.size=n)(he:es[i]? = some e)
  (hQ:∀h',h'.IsKeyIter it d (i+1) n ep->acd it s.heap h'->Q (some e.key) { s with heap:=h' }):wpAny (model prog w) A (pyNext (.ref it)) Q E s:=by
 subst hn
 obtain⟨o,h1,h2,h3⟩:=id hit
 have T:=hit.typeIs
 have ni:¬((i:Int)<0):=by omega
 have qX:(s.heap.update it (Obj.mapFields (·.setIfInBounds 1 (ad4 ((i:Int)+1))))).IsKeyIter it d (i+1) es.size ep :=
  ⟨_,abg _ h1 (aeE (acF h3 _)),(afG ..).trans h2,by rw[acF h3];simp[ad4]⟩
 unfold pyNext
 refine Zm (wpAny_attempt (aav (name:=ZW "__next__") T F.slot_dict_keyiterator_next (aaa F.slot_dict_keyiterator_next T F.entry_dict_keyiterator_next ?_ (F.args_dict_keyiterator_next_1 _))))
 unfold aby.«dict_keyiterator.__next__»
 wp_walk using (abu T),(wpAny_fieldsOf h1 h3),(aa0 ho rfl),(aa2 ho rfl)
 simp only[ni,if_false,abI,he]
 have own:adt "dict_keyiterator" = false:=by decide
 refine Zm (Zm (abu T (Zp (Zm (aeF T ?_)))))
 rw[own]
 refine Zm (adq h1 h3 (by simp) ?_)
 have T':ahc { s with heap:=s.heap.update it (Obj.mapFields (·.setIfInBounds 1 (ad4 ((i:Int)+1)))) } (.ref it) "dict_keyiterator":=qX.typeIs
 refine Zm (Z7 (Zm (aeF T' (Zp (Zp ⟨_,rfl,Zp (hQ _ qX (aa5 ..))⟩)))))
theorem vm {Q:Value->Zo->Prop}(hd:(d == aa9)=false)(ho:s.heap.get? d=some { cls:=.type "dict",data:=.dict es ep })
  (hQ:Q (.ref s.heap.objs.size) { s with heap:=s.heap.push { cls:=.type "dict_keyiterator",data:=.fields #[.ref d,.int 0 0,.int es.size 0,.int ep 0] } }):wpAny (model prog w) A (pyIter (.ref d)) Q E s:=by
 have T:s.TypeIs (.ref d) "dict":=⟨_,ho,rfl⟩
 refine wpAny_pyIter_slot T F.slot_dict_iter (aaa F.slot_dict_iter T F.entry_dict_iter ?_ (F.args_dict_iter_1 _))
 unfold aby.«dict.__iter__» Builtin.Dict.dictSlotNone Builtin.Dict.showsAll
 wp_walk using (acY T),(aa0 ho rfl),(aa2 ho rfl)
 exact⟨_,rfl,"dict_keyiterator",_,⟨_,ZD _ rfl,rfl⟩,F.slot_dict_keyiterator_next.lookup,by simpa[ad4]using hQ⟩
end
end DK
namespace L3
open PySem PySem.Spec PyProof.Rows L2 SeqAt DK
theorem mN:∀{es:List ZX} {i:Nat} {e:ZX},es[i]? = some e->(jq es)[2*i]? = some e.key
 | [],i,e,h=>by simp at h
 |x::es,0,e,h=>by simp at h;subst h;rfl
 |x::es,i+1,e,h=>by
  rw[show 2*(i+1)=2*i+1+1 by omega]
  simpa[jq]using mN (by simpa using h)
noncomputable def LR (a:Addr)(n c:Nat):It :=
 ⟨λi H=>∃es vs,H a=some (dO a es c)/\Vals vs (jq es)/\es.length=n/\i<n,λi H x H'=>H'=H /\ ∀es vs,H a=some (dO a es c)->Vals vs (jq es)->vs[2*i]? = some x,λi H=>∃es,H a=some (dO a es c)/\es.length=n/\n<=i⟩
theorem A4 {P:ZY}{w:World}{K:ZC}{tg:Expr}(a it:Addr)(n c:Nat):Turn P w K tg (LR a n c) [it] it (λi h=>h.IsKeyIter it a i n (n-c)) where
 mem:=by simp
 obj:=λi h st b hb=>by
  have e:b=it:=by simpa using hb
  subst e
  obtain⟨o,e,c,d⟩:=st
  exact⟨o,e,λv z=>by rw[d]at z;cases z⟩
 keep:=λi h h' st k=>by
  obtain⟨o,e,c,d⟩:=st
  exact⟨o,k it (by simp) o e,c,d⟩
 item:=by
  intro X hP hw hK hc i pins s σ H E I hf st hg
  subst hP hw hK
  obtain⟨es,vs,hH,hv,hn,hi⟩:=hg
  have ho:=gp I hH
  rw[hn]at ho
  have ig:i<es.length:=by omega
  obtain⟨x,hx⟩:∃x,vs[2*i]? = some x:=by
   have h1:=mN (Zq ig)
   have h2:=(Zs.mp h1).1
   exact⟨_,Zq (by rw[hv.length];exact h2)⟩
  obtain⟨u,hu,ru⟩:=hv.get hx
  have hk:=mN (Zq ig)
  rw[hk]at hu
  cases hu
  obtain⟨f0,f1,f2,f3,f4,f5⟩:=hf it (by simp)
  refine next_item (e:=es[i]) st ho (by simpa using hn) (by simp[ig]) λh' dH sb=>?_
  have I1:Inv X pins σ H { s with heap:=h' }:=I.turned (t':=s.toks) (λb o hb e=>(sb.2 b hb).trans e) f0 f1 f3 f4 f5
  obtain⟨o,e,c,d⟩:=id dH
  refine⟨_,rfl,tH (s:={ s with heap:=h' }) e c d (by decide) ⟨x,H,I1,ru,⟨rfl,λbY sI h1 h2=>?_⟩,dH,λb hb=>(hf b hb).1⟩⟩
  have ia:=gp I h1
  have gm:=gp I hH
  rw[gm]at ia
  have:es=bY:=by
   injection ia with q
   injection q with _ _ q _
   injection q with q _
   simpa using congrArg afg q
  subst this
  rw[Vals.inj h2 hv]
  exact hx
 done:=by
  intro X hP hw hK hc i pins s σ H E I hf st hg
  subst hP hw hK
  obtain⟨es,hH,hn,hi⟩:=hg
  have ho:=gp I hH
  rw[hn]at ho
  obtain⟨f0,f1,f2,f3,f4,f5⟩:=hf it (by simp)
  exact next_end (I.ok.hd hc) st ho (by simpa using hn) (by simp;omega) λh' eb=>⟨rfl,I.turned (t':=s.toks) (λb o hb e=>eb b o hb e) f0 f1 f3 f4 f5⟩
 self:=λ_ _ _ _ _ st h=>aeU st h
section
variable {X:Cx}{tg:Expr}
noncomputable def LS (tl:TE):TI:=λσ H R=>tl σ H λx H1=>∃a n c,x = .ref a/\(∃es,H1 a=some (dO a es c)/\es.length=n)/\(a == aa9)=false/\R (LR a n c) H1
theorem H_ {l:Expr}{tl:TE}(hl:PE X l tl):PI X tg l (LS tl):=by
 intro pins s σ H R I h
 refine bp (hl pins s σ H _ I h) λv s1 ⟨x,H1,I1,r1,q1⟩=>?_
 obtain⟨a,n,c,e,⟨es,hH,hn⟩,hs,q⟩:=q1
 subst e
 cases r1
 have ho:=gp I1 hH
 refine vm hs ho ?_
 refine⟨s1.heap.objs.size,[s1.heap.objs.size],_,_,H1,rfl,I1.kept (t':=s1.toks) λb o e=>Zr _ e,A4 a _ n c,⟨_,ZD _ rfl,rfl,by simp[hn]⟩,λb hb=>?_,q⟩
 have e:b=s1.heap.objs.size:=by simpa using hb
 subst e
 exact I1.oH (Zy _) (I1.bK.fresh (Zy _))
end
end L3
namespace L3
open PySem PySem.Spec PyProof.Rows L2
noncomputable def gr (nn L:Nat)(t:FG)(c:FT)(e:FE):Nat->Sg->G->Option (List D×G)
 | 0,_,g=>((g[nn]?).map aT).bind λxs=>if xs.length=L then some ([],g)else none
 |r+1,σ,g=>((g[nn]?).map aT).bind λxs=>if xs.length=L then(xs[L-(r+1)]?).bind λd=>(t d σ g).bind λq=>(c q.1 q.2).bind λk=>if k.1=true then(e q.1 k.2).bind λr'=>(gr nn L t c e r q.1 r'.2).bind λz=>some (r'.1::z.1,z.2)else gr nn L t c e r q.1 k.2 else none
noncomputable def y6 (K:KW)(J:It)(H:Hp)(ι:Ix)(nn L:Nat):Prop :=
 ∀(i:Nat) H1 ι1 g1,ib H ι H1 ι1->aB K H1 ι1 g1->∀xs,(g1[nn]?).map aT=some xs->xs.length=L->(L<=i->J.stop i H1) /\ ∀d,xs[i]? = some d->J.go i H1 /\ ∀x H2,J.uv i H1 x H2->Ext H1 ι1 H2 ι1/\aB K H2 ι1 g1/\Rel K H2 ι1 d x
inductive LU (K:KW)(f:fU)(σ:L2.St)(H:Hp)(R:(It->Hp->Prop)):Prop
 |mk (ι:Ix) (σd:Sg) (g:G) (nn:Nat) (L:Nat) (g':G) (h0:aB K H ι g) (h1:bR K H ι σd σ) (h2:f σd g=some (nn,L,g')) (h3:∀H' ι' J,Ext H ι H' ι'->aB K H' ι' g'->y6 K J H' ι' nn L->R J H'):LU K f σ H R
structure EZ (X:Cx)(tg iter:Expr)(f:fU):Prop where of ::
 un:PI X tg iter (LU X.kw f)
noncomputable def i7 (f:FE):fU:=λσ g=>(f σ g).bind λr=>match r.1 with|.aI n=>(r.2[n]?).bind λxs=>some (n,(aT xs).length,r.2)|_=>none
theorem vn {K H ι}{xs:List D}{es:List ZX}(en:DK.Ent K H ι xs es):(aT xs).length=es.length:=by
 induction en with
 |nil=>rfl
 |cons _ _ _ _ _ _ _ ih=>simp[aT,ih]
theorem Ia {xs:List D}:∀{i:Nat} {d:D},(aT xs)[i]? = some d->xs[2*i]? = some d:=by
 have:∀(n:Nat) (xs:List D),xs.length<=n->∀{i:Nat} {d:D},(aT xs)[i]? = some d->xs[2*i]? = some d:=λn=>by
  induction n with
  |zero=>intro xs h i d e;have:xs = []:=aef.mp (by omega);subst this;simp[aT]at e
  |succ n ih =>
   intro xs h i d e
   match xs,h,e with
   | [],_,e=>simp[aT]at e
   | [x],_,e=>simp[aT]at e
   |k::v::r,h,e =>
    cases i with
    |zero=>simpa[aT]using e
    |succ i =>
     rw[show 2*(i+1)=2*i+1+1 by omega]
     simpa using ih r (by simp at h;omega) (by simpa[aT]using e)
 exact fun {i d} h=>this xs.length xs (Zy _) h
theorem y6.aI {K H ι a n L c}(h:d_ ι n a true)(hk:ι.kd n=c+1):y6 K (LR a L c) H ι n L:=λi H1 ι1 g1 e1 G1 xs hx hl=>by
 obtain⟨ys,hy,rfl⟩:=ZF.mp hx
 obtain⟨es,vs,c1,hH,iV,dU,mM,hh,nd,sy,sz,rl⟩:=G1.lR hy (e1.at h)
 rw[e1.lQ n (Zs.mp h.1).1,hk]at iV
 cases iV
 have en:=DK.Ent.of mM hh rl
 have hlen:=vn en
 refine⟨λh=>⟨es,hH,by omega,h⟩,λd hd=>?_⟩
 have hi:i<(aT ys).length:=(Zs.mp hd).1
 refine⟨⟨es,vs,hH,mM,by omega,by omega⟩,λx H2 y=>?_⟩
 obtain⟨rfl,y⟩:=y
 have:=y es vs hH mM
 obtain⟨v,hv,rv⟩:=rl.get (Ia hd)
 rw[hv]at this
 cases this
 exact⟨Ext.refl,G1,rv⟩
theorem xH {X:Cx}{tg l:Expr}{fe:FE}(hl:DE X l fe):EZ X tg l (i7 fe):=.of (PI.imp (H_ hl.un) λσ H Q h=>by
 obtain⟨ι,σd,g,nn,L,g',G0,S0,h,p⟩:=h
 obtain⟨⟨d1,g1⟩,h1,h⟩:=bind_some h
 cases d1 with
 |aI n =>
  obtain⟨xs,hx,h⟩:=bind_some h
  cases h
  refine tD.bind G0 S0 h1 λH1 ι1 v e1 G1 S1 r1=>?_
  simp only[Rel]at r1
  obtain⟨a,rfl,ha⟩:=r1
  obtain⟨es,vs,c,hH,iV,dU,mM,hh,nd,sy,sz,rl⟩:=G1.lR hx ha
  have en:=DK.Ent.of mM hh rl
  exact⟨a,_,c,rfl,⟨es,hH,(vn en).symm⟩,sy,p H1 ι1 _ e1 G1 (.aI ha iV)⟩
 |_=>cases h)
noncomputable def iW (mk:List D->G->Option (D×G))(fi:fU)(fr:List (Option Nat))(t:FG)(c:FT)(e:FE):FE:=λσ g=>(fi σ g).bind λr=>if aD r.2.1=true then(gr r.1 r.2.1 t c e r.2.1 (bH fr σ) r.2.2).bind λq=>mk q.1 q.2 else none
noncomputable def A5 (fi:fU):om:=λσ g=>(fi σ g).map λr=>(λg=>(g[r.1]?).map aT,r.2.1,r.2.2)
theorem xI {X:Cx}{tg iter:Expr}{fi:fU}(h:EZ X tg iter fi):uR X tg iter (A5 fi):=.of (PI.imp h.un λσ H Q q=>by
 obtain⟨ι,σd,g,sh,L,g',G0,S0,h2,p⟩:=q
 obtain⟨⟨nn,L1,g1⟩,h1,e⟩:=ZF.mp h2
 cases e
 exact⟨ι,σd,g,nn,L1,g1,G0,S0,h1,λH' ι' J e1 G1 J1=>p H' ι' J e1 G1 J1⟩)
theorem vo {nn L:Nat}{t:FG}{c:FT}{e:FE}:∀(k:Nat) (σ:Sg) (g:G),gr nn L t c e k σ g=cS (λg=>(g[nn]?).map aT) L t c e k σ g
 | 0,σ,g=>by simp only[gr,cS]
 |k+1,σ,g=>by simp only[gr,cS,vo k]
theorem Di {mk:List D->G->Option (D×G)}{fi:fU}{fr:List (Option Nat)}{t:FG}{c:FT}{e:FE}:iW mk fi fr t c e=iS mk (A5 fi) fr t c e:=by
 funext σ g
 unfold iW iS A5
 cases fi σ g with
 |none=>rfl
 |some r=>simp only[Zv,aab,vo]
section
variable {X:Cx}{tg iter elt:Expr}{ifs:List Expr}{scope:Scope}{pos fW:Pos}{N:List Str}{fr:List (Option Nat)}{fi:fU}{t:FG}{c:FT}{e:FE}
theorem Dj (jh:X.xe=λ_ _=>False)(hc:X.calm=true)(ok:fB X N fr scope)(hit:EZ X tg iter fi)(dk:∀C s3 H fp pins,DG (bP X N scope C s3 H fp pins) tg t/\iu (bP X N scope C s3 H fp pins) ifs c/\DE (bP X N scope C s3 H fp pins) elt e)
  (hs:∀x,aaj iter X.env x=pure x:=by intro _;rfl):DE X (.ListComp elt [⟨tg,iter,ifs,0⟩] scope pos) (iW aV fi fr t c e):=by
 rw[Di];exact oO jh hc ok (xI hit) dk hs
end
section
variable {σ:Sg}{g:G}{fa:FE}
@[simp] theorem VA:i7 fa σ g=(fa σ g).bind λr=>match r.1 with|.aI n=>(r.2[n]?).bind λxs=>some (n,(aT xs).length,r.2)|_=>none:=rfl
@[simp] theorem A6 {mk:List D->G->Option (D×G)}{fi:fU}{fr:List (Option Nat)}{t:FG}{c:FT}:iW mk fi fr t c fa σ g=(fi σ g).bind λr=>if aD r.2.1=true then(gr r.1 r.2.1 t c fa r.2.1 (bH fr σ) r.2.2).bind λq=>mk q.1 q.2 else none:=rfl
end
noncomputable def hU (nn L:Nat)(t:FG)(b:FS):Nat->FS
 | 0,σ,g=>((g[nn]?).map aT).bind λxs=>if xs.length=L then some (.nx,σ,g)else none
 |r+1,σ,g=>((g[nn]?).map aT).bind λxs=>if xs.length=L then(xs[L-(r+1)]?).bind λd=>(t d σ g).bind λq=>(b q.1 q.2).bind λr'=>match r'.1 with
   |.nx=>hU nn L t b r r'.2.1 r'.2.2
   |.ct=>hU nn L t b r r'.2.1 r'.2.2
   |.bk=>some (.nx,r'.2.1,r'.2.2)
   |.rt d=>some (.rt d,r'.2.1,r'.2.2)
  else none
noncomputable def j8 (fi:fU)(t:FG)(b:FS):FS:=λσ g=>(fi σ g).bind λr=>hU r.1 r.2.1 t b r.2.1 σ r.2.2
theorem xJ {nn L:Nat}{t:FG}{b:FS}:∀(k:Nat) (σ:Sg) (g:G),hU nn L t b k σ g=gA (λg=>(g[nn]?).map aT) L t b k σ g
 | 0,σ,g=>by simp only[hU,gA]
 |k+1,σ,g=>by simp only[hU,gA,xJ k]<;>rfl
theorem Ib {fi:fU}{t:FG}{b:FS}:j8 fi t b=pP (A5 fi) t b:=by
 funext σ g
 unfold j8 pP A5
 cases fi σ g with
 |none=>rfl
 |some r=>simp only[Zv,aab,xJ]
theorem Ic {X:Cx}{tg:Expr}{pos:Pos}{iter:Expr}{body:List Stmt}{fi:fU}{t:FG}{b:FS}(hp:acV (model X.prog X.w) X.A X.env X.xe)(hc:X.calm=true)(hi:EZ X tg iter fi)(hg:DG X tg t)(hb:jZ X body b)
  (hs:∀x,aaj iter X.env x=pure x:=by intro _;rfl):DS X (.For tg iter body [] pos) (j8 fi t b):=by
 rw[Ib];exact xo hp hc (xI hi) hg hb hs
theorem Dk {fi:fU}{t:FG}{b:FS}{σ:Sg}{g:G}:j8 fi t b σ g=(fi σ g).bind λr=>hU r.1 r.2.1 t b r.2.1 σ r.2.2:=rfl
noncomputable def sN:Bool->String
 |true=>"list"
 |false=>"tuple"
noncomputable def iN:Bool->String
 |true=>"list_iterator"
 |false=>"tuple_iterator"
def LV (κ:Bool)(h:Heap)(a:Addr)(xs:Array Value):Prop:=∃o,h.get? a=some o/\o.cls = .type (sN κ) /\ ∃n,o.data = .seq xs n
def LW (κ:Bool)(h:Heap)(j a:Addr)(i:Nat):Prop:=∃o,h.get? j=some o/\o.cls = .type (iN κ)/\o.data = .fields #[.ref a,.int i 0]
theorem LV.extBut {κ:Bool}{h h':Heap}{a b items}(x:LV κ h a items)(hs:aer b h h')(K9:a≠b):LV κ h' a items:=let⟨o,ho,r⟩:=x;⟨o,hs a o K9 ho,r⟩
theorem LW.at {κ:Bool}{h h':Heap}{j a i}(x:LW κ h j a i)(k:∀o,h.get? j=some o->h'.get? j=some o):LW κ h' j a i:=let⟨o,ho,r⟩:=x;⟨o,k o ho,r⟩
noncomputable def vp (K:ZC):Bool->Hp->Addr->List V->Prop
 |true=>dz K
 |false=>dQ K
noncomputable def SJ (K:ZC)(κ1 κ2:Bool)(a b:Addr):It :=
 ⟨λi H=>∃xs ys x y,vp K κ1 H a xs/\vp K κ2 H b ys/\xs[i]? = some x/\ys[i]? = some y,λi H x H'=>∃T v u,x = .ref T/\H T=none/\H'=upd H T (.tup [v,u]) /\ ∀xs ys,vp K κ1 H a xs->vp K κ2 H b ys->xs[i]? = some v/\ys[i]? = some u,
  λi H=>∃xs ys,vp K κ1 H a xs/\vp K κ2 H b ys/\(xs.length<=i\/ys.length<=i)⟩
abbrev VW:=G->Option (List D)
abbrev QK:=Sg->G->Option (VW×Nat×G)
noncomputable def y7 (K:KW)(J:It)(H:Hp)(ι:Ix)(vw:VW)(L:Nat):Prop :=
 ∀(i:Nat) H1 ι1 g1,ib H ι H1 ι1->aB K H1 ι1 g1->∀xs,vw g1=some xs->xs.length=L->(L<=i->J.stop i H1) /\ ∀d,xs[i]? = some d->J.go i H1 /\ ∀x H2,J.uv i H1 x H2->Ext H1 ι1 H2 ι1/\aB K H2 ι1 g1/\Rel K H2 ι1 d x
inductive LX (K:KW)(f:QK)(σ:L2.St)(H:Hp)(R:(It->Hp->Prop)):Prop
 |mk (ι:Ix) (σd:Sg) (g:G) (vw:VW) (L:Nat) (g':G) (h0:aB K H ι g) (h1:bR K H ι σd σ) (h2:f σd g=some (vw,L,g')) (h3:∀H' ι' J,Ext H ι H' ι'->aB K H' ι' g'->y7 K J H' ι' vw L->R J H'):LX K f σ H R
structure YX (X:Cx)(tg iter:Expr)(f:QK):Prop where of ::
 un:PI X tg iter (LX X.kw f)
noncomputable def y8 (vw:VW)(L:Nat)(t:FG)(b:FS):Nat->FS
 | 0,σ,g=>(vw g).bind λxs=>if xs.length=L then some (.nx,σ,g)else none
 |r+1,σ,g=>(vw g).bind λxs=>if xs.length=L then(xs[L-(r+1)]?).bind λd=>(t d σ g).bind λq=>(b q.1 q.2).bind λr'=>match r'.1 with
   |.nx=>y8 vw L t b r r'.2.1 r'.2.2
   |.ct=>y8 vw L t b r r'.2.1 r'.2.2
   |.bk=>some (.nx,r'.2.1,r'.2.2)
   |.rt d=>some (.rt d,r'.2.1,r'.2.2)
  else none
section
variable {X:Cx}{tg:Expr}{pos:Pos}
inductive Pz (X:Cx)(t:FG)(b:FS)(vw:VW)(L:Nat)(H1:Hp)(ι1:Ix)(r:F)(cf:Sg)(g':G)(i:Nat)(σ2:L2.St)(H2:Hp):Prop
 |mk (ι2:Ix) (lS:Sg) (g2:G) (e2:Ext H1 ι1 H2 ι2) (G2:aB X.kw H2 ι2 g2) (S2:bR X.kw H2 ι2 lS σ2) (hf:y8 vw L t b (L-i) lS g2=some (r,cf,g')):Pz X t b vw L H1 ι1 r cf g' i σ2 H2
end
noncomputable def Dm:D->Option (Bool×VW)
 |.lst xs=>some (true,λ_=>some xs)
 |.tup xs=>some (false,λ_=>some xs)
 |.ref n=>some (true,λg=>g[n]?)
 |_=>none
noncomputable def SK (v w:VW):VW:=λg=>(v g).bind λxs=>(w g).map λys=>De xs ys
theorem E2 {K H ι d x κ v}(r:Rel K H ι d x)(h:Dm d=some (κ,v)){H1 ι1 g1}(e:ib H ι H1 ι1)(G1:aB K H1 ι1 g1){xs:List D}(hv:v g1=some xs):∃a vs,x = .ref a/\vp K.fr κ H1 a vs/\ao K H1 ι1 xs vs:=by
 cases d with
 |lst ys =>
  cases h
  cases hv
  simp only[Rel]at r
  obtain⟨a,vs,rfl,hq,hr⟩:=r
  exact⟨a,vs,rfl,(hq.eu e).sq,ao.eu e _ hr⟩
 |tup ys =>
  cases h
  cases hv
  simp only[Rel]at r
  obtain⟨a,vs,rfl,hq,hr⟩:=r
  exact⟨a,vs,rfl,(hq.eu e).sq,ao.eu e _ hr⟩
 |ref n =>
  cases h
  simp only[Rel]at r
  obtain⟨a,rfl,ha⟩:=r
  obtain⟨vs,hH,hr⟩:=G1.at hv (e.at ha)
  exact⟨a,vs,rfl,.inl (.inl hH),hr⟩
 |_=>cases h
theorem y7.zip {K H ι a b d1 d2 κ1 κ2 v w L}(r1:Rel K H ι d1 (.ref a))(h1:Dm d1=some (κ1,v))(r2:Rel K H ι d2 (.ref b))(h2:Dm d2=some (κ2,w)):y7 K (SJ K.fr κ1 κ2 a b) H ι (SK v w) L:=λi H1 ι1 g1 e1 G1 zs hz hl=>by
 obtain⟨xs,hx,hz⟩:=bind_some hz
 obtain⟨ys,hy,hz⟩:=ZF.mp hz
 subst hz
 obtain⟨_,vs,e,hq,hr⟩:=E2 r1 h1 e1 G1 hx
 cases e
 obtain⟨_,us,e,mG,lU⟩:=E2 r2 h2 e1 G1 hy
 cases e
 refine⟨λhi=>⟨vs,us,hq,mG,by
  have LY:min xs.length ys.length=L:=by simpa[De]using hl
  rw[<- hr.length,<- lU.length];omega⟩,λd hd=>?_⟩
 unfold De at hd
 rw[Z1]at hd
 cases hx:(xs.zip ys)[i]? with
 |none=>rw[hx]at hd;cases hd
 |some pr =>
  obtain⟨d0,d1⟩:=pr
  rw[hx]at hd
  simp only[aab,aaE]at hd
  subst hd
  rw[List.getElem?_zip_eq_some]at hx
  obtain⟨v,hv,rv⟩:=hr.get hx.1
  obtain⟨u,hu,ru⟩:=lU.get hx.2
  refine⟨⟨vs,us,v,u,hq,mG,hv,hu⟩,λx H2 y=>?_⟩
  obtain⟨T,v',u',rfl,hn,rfl,hy⟩:=y
  obtain⟨y1,y2⟩:=hy vs us hq mG
  rw[hv]at y1
  rw[hu]at y2
  cases y1
  cases y2
  refine⟨Ext.lay hn,G1.lay hn,?_⟩
  simp only[Rel]
  refine⟨T,_,rfl,.inl ⟨.inl bC,G1.fresh hn⟩,?_⟩
  simp only[ao]
  exact⟨_,_,rfl,Rel.ext (Ext.lay hn) _ rv,_,_,rfl,Rel.ext (Ext.lay hn) _ ru,rfl⟩
end L3
namespace RI
open PySem PySem.Spec PyProof.Rows L2 L3
structure G0 where
 T:Nat->Fn
 k:Nat
 fns:List (Str×Nat×Nat)
 iX:List Str
 vq:List (Str×D)
 xK:List (Str×List (Str×D))
structure Cs where
 N:List Str
 sc:Scope
 all:Bool
 mt:List Str
 own:List Str
inductive A7 (m:G0)(X:Cx)(x:Str)(i n:Nat):Prop
 |mk (f:Addr) (fd:aaA) (ps:List Str) (ok:dM X.prog X.w X.K X.mg X.base je m.k f fd ps (my X.kw n (m.T i))) (hm:X.mg x=some (.ref f)) (kp:aaX X.K (.ref f)=true) (b:Binds X.K fd ps []) (ln:∀ds g r,m.T i ds g=some r->ds.length=n):A7 m X x i n
structure Gd (m:G0)(c:Cs)(X:Cx):Prop where
 hN:X.N=c.N
 hs:X.env.scope=c.sc
 nd:c.N.Nodup
 xe:X.xe=λ_ _=>False
 cm:X.calm=true
 rm:aQ m.k X.A
 al:c.all=true->∀x,X.fn x=true
 ow:∀x∈c.own,X.fn x=true
 fn:∀x i n,(x,i,n)∈m.fns->A7 m X x i n
 bl:∀x∈m.iX,X.mg x=none
 cn:∀x d,(x,d)∈m.vq->∃v u,X.mg x=some u/\RelV v u /\ ∀K H ι,Rel K H ι d v
 dc:∀x t,(x,t)∈m.xK->∃a,X.mg x=some (.ref a)/\tQ X.w X.kw a t
noncomputable def mO:FT:=λ_ _=>none
noncomputable def pZ:FA:=λ_ _=>none
noncomputable def eU:FS:=λ_ _=>none
noncomputable def p4:FI:=λ_ _=>none
noncomputable def p5:FG:=λ_ _ _=>none
section
variable {X:Cx}
theorem q_ {e:Expr}:DT X e mO:=.of (λpins s σ H Q I h=>by obtain⟨_,_,_,_,_,_,_,h,_⟩:=h;cases h)
theorem ra {es:List Expr}:DA X es pZ:=.of (λ_ pins s σ H Q I h=>by obtain⟨_,_,_,_,_,_,_,h,_⟩:=h;cases h)
theorem eG {e:Stmt}:DS X e eU:=.of (λpins s σ H Q I h=>by obtain⟨_,_,_,_,_,_,_,_,h,_⟩:=h;cases h)
theorem rg {tg e:Expr}:DI X tg e p4:=.of (λpins s σ H Q I h=>by obtain⟨_,_,_,_,_,_,_,h,_⟩:=h;cases h)
theorem iC {e:Expr}:DG X e p5:=.of (λpins s σ H v u Q I r h=>by obtain⟨_,_,_,_,_,_,_,_,_,h,_⟩:=h;cases h)
end
noncomputable def isStar:Expr->Bool
 |.Starred ..=>true
 |_=>false
noncomputable def isSet:Expr->Bool
 |.Set ..=>true
 |_=>false
noncomputable def y9:Expr->Bool
 |.Slice ..=>true
 |_=>false
noncomputable def p6:Expr->Bool
 |.ListComp ..=>true
 |.SetComp ..=>true
 |.DictComp ..=>true
 |_=>false
noncomputable def PB:Expr->Bool
 |.List ..=>true
 |_=>false
noncomputable def p7:Expr->Bool
 |.Tuple ..=>true
 |_=>false
noncomputable def xM:Expr->Bool
 |.Call (.Name _ _) [] [] _=>true
 |_=>false
noncomputable def vt:Expr->Bool
 |.UnaryOp .Not _ _=>false
 |.BoolOp ..=>false
 |.IfExp ..=>false
 |.Compare ..=>false
 |_=>true
noncomputable def PC:Expr->Bool
 |.Name ..=>true
 |.Subscript ..=>true
 |.Constant ..=>true
 |_=>false
theorem bZ {e:Expr}{es:List Expr}{env:Env}(h:isStar e=false):ZS (e::es) env=(false,eval e env)::ZS es env:=by
 cases e<;>first|rfl|cases h
theorem marks {op:CmpOp}{e:Expr}(h:isSet e=false):ab1 op e=false:=by
 cases e<;>first|rfl|cases h
theorem plainT {e:Expr}{env:Env}(h:vt e=true):∀whole,isTrue e env whole=(do let v <- whole;aex e.pos;ace [v] (truthy v)):=by
 intro whole
 cases e with
 |UnaryOp op a p=>cases op<;>first|rfl|cases h
 |_=>first|rfl|cases h
theorem Ie {e:Expr}(h:y9 e=false):qO e:=by
 intro o i
 cases e<;>first|rfl|cases h
theorem baseOk {e:Expr}{x:Str}{env:Env}(h:xM e=false):adI e x env (eval e env)=eval e env:=by
 unfold adI
 split
 . cases h
 . rfl
theorem vx {e:Expr}{t:Option Expr}{l:Nat}{env:Env}(h:p6 e=false):ach e t l env=pure false:=by
 cases e<;>first|rfl|cases h
theorem ll {e:Expr}{env:Env}(h:isSet e=false):∀x,aaj e env x=pure x:=by
 intro x
 cases e<;>first|rfl|cases h
theorem nC {es:List Expr}{env:Env}{pos:Pos}(h:es.any isStar=false):(abU pos (ZS es env)).any (·.1)=false:=by
 induction es with
 |nil=>rfl
 |cons e es ih =>
  rw[aaG,aaI]at h
  rw[bZ h.1]
  show(false||(abU pos (ZS es env)).any (·.1))=false
  rw[ih h.2];rfl
theorem Dp {es:List Expr}{env:Env}{pos:Pos}(h:es.any isStar=false):(abU pos (ZS es env)).all (λx=>!x.1)=true:=by
 induction es with
 |nil=>rfl
 |cons e es ih =>
  rw[aaG,aaI]at h
  rw[bZ h.1]
  show(true&&(abU pos (ZS es env)).all (λx=>!x.1))=true
  rw[ih h.2];rfl
noncomputable def oW:List Str->Str->Option Nat
 | [],_=>none
 |y::N,x=>if y == x then some 0 else(oW N x).map (· + 1)
theorem lq:∀{N:List Str} {x:Str} {i:Nat},oW N x=some i->N[i]? = some x
 | [],_,_,h=>by cases h
 |y::N,x,i,h=>by
  unfold oW at h
  split at h
  . rename_i e
    cases h
    simp[eq_of_beq e]
  . obtain⟨j,hj,rfl⟩:=ZF.mp h
    simpa using lq hj
theorem lookup_mem {α:Type}:∀{l:List (Str×α)} {x:Str} {a:α},l.lookup x=some a->(x,a)∈l
 | [],_,_,h=>by cases h
 | (y,b)::l,x,a,h=>by
  rw[aac]at h
  split at h
  . rename_i e
    cases h
    rw[eq_of_beq e];exact ZO
  . exact ZQ _ (lookup_mem h)
noncomputable def nD (x:Str):Bool:=x == ("__debug__":Str)||x == ("__classdict__":Str)||x == ("__name__":Str)
theorem A8 {x:Str}(h:nD x=false):(x == ("__debug__":Str))=false/\(x == ("__classdict__":Str))=false/\x ≠ "__name__":=by
 simp only[nD,aaI]at h
 exact⟨h.1.1,h.1.2,λe=>by have:=h.2;rw[e]at this;simp at this⟩
structure fQ where
 nm:Str
 fn:Fn
 ok:∀{X:Cx} {k:Nat},aQ k X.A->X.calm=true->(∃id,cz X (.builtin id) (gH X.kw fn)/\aa6 nm=some (.builtin id))\/(∃T,cz X (.type T) (gH X.kw fn)/\aa6 nm=some (.type T))
structure nE where
 nm:Str
 ij:D->Bool
 m:D->List D->G->Option (D×G)
 ok:∀{X:Cx} {k:Nat},aQ k X.A->∃T id,MR X T nm id ij m
noncomputable def aE (E:Expr->FE):List Expr->FA
 | []=>ag
 |e::es=>if isStar e then pZ else af (E e) (aE E es)
structure y_ where
 nm:Str
 tup:Bool
 f:(Expr->FE)->List Expr->FI
 ok:∀{X:Cx} {k:Nat} {E:Expr->FE} {tg:Expr} {as:List Expr} {p pos:Pos},aQ k X.A->X.calm=true->X.mg nm=none->Gl X nm->(∀e,DE X e (E e))->as.any isStar=false->(tup=true->p7 tg=true)->DI X tg (.Call (.Name nm p) as [] pos) (f E as)
structure lr where
 e:G0->Cs->(Expr->FE)->Bool->Expr->Option FE
 vy:∀{m:G0} {c:Cs} {X:Cx} {E:Expr->FE},Gd m c X->(∀e,DE X e (E e))->∀{rf x f},e m c E rf x=some f->DE X x f
 t:G0->Cs->(Expr->FE)->Expr->Option FT
 tok:∀{m:G0} {c:Cs} {X:Cx} {E:Expr->FE},Gd m c X->(∀e,DE X e (E e))->∀{x f},t m c E x=some f->DT X x f
structure Pk where
 bl:List fQ
 br:List fQ
 mt:List nE
 it:List y_
 xr:List lr
noncomputable def A9:Const->FE
 |.int i=>fC (.int i)
 |.str x=>fC (.str x)
 |.bool b=>fC (.bl b)
 |.none=>fC .az
 |_=>ck
noncomputable def E3:Option abw->Bool
 |some .local=>true
 |some .cell=>true
 |some .free=>true
 |_=>false
noncomputable def eName (m:G0)(c:Cs)(x:Str):FE :=
 if nD x then ck else
 match E3 (c.sc.names.lookup x),oW c.N x with
 |true,some i=>aa i
 |true,none=>ck
 |false,_=>if c.sc.names.lookup x=some .globalImplicit then(match m.vq.lookup x with|some d=>fC d|none=>match m.fns.lookup x with|some _=>fC (.fn x)|none=>ck)else ck
noncomputable def LZ (op:Operator)(rf ls:Bool)(fa fb:FE):FE:=match op with
 |.Add=>aj aR fa fb
 |.Sub=>aj (aP a_ (· - ·)) fa fb
 |.Mult=>aj b8 fa fb
 |.FloorDiv=>aj (aP fM (· / ·)) fa fb
 |.Mod=>aj (aP cC (· % ·)) fa fb
 |.Pow=>aj (aP cN (λi j=>i ^ j.toNat)) fa fb
 |.LShift=>aj (aP cN (λi j=>i*2 ^ j.toNat)) fa fb
 |.BitAnd=>aj (aP a_ Z9) fa fb
 |.BitOr=>aj (aP a_ ab0) fa fb
 |_=>ck
noncomputable def QL (op:UnaryOp)(fa:FE):FE:=match op with
 |.USub=>uG oP fa
 |.Not=>pL fa
 |_=>ck
noncomputable def bE (E:Expr->FE)(g:Bool)(op:BoolOp):List Expr->FE
 | []=>ck
 | [a]=>E a
 |a::b::r=>match op with
  |.And=>dS (E a) (bE E g .And (b::r))
  |.Or=>if g then qW (E a) (bE E g .Or (b::r))else mw (E a) (bE E g .Or (b::r))
noncomputable def E4:CmpOp->D->D->G->Option (D×G)
 |.Lt=>oLt
 |.LtE=>oLe
 |.Gt=>oo
 |.GtE=>AH
 |.Eq=>oEq
 |.NotEq=>fF
 |.Is=>xw
 |.IsNot=>cD
 |.In=>hG
 |.NotIn=>gO
noncomputable def rh (E:Expr->FE)(l:Expr):List CmpOp->List Expr->FE
 | [op],[b]=>if isSet b then ck else aj (E4 op) (E l) (E b)
 | [op,cv],[b,d]=>if isSet d then ck else gU (E4 op) (E4 cv) (E l) (E b) (E d)
 |_,_=>ck
noncomputable def pE (E:Expr->FE):Option Expr->FO
 |none=>cQ
 |some e=>cA (E e)
noncomputable def Dq (E:Expr->FE)(v:Expr):Expr->FE
 |.Slice lo hi none _=>cR (E v) (pE E lo) (pE E hi)
 |.Slice lo hi (some st) _=>ck
 |s=>aj ax (E v) (E s)
noncomputable def za (m:G0)(P:Pk)(c:Cs)(rf:Bool)(E:Expr->FE)(f:Expr)(as:List Expr)(pos:Pos):FE:=match f with
 |.Name x _=>if nD x||as.any isStar then ck else if c.sc.names.lookup x=some .globalImplicit then
   (match m.fns.lookup x with
   |some (i,_)=>aq (m.T i) (aE E as)
   |none=>if as.isEmpty || !(m.iX.elem x)then ck else match(if rf then P.br else P.bl).find? (λr=>r.nm == x)with
    |some r=>aq r.fn (aE E as)
    |none=>ck)
  else ck
 |.Attribute o x ap=>if xM o||as.any isStar || !(ap.endLine == pos.line) || !(decide (as.length<29))then ck else match P.mt.find? (λr=>r.nm == x)with
  |some r=>bX r.ij r.m (E o) (aE E as)
  |none=>ck
 |_=>ck
section
variable {m:G0}{c:Cs}{X:Cx}{E:Expr->FE}
theorem Gd.hu (g:Gd m c X):X.A.units+64<cLine:=g.rm.units
theorem Gd.gl (g:Gd m c X){x:Str}(h:c.sc.names.lookup x=some .globalImplicit):Gl X x:=by
 show X.env.scope.names.lookup x=_
 rw[g.hs];exact h
theorem gB (hE:∀e,DE X e (E e)):∀es:List Expr,DA X es (aE E es)
 | []=>uI
 |e::es=>by
  unfold aE
  split
  . exact ra
  . rename_i h
    exact nh (hE e) (gB hE es) (bZ (by simpa using h))
theorem A_ {v:Const}{j:Nat}{p:Pos}:DE X (.Constant v j p) (A9 v):=by
 cases v with
 |int i=>exact Kt
 |str x=>exact Ku
 |bool b=>exact O2
 |none=>exact Kv
 |_=>exact bW
theorem Dr (g:Gd m c X){x:Str}{p:Pos}:DE X (.Name x p) (eName m c x):=by
 unfold eName
 split
 . exact bW
 rename_i ho
 obtain⟨o1,o2,_⟩:=A8 (by simpa using ho)
 split
 . rename_i i hv hi
   refine Kw i (by rw[g.hN];exact lq hi) ?_ o1 o2
   rw[g.hs]
   unfold E3 at hv
   split at hv
   . rename_i e;exact .inl e
   . rename_i e;exact .inr (.inl e)
   . rename_i e;exact .inr (.inr e)
   . cases hv
 . exact bW
 . split
   . rename_i hg
     split
     . rename_i d hd
       obtain⟨v,u,h1,h2,h3⟩:=g.cn x d (lookup_mem hd)
       exact Hk (g.gl hg) h1 h2 h3 o1
     . split
       . rename_i y hy
         obtain⟨i,n⟩:=y
         obtain⟨f,fd,ps,_,hm,_⟩:=g.fn x i n (lookup_mem hy)
         exact .of (PE.imp (w6 (v:=.ref f) (g.gl hg) hm rfl o1) λσ H Q h=>by
          obtain⟨ι,σd,g1,d,g',G0,S0,h,p⟩:=h
          cases h
          exact p H ι _ Ext.refl G0 (by simp only[Rel];exact⟨f,rfl,hm⟩))
       . exact bW
   . exact bW
theorem Ig {op:Operator}{rf ls:Bool}{a b:Expr}{p:Pos}{fa fb:FE}(ha:DE X a fa)(hb:DE X b fb):DE X (.BinOp a op b p) (LZ op rf ls fa fb):=by
 cases op<;>first|exact bW|skip
 . exact jr Lo ha hb
 . exact jr K5 ha hb
 . exact jr Lm ha hb
 . exact jr K6 ha hb
 . exact jr K7 ha hb
 . exact jr LD ha hb
 . exact jr Py ha hb
 . exact jr LF ha hb
 . exact jr Hy ha hb
theorem L0 {op:UnaryOp}{a:Expr}{p:Pos}{fa:FE}(ha:DE X a fa):DE X (.UnaryOp op a p) (QL op fa):=by
 cases op with
 |USub=>exact O3 K8 ha
 |Not=>exact KH ha
 |_=>exact bW
theorem E5 (hE:∀e,DE X e (E e)){gf:Bool}{op:BoolOp}{p:Pos}:∀es:List Expr,DE X (.BoolOp op es p) (bE E gf op es)
 | []=>bW
 | [a]=>KG (hE a)
 |a::b::r=>by
  have ih:=E5 hE (gf:=gf) (op:=op) (p:=p) (b::r)
  cases op<;>cases gf
  . exact Aq (hE a) ih
  . exact Aq (hE a) ih
  . exact O5 (hE a) ih
  . exact Lu (hE a) ih
theorem kK (hu:X.A.units+64<cLine):∀op:CmpOp,bB X (Z8 op) (cJ X.kw (E4 op))
 |.Lt=>Pa
 |.LtE=>Pb
 |.Gt=>Pc
 |.GtE=>Pe
 |.Eq=>Pf hu
 |.NotEq=>LB hu
 |.Is=>Pm
 |.IsNot=>HL
 |.In=>LM hu
 |.NotIn=>A2 hu
theorem Ih (hu:X.A.units+64<cLine)(hE:∀e,DE X e (E e)){l:Expr}{ops:List CmpOp}{rs:List Expr}{p:Pos}:DE X (.Compare l ops rs p) (rh E l ops rs):=by
 unfold rh
 split
 . split
   . exact bW
   . rename_i h
     exact Ao (kK hu _) (hE _) (hE _) (marks (by simpa using h))
 . split
   . exact bW
   . rename_i h
     exact CO (kK hu _) (kK hu _) (hE _) (hE _) (hE _) (by show ab1 _ _=false;exact marks (by simpa using h))
 . exact bW
theorem Ii (hu:X.A.units+64<cLine)(hE:∀e,DE X e (E e)){l:Expr}{ops:List CmpOp}{rs:List Expr}{p:Pos}:DT X (.Compare l ops rs p) (aF (rh E l ops rs)):=by
 have none_:DT X (.Compare l ops rs p) (aF ck):=.of (λpins s σ H Q I h=>by obtain⟨_,_,_,_,_,_,_,h,_⟩:=h;cases h)
 unfold rh
 split
 . split
   . exact none_
   . rename_i h
     exact Ap (kK hu _) (hE _) (hE _) (marks (by simpa using h))
 . split
   . exact none_
   . rename_i h
     exact CP (kK hu _) (kK hu _) (hE _) (hE _) (hE _) (by show ab1 _ _=false;exact marks (by simpa using h))
 . exact none_
theorem E6 (hE:∀e,DE X e (E e)):∀o:Option Expr,DO X o (pE E o)
 |none=>HF
 |some e=>HG (hE e)
theorem Ij (hu:X.A.units+64<cLine)(hE:∀e,DE X e (E e)){v s:Expr}{p:Pos}:DE X (.Subscript v s p) (Dq E v s):=by
 unfold Dq
 split
 . exact AU (hE _) (E6 hE _) (E6 hE _)
 . exact bW
 . rename_i h1 h2
   refine LK hu (hE _) (hE _) (Ie ?_)
   cases s with
   |Slice lo hi st q =>
    cases st with
    |none=>exact absurd rfl (h1 _ _ _)
    |some e=>exact absurd rfl (h2 _ _ _ _)
   |_=>rfl
theorem Ds (P:Pk){rf:Bool}(g:Gd m c X)(hE:∀e,DE X e (E e)){f:Expr}{as:List Expr}{pos:Pos}:DE X (.Call f as [] pos) (za m P c rf E f as pos):=by
 unfold za
 split
 . rename_i x p
   split
   . exact bW
   rename_i h
   simp only[aag,not_or,aco]at h
   obtain⟨o1,o2,o3⟩:=A8 h.1
   have cH:=h.2
   split
   . rename_i hg
     split
     . rename_i i n hf
       obtain⟨fa,fd,ps,ok,hm,kp,b,ln⟩:=g.fn x i n (lookup_mem hf)
       cases as with
       |nil=>exact CY ok g.rm hm kp b ln (g.gl hg) o1
       |cons e es =>
         rw[aaG,aaI]at cH
         exact Hu ok g.rm hm kp b ln (gB hE _) (g.gl hg) o1 (bZ cH.1) (nC cH.2)
     . split
       . exact bW
       rename_i hb
       simp only[aag,not_or,aco,afp,Z2]at hb
       split
       . rename_i r hr
         have hn:r.nm=x:=by have:=adf hr;exact eq_of_beq this
         have hx:x∈m.iX:=abt.mp (by simpa using hb.2)
         cases as with
         |nil=>simp at hb
         |cons e es =>
          rw[aaG,aaI]at cH
          rcases r.ok g.rm g.cm with⟨id,h1,h2⟩|⟨T,h1,h2⟩
          . rw[hn]at h2
            exact uL h1 (g.bl x hx) h2 (gB hE _) (g.gl hg) o3 o1 (bZ cH.1) (nC cH.2)
          . rw[hn]at h2
            exact Ax h1 (g.bl x hx) h2 (gB hE _) (g.gl hg) o3 o1 (bZ cH.1) (nC cH.2)
       . exact bW
   . exact bW
 . rename_i o x ap
   split
   . exact bW
   rename_i h
   simp only[aag,not_or,aco,Z2,afp,decide_eq_false_iff_not,Classical.not_not]at h
   obtain⟨⟨⟨h1,h2⟩,h3⟩,h4⟩:=h
   split
   . rename_i r hr
     have hn:r.nm=x:=by have:=adf hr;exact eq_of_beq this
     obtain⟨T,id,R⟩:=r.ok g.rm
     rw[hn]at R
     cases as with
     |nil=>exact HZ R (hE o) (baseOk h1) (by simpa using h3)
     |cons e es =>
       rw[aaG,aaI]at h2
       refine LO R (hE o) (gB hE _) (baseOk h1) ?_ (by simpa using h3) (bZ h2.1) (nC h2.2)
       rw[Dp (by rw[aaG,h2.1,h2.2];rfl)]
       have h5:decide ((e::es).length+([]:List afy).length+(if([]:List afy).isEmpty then 0 else 1)<30)=true:=by simp at h4 ⊢;omega
       rw[h5];rfl
   . exact bW
 . exact bW
end
noncomputable def vz (c:Cs)(x:Str):Option Nat:=match c.sc.names.lookup x with
 |some .local=>oW c.N x
 |some .cell=>if c.all||c.own.elem x then oW c.N x else none
 |_=>none
noncomputable def Dt (f:Expr->FG):List Expr->oh
 | []=>aM
 |e::es=>au (f e) (Dt f es)
noncomputable def jk (c:Cs)(E:Expr->FE):Nat->Expr->FG
 |_,.Name x _=>match vz c x with|some i=>gN i|none=>p5
 |_,.Subscript o i _=>if y9 i then p5 else eR (E o) (E i)
 |n+1,.Tuple es _ _=>if es.any isStar then p5 else gT es.length (Dt (jk c E n) es)
 |_,_=>p5
section
variable {m:G0}{c:Cs}{X:Cx}{E:Expr->FE}
theorem nF (g:Gd m c X){x:Str}{i:Nat}(h:vz c x=some i):X.N[i]? = some x/\Loc X.env.scope x/\(X.fn x=true\/X.env.scope.names.lookup x=some .local):=by
 unfold vz at h
 rw[g.hN,g.hs]
 split at h
 . rename_i e;exact⟨lq h,.inl e,.inr e⟩
 . rename_i e
   split at h
   . rename_i ha
     rw[aag]at ha
     exact⟨lq h,.inr e,.inl (ha.elim (λha=>g.al ha x) λha=>g.ow x (abt.mp ha))⟩
   . cases h
 . cases h
theorem Gd.xN (g:Gd m c X):X.N.Nodup:=by rw[g.hN];exact g.nd
theorem oX {e:Expr}{es:List Expr}{env:Env}(h:isStar e=false):aaN (e::es) env=(false,acr e env)::aaN es env:=by
 cases e<;>first|rfl|cases h
theorem xO {es:List Expr}{env:Env}(h:es.any isStar=false):(aaN es env).length=es.length/\(aaN es env).findIdx? (·.1)=none:=by
 induction es with
 |nil=>exact⟨rfl,rfl⟩
 |cons e es ih =>
  rw[aaG,aaI]at h
  obtain⟨a,b⟩:=ih h.2
  rw[oX h.1]
  exact⟨by simp[a],by rw[afq,b];rfl⟩
theorem xP {o i:Expr}{pos:Pos}{env:Env}(h:y9 i=false):∀v,acr (.Subscript o i pos) env v=(do
  let ov <- ace [v] (eval o env)
  let iv <- ace [v,ov] (eval i env)
  aex pos
  ace [v,ov,iv] (afx ov iv v)
  release [v,ov,iv] []):=by
 intro v
 cases i<;>first|rfl|cases h
theorem kL (g:Gd m c X)(hE:∀e,DE X e (E e)):∀(n:Nat) (e:Expr),DG X e (jk c E n e):=by
 intro n
 induction n with
 |zero =>
  intro e
  unfold jk
  split
  . split
    . rename_i i h;obtain⟨a,b,d⟩:=nF g h;exact xg g.xN a b d
    . exact iC
  . split
    . exact iC
    . rename_i h;exact xG g.hu (hE _) (hE _) (xP (by simpa using h))
  . rename_i h;cases h
  . exact iC
 |succ n ih =>
  intro e
  unfold jk
  split
  . split
    . rename_i i h;obtain⟨a,b,d⟩:=nF g h;exact xg g.xN a b d
    . exact iC
  . split
    . exact iC
    . rename_i h;exact xG g.hu (hE _) (hE _) (xP (by simpa using h))
  . rename_i n' es kt tp hn
    cases hn
    split
    . exact iC
    . rename_i hs
      have hs:es.any isStar=false:=by simpa using hs
      have hg:∀es:List Expr,es.any isStar=false->Au X es (Dt (jk c E n) es):=λes=>by
       induction es with
       |nil=>exact λ_=>Hr
       |cons e es WR =>
        intro h
        rw[aaG,aaI]at h
        exact CV (ih e) (WR h.2) (by rw[oX h.1];rfl)
      have hg:=hg es hs
      exact KQ g.cm hg (xO hs).1 (xO hs).2
  . exact iC
end
noncomputable def Ba (m:G0)(P:Pk)(c:Cs)(E:Expr->FE)(tg:Expr)(it:Expr):FI:=match it with
 |.Call (.Name x _) as [] _=>if c.sc.names.lookup x=some .globalImplicit then(match P.it.find? (λr=>r.nm == x)with
  |some r=>if m.iX.elem x && !(as.any isStar)&&(!r.tup||p7 tg)then r.f E as else p4
  |none=>bu (E it))else bu (E it)
 |it=>bu (E it)
theorem vA {m:G0}{c:Cs}{X:Cx}{E:Expr->FE}(P:Pk)(g:Gd m c X)(hE:∀e,DE X e (E e)){tg it:Expr}:DI X tg it (Ba m P c E tg it):=by
 unfold Ba
 split
 . rename_i x p as pos
   split
   . rename_i hg
     split
     . rename_i r hr
       have hn:r.nm=x:=by have:=adf hr;exact eq_of_beq this
       split
       . rename_i h
         simp only[Zn,aag,Z2,beq_iff_eq]at h
         obtain⟨⟨h1,h2⟩,h4⟩:=h
         have hx:x∈m.iX:=abt.mp h1
         subst hn
         exact r.ok g.rm g.cm (g.bl _ hx) (g.gl hg) hE h2 (λz=>by rcases h4 with h4|h4;(rw[z]at h4;cases h4);exact h4)
       . exact rg
     . exact uY (hE _)
   . exact uY (hE _)
 . exact uY (hE _)
noncomputable def L4 (sc:Scope)(S:Scope):Scope:={ sc with names:=sc.names.map λ(n,k)=>if(k == .free&&S.kind == .function&&S.names.lookup n == some .cell)then(n,.cell)else(n,k) }
noncomputable def xQ:List Str->Bool
 | []=>true
 |x::r=>!(r.elem x)&&xQ r
theorem vB:∀{l:List Str},xQ l=true->l.Nodup
 | [],_=>acK
 |x::r,h=>by
  simp only[xQ,Zn,Z2]at h
  exact abl.mpr (And.intro (λz=>(by rw[abt.mpr z]at h;exact absurd h.1 (by simp))) (vB h.2))
noncomputable def km (sc:Scope):List Str:=(sc.names.filter λy=>y.2 == .local||y.2 == .cell).map (·.1)
noncomputable def PD (sc:Scope):List Str:=(sc.names.filter λy=>y.2 == .cell).map (·.1)
noncomputable def iO (sc:Scope):List Str:=(sc.names.filter λy=>y.2 == .free).map (·.1)
noncomputable def dm (c:Cs)(sc:Scope):Cs:=⟨km sc++iO sc,L4 sc c.sc,false,c.mt,PD sc⟩
noncomputable def oY (c:Cs)(sc:Scope):List (Option Nat):=(km sc).map (λ_=>none)++(iO sc).map (λx=>oW c.N x)
noncomputable def zb (c:Cs)(sc:Scope):Bool:=qS c.sc c.N (km sc++iO sc) (oY c sc) sc&&xQ (km sc++iO sc)
noncomputable def vC (T:Expr->FT):List Expr->FT
 | []=>aN
 | [t]=>T t
 |_=>mO
noncomputable def vD (c:Cs):Expr->Bool
 |.Name x _=>c.mt.elem x
 |_=>false
noncomputable def vF (c:Cs):Expr->Bool
 |.Name x _=>c.mt.elem (ZW "*" ++ x)
 |_=>false
noncomputable def tT (m:G0)(P:Pk)(c:Cs)(rf:Bool)(E:Cs->Expr->FE)(T:Cs->Expr->FT)(elt:Expr)(gs:List adJ)(sc:Scope):FE:=match gs with
 | [⟨tg,it,ifs,0⟩]=>if zb c sc && !(isSet it)then
  (if vF c it then(if rf then ck else iW aV (i7 (E c it)) (oY c sc) (jk (dm c sc) (E (dm c sc)) 3 tg) (vC (T (dm c sc)) ifs) (E (dm c sc) elt))
  else if vD c it then fH aV (mJ (E c it)) (oY c sc) (jk (dm c sc) (E (dm c sc)) 3 tg) (vC (T (dm c sc)) ifs) (E (dm c sc) elt)
  else aU aV (Ba m P c (E c) tg it) (oY c sc) (jk (dm c sc) (E (dm c sc)) 3 tg) (vC (T (dm c sc)) ifs) (E (dm c sc) elt))else ck
 |_=>ck
section
variable {m:G0}{c:Cs}{X:Cx}
theorem Gd.comp (g:Gd m c X){sc:Scope}(h:xQ (km sc++iO sc)=true){C:Addr}{s3:Zo}{H:Hp}{fp:List Addr}{pins:List (Addr×Obj)}:Gd m (dm c sc) (bP X (km sc++iO sc) sc C s3 H fp pins) where
 hN:=rfl
 hs:=by
  show ad1 sc X.env=L4 sc c.sc
  rw[<- g.hs];rfl
 nd:=vB h
 xe:=rfl
 cm:=g.cm
 rm:=g.rm
 al:=λz=>by cases z
 ow:=λx hx=>by
  show(sc.names.any λy=>y.1 == x&&y.2 == .cell)=true
  obtain⟨y,hy,e⟩:=Zu.mp (show x∈(sc.names.filter λy=>y.2 == .cell).map (·.1) from hx)
  rw[ZU]at hy
  rw[aaW]
  exact⟨y,hy.1,by rw[e,hy.2];simp⟩
 fn:=λx i n hm=>by
  obtain⟨f,fd,ps,a,b,d,e,l⟩:=g.fn x i n hm
  exact⟨f,fd,ps,a,b,d,e,l⟩
 bl:=g.bl
 cn:=g.cn
 dc:=g.dc
theorem L5 {T:Expr->FT}(hT:∀e,DT X e (T e)):∀ifs:List Expr,iu X ifs (vC T ifs)
 | []=>C1
 | [t]=>C3 (hT t)
 |_::_::_=>.of (λpins s σ H Q I h=>by obtain⟨_,_,_,_,_,_,_,h,_⟩:=h;cases h)
theorem xR (g:Gd m c X){E:Cs->Expr->FE}{T:Cs->Expr->FT}(hE:∀c X,Gd m c X->∀e,DE X e (E c e))(hT:∀c X,Gd m c X->∀e,DT X e (T c e)){sc:Scope}(h:zb c sc=true){tg elt:Expr}{ifs:List Expr}:
  fB X (km sc++iO sc) (oY c sc) sc /\ ∀C s3 H fp pins,DG (bP X (km sc++iO sc) sc C s3 H fp pins) tg (jk (dm c sc) (E (dm c sc)) 3 tg) /\
   iu (bP X (km sc++iO sc) sc C s3 H fp pins) ifs (vC (T (dm c sc)) ifs)/\DE (bP X (km sc++iO sc) sc C s3 H fp pins) elt (E (dm c sc) elt):=by
 simp only[zb,Zn]at h
 refine⟨AI g.hs g.hN h.1,λC s3 H fp pins=>?_⟩
 have g':=g.comp h.2 (C:=C) (s3:=s3) (H:=H) (fp:=fp) (pins:=pins)
 exact⟨kL g' (hE _ _ g') 3 tg,L5 (hT _ _ g') ifs,hE _ _ g' elt⟩
theorem vG (P:Pk)(g:Gd m c X){rf:Bool}{E:Cs->Expr->FE}{T:Cs->Expr->FT}(hE:∀c X,Gd m c X->∀e,DE X e (E c e))(hT:∀c X,Gd m c X->∀e,DT X e (T c e)){elt:Expr}{gs:List adJ}{sc:Scope}{p:Pos}:
   DE X (.ListComp elt gs sc p) (tT m P c rf E T elt gs sc):=by
 unfold tT
 split
 . rename_i tg it ifs
   split
   . rename_i h
     simp only[Zn,Z2]at h
     obtain⟨ok,dk⟩:=xR g hE hT h.1 (tg:=tg) (elt:=elt) (ifs:=ifs)
     split
     . split
       . exact bW
       . exact Dj g.xe g.cm ok (xH (hE c X g it)) dk (ll h.2)
     split
     . exact Dg g.xe g.cm ok (xy (hE c X g it)) dk (ll h.2)
     . exact Hv g.xe g.cm ok (vA P g (hE c X g)) dk (ll h.2)
   . exact bW
 . exact bW
end
noncomputable def tB (T:Expr->FT)(op:BoolOp):List Expr->FT
 | []=>mO
 | [a]=>T a
 |a::b::r=>match op with
  |.And=>fX (T a) (tB T .And (b::r))
  |.Or=>gW (T a) (tB T .Or (b::r))
noncomputable def xE (P:Pk)(m:G0)(c:Cs)(E:Expr->FE)(rf:Bool)(e:Expr):Option FE:=P.xr.findSome? λr=>r.e m c E rf e
noncomputable def xT (P:Pk)(m:G0)(c:Cs)(E:Expr->FE)(e:Expr):Option FT:=P.xr.findSome? λr=>r.t m c E e
noncomputable def E_ (m:G0)(P:Pk)(E:Cs->Bool->Expr->FE)(T:Cs->Expr->FT)(c:Cs)(rf:Bool):Expr->FE
 |.Constant v _ _=>A9 v
 |.Name x _=>eName m c x
 |.BinOp a op b _=>LZ op rf (PB a) (E c false a) (E c false b)
 |.UnaryOp op a _=>QL op (E c false a)
 |.BoolOp op vs _=>bE (E c false) (vs.dropLast.any PC) op vs
 |.IfExp t a b _=>oK (T c t) (E c rf a) (E c rf b)
 |.Compare l ops rs _=>rh (E c false) l ops rs
 |.Tuple es _ _=>aO aJ (aE (E c false) es)
 |.List es _=>aO (if rf then mkRef else c_) (aE (E c false) es)
 |.Dict [] [] _=>if rf then hJ else fC .dA
 |.Subscript v s _=>Dq (E c false) v s
 |.Call f as [] pos=>za m P c rf (E c false) f as pos
 |.ListComp elt gs sc _=>tT m P c rf (λc e=>E c false e) T elt gs sc
 |_=>ck
noncomputable def Fb (m:G0)(P:Pk)(E:Cs->Bool->Expr->FE)(T:Cs->Expr->FT)(c:Cs):Expr->FT
 |.Compare l ops rs _=>aF (rh (E c false) l ops rs)
 |.UnaryOp .Not a _=>b5 (T c a)
 |.BoolOp op vs _=>tB (T c) op vs
 |e=>if vt e then bN (E c false e)else mO
noncomputable def zd (m:G0)(P:Pk)(E:Cs->Bool->Expr->FE)(T:Cs->Expr->FT)(c:Cs)(rf:Bool)(e:Expr):FE:=match xE P m c (E c false) rf e with
 |some f=>f
 |none=>E_ m P E T c rf e
noncomputable def stepT (m:G0)(P:Pk)(E:Cs->Bool->Expr->FE)(T:Cs->Expr->FT)(c:Cs)(e:Expr):FT:=match xT P m c (E c false) e with
 |some f=>f
 |none=>Fb m P E T c e
noncomputable def iv (m:G0)(P:Pk):Nat->(Cs->Bool->Expr->FE)×(Cs->Expr->FT)
 | 0=>(λ_ _ _=>ck,λ_ _=>mO)
 |n+1=>(zd m P (iv m P n).1 (iv m P n).2,stepT m P (iv m P n).1 (iv m P n).2)
section
variable {m:G0}{X:Cx}
theorem jP {α β:Type}{f:α->Option β}:∀{l:List α} {b:β},l.findSome? f=some b->∃a∈l,f a=some b
 | [],_,h=>by cases h
 |a::l,b,h=>by
  rw[List.findSome?_cons]at h
  cases ha:f a with
  |none=>rw[ha]at h;obtain⟨x,hx,e⟩:=jP h;exact⟨x,ZQ _ hx,e⟩
  |some c=>rw[ha]at h;cases h;exact⟨a,ZO,ha⟩
theorem PF {T:Expr->FT}(hT:∀e,DT X e (T e)){op:BoolOp}{p:Pos}:∀es:List Expr,DT X (.BoolOp op es p) (tB T op es):=by
 have w:∀es:List Expr,es ≠ []->DW X (.BoolOp op es p) (tB T op es):=λes=>by
  induction es with
  |nil=>intro h;exact absurd rfl h
  |cons a r ih =>
   intro _
   cases r with
   |nil=>cases op;exact Hl (hT a);exact KA (hT a)
   |cons b r =>
    have:=ih (by simp)
    cases op
    . exact KC (hT a) this
    . exact O4 (hT a) this
 intro es
 cases es with
 |nil=>exact q_
 |cons a r=>exact(w (a::r) (by simp)).dt
theorem Fc (m:G0)(P:Pk):∀n:Nat,(∀c X,Gd m c X->∀rf e,DE X e ((iv m P n).1 c rf e))/\(∀c X,Gd m c X->∀e,DT X e ((iv m P n).2 c e))
 | 0=>⟨λ_ _ _ _ _=>bW,λ_ _ _ _=>q_⟩
 |n+1=>by
  obtain⟨hE,hT⟩:=Fc m P n
  refine⟨λc X g rf e=>?_,λc X g e=>?_⟩
  . show DE X e (zd m P (iv m P n).1 (iv m P n).2 c rf e)
    unfold zd
    split
    . rename_i f hf
      obtain⟨r,_,h⟩:=jP hf
      exact r.vy g (hE c X g false) h
    have ox:=hE c X g false
    unfold E_
    split
    . exact A_
    . exact Dr g
    . exact Ig (ox _) (ox _)
    . exact L0 (ox _)
    . exact E5 ox _
    . exact KI (hT c X g _) (hE c X g rf _) (hE c X g rf _)
    . exact Ih g.hu ox
    . exact Ar (gB ox _)
    . cases rf
      . exact KJ (gB ox _)
      . exact As (gB ox _)
    . cases rf
      . exact C7
      . exact H0
    . exact Ij g.hu ox
    . exact Ds P g ox
    . exact vG P g (λc X g e=>hE c X g false e) hT
    . exact bW
  . show DT X e (stepT m P (iv m P n).1 (iv m P n).2 c e)
    unfold stepT
    split
    . rename_i f hf
      obtain⟨r,_,h⟩:=jP hf
      exact r.tok g (hE c X g false) h
    unfold Fb
    split
    . exact Ii g.hu (hE c X g false)
    . exact KD (hT c X g _)
    . exact PF (hT c X g) _
    . split
      . rename_i h;exact Kz (hE c X g false _) (plainT h)
      . exact q_
end
noncomputable def Fd (f:Stmt->FS):List Stmt->FS
 | []=>aL
 | [s]=>f s
 |s::t::r=>av (f s) (Fd f (t::r))
noncomputable def ze (S:Scope):Bool:=(if S.kind.isAnnotationScope then adB else S.kind)== .function
noncomputable def zf (S:Scope)(x:Str)(px p:Pos)(sc:Scope):Bool:=ze S&&S.names.lookup x == some .local&&px.line == p.line && !(sc.names.any λ(n,k)=>n == x&&(k == .local||k == .cell))
noncomputable def L6 (mt:List Str):Expr->Bool
 |.Name x _=>mt.elem x
 |_=>false
noncomputable def aZ (E:Bool->Expr->FE)(mt:List Str):List Expr->List Expr->FA
 |_,[]=>ag
 | [],v::vs=>if isStar v then pZ else af (E false v) (aZ E mt [] vs)
 |t::ts,v::vs=>if isStar v then pZ else af (E (L6 mt t) v) (aZ E mt ts vs)
noncomputable def Fe (m:G0)(P:Pk)(c:Cs)(rf:Bool)(E:Cs->Expr->FE)(T:Cs->Expr->FT)(elt:Expr)(gs:List adJ)(sc:Scope):FE:=match gs with
 | [⟨tg,it,ifs,0⟩]=>if zb c sc && !(isSet it)then
  (if vD c it then fH aV (mJ (E c it)) (oY c sc) (jk (dm c sc) (E (dm c sc)) 3 tg) (vC (T (dm c sc)) ifs) (E (dm c sc) elt)
  else aU aV (Ba m P c (E c) tg it) (oY c sc) (jk (dm c sc) (E (dm c sc)) 3 tg) (vC (T (dm c sc)) ifs) (E (dm c sc) elt))else ck
 |_=>ck
noncomputable def sO (S:Scope)(ts:List Expr):List Str:=ts.filterMap fun
 |.Name id pos=>if S.names.lookup id == some .local&&pos.line == (ts.head?.map (·.pos.line)).getD 0 then some id else none
 |_=>none
noncomputable def L7 (S:Scope)(ts vs:List Expr):Option Bool :=
 if !(ts.length == 2||ts.length == 3)||vs.length != ts.length || !(ze S)then some false
 else if(sO S ts).length != ts.length||(sO S ts).eraseDups.length != (sO S ts).length then some false
 else if vs.all (foldedForSure 8)then some false
 else if vs.all (constantsAlone 8)then none
 else some true
noncomputable def L8 (c:Cs)(x:Str):Bool:=c.sc.names.lookup x == some .local
noncomputable def Du (m:G0)(P:Pk)(E:Cs->Bool->Expr->FE)(T:Cs->Expr->FT)(c:Cs)(tg v:Expr):FS:=match tg,v with
 |.Name x px,.ListComp elt gs sc p=>(match vz c x with
  |some i=>aA (if zf c.sc x px p sc then Fe m P c (c.mt.elem x) (λc e=>E c false e) T elt gs sc else tT m P c (c.mt.elem x) (λc e=>E c false e) T elt gs sc) (gN i)
  |none=>eU)
 |.Name x px,v=>(match vz c x with
  |some i=>if p6 v then eU else aA (E c (c.mt.elem x) v) (gN i)
  |none=>eU)
 |.Tuple ts kt pt,.Tuple vs _ _=>if vs.any isStar then eU else(match L7 c.sc ts vs with
  |some false=>aA (aO aJ (aZ (E c) c.mt ts vs)) (jk c (E c false) 3 (.Tuple ts kt pt))
  |some true=>(match ts,vs with
   |_,_=>eU)
  |none=>eU)
 |.Subscript o i q,v=>aA (E c false v) (jk c (E c false) 3 (.Subscript o i q))
 |tg,v=>if p6 v||p7 v||isStar tg then eU else aA (E c false v) (jk c (E c false) 3 tg)
noncomputable def Dv (m:G0)(P:Pk)(W:Nat)(kp:Bool)(E:Cs->Bool->Expr->FE)(T:Cs->Expr->FT)(B:List Stmt->FS)(c:Cs):Stmt->FS
 |.Return (some e) _=>aG (E c kp e)
 |.If t a b _=>bq (T c t) (B a) (B b)
 |.Assign [tg] v _=>Du m P E T c tg v
 |.For tg it body [] _=>if isSet it then eU else if vF c it then j8 (i7 (E c false it)) (jk c (E c false) 3 tg) (B body)else cj (Ba m P c (E c false) tg it) (jk c (E c false) 3 tg) (B body)
 |.While t body [] _=>mx W (T c t) (B body)
 |.Pass _=>aL
 |.Expr (.Constant (.str _) _ _) _=>aL
 |.Expr e _=>if p6 e then eU else da (E c false e)
 |_=>eU
noncomputable def sS (m:G0)(P:Pk)(W:Nat)(kp:Bool)(E:Cs->Bool->Expr->FE)(T:Cs->Expr->FT)(c:Cs):Nat->Stmt->FS
 | 0,_=>eU
 |n+1,s=>Dv m P W kp E T (Fd (sS m P W kp E T c n)) c s
noncomputable def body (m:G0)(P:Pk)(W:Nat)(kp:Bool)(c:Cs)(og:List Stmt):FS:=Fd (sS m P W kp (iv m P 30).1 (iv m P 30).2 c 12) og
section
variable {m:G0}{c:Cs}{X:Cx}
theorem vH {f:Stmt->FS}(h:∀s,DS X s (f s)):∀og:List Stmt,jZ X og (Fd f og)
 | []=>Hm
 | [s]=>Hn (h s)
 |s::t::r=>CU (h s) (vH h (t::r))
theorem zg {E:Bool->Expr->FE}{mt:List Str}(hE:∀rf e,DE X e (E rf e)):∀(ts vs:List Expr),DA X vs (aZ E mt ts vs)
 |_,[]=>by cases ‹List Expr›<;>exact uI
 | [],v::vs=>by
  unfold aZ
  split
  . exact ra
  . rename_i h;exact nh (hE _ v) (zg hE [] vs) (bZ (by simpa using h))
 |t::ts,v::vs=>by
  unfold aZ
  split
  . exact ra
  . rename_i h;exact nh (hE _ v) (zg hE ts vs) (bZ (by simpa using h))
theorem xS (g:Gd m c X){elt:Expr}{gs:List adJ}{sc:Scope}{p px:Pos}{x:Str}{l:Nat}:ach (.ListComp elt gs sc p) (some (.Name x px)) l X.env=pure (zf c.sc x px p sc):=by
 rw[<- g.hs];rfl
theorem WS {ts vs:List Expr}{kt k2:Nat}{pt Ff:Pos}{r:Bool}(g:Gd m c X)(hv:vs.any isStar=false)(h:L7 c.sc ts vs=some r):acR [.Tuple ts kt pt] (.Tuple vs k2 Ff) X.env=pure (if r then some (sO c.sc ts)else none):=by
 have cH:(vs.any fun|.Starred ..=>true|_=>false)=false:=by
   have:(λ(e:Expr)=>match e with|.Starred ..=>true|_=>false)=isStar:=by funext e;cases e<;>rfl
   rw[this];exact hv
 have WT:(X.env.blockKind != adB)= !(ze c.sc):=by rw[<- g.hs];rfl
 unfold L7 at h
 show(if(!(ts.length == 2||ts.length == 3)||vs.length != ts.length||X.env.blockKind != adB)=true then pure none else if(vs.any fun|.Starred ..=>true|_=>false)=true then pure none else
   if((sO X.env.scope ts).length != ts.length||(sO X.env.scope ts).eraseDups.length != (sO X.env.scope ts).length)=true then pure none else if vs.all (foldedForSure 8)=true then pure none else if vs.all (constantsAlone 8)=true then _ else pure (some (sO X.env.scope ts)))=_
 rw[WT,cH,g.hs]
 split at h
 . rename_i h1;cases h;rw[if_pos h1];rfl
 rename_i h1
 rw[if_neg h1,if_neg (by simp)]
 split at h
 . rename_i h2;cases h;rw[if_pos h2];rfl
 rename_i h2
 rw[if_neg h2]
 split at h
 . rename_i h3;cases h;rw[if_pos h3];rfl
 rename_i h3
 rw[if_neg h3]
 split at h
 . cases h
 rename_i h4
 cases h
 rw[if_neg h4];rfl
theorem SM {tg v:Expr}{env:Env}(h:p7 v=false):acR [tg] v env=pure none:=by
 cases tg with
 |Tuple es kt p=>cases v<;>first|rfl|cases h
 |List es p=>cases v<;>first|rfl|cases h
 |_=>rfl
theorem xU {tg:Expr}{env:Env}(h:isStar tg=false):(aaN [tg] env).map (·.2)= [acr tg env]:=by
 rw[oX h];rfl
theorem Dw {o i v:Expr}{q:Pos}{l:Nat}{env:Env}:adG [.Subscript o i q] v l env=pure false:=by cases v<;>rfl
theorem L_ {o i v:Expr}{q:Pos}{env:Env}:acR [.Subscript o i q] v env=pure none:=by cases v<;>rfl
theorem Ik (P:Pk)(g:Gd m c X){E:Cs->Bool->Expr->FE}{T:Cs->Expr->FT}(hE:∀c X,Gd m c X->∀rf e,DE X e (E c rf e))(hT:∀c X,Gd m c X->∀e,DT X e (T c e)){tg v:Expr}{p:Pos}:DS X (.Assign [tg] v p) (Du m P E T c tg v):=by
 have YZ:∀{x:Str},L8 c x=true->X.env.scope.names.lookup x=some .local:=fun {x} h=>by
   rw[g.hs];exact eq_of_beq h
 unfold Du
 split
 . rename_i x px elt gs sc q
   split
   . rename_i i hi
     obtain⟨a,b,d⟩:=nF g hi
     split
     . rename_i pO
       unfold Fe
       split
       . rename_i tg it ifs
         split
         . rename_i h
           simp only[Zn,Z2]at h
           obtain⟨ok,dk⟩:=xR g (λc X g e=>hE c X g false e) hT h.1 (tg:=tg) (elt:=elt) (ifs:=ifs)
           have hs:=(xS g (elt:=elt) (gs:=[⟨tg,it,ifs,0⟩]) (sc:=sc) (p:=q) (px:=px) (x:=x) (l:=p.line)).trans (by rw[pO])
           split
           . exact vc g.xe g.cm ok (xy (hE c X g false it)) dk g.xN a b hs (ll h.2) d
           . exact yN g.xe g.cm ok (vA P g (hE c X g false)) dk g.xN a b hs (ll h.2) d
         . exact .of (λpins s σ H Q I h=>by obtain⟨_,_,_,_,_,_,_,_,h,_⟩:=h;cases h)
       . exact .of (λpins s σ H Q I h=>by obtain⟨_,_,_,_,_,_,_,_,h,_⟩:=h;cases h)
     . rename_i pO
       exact Av g.xN a b (vG P g (λc X g e=>hE c X g false e) hT) ((xS g).trans (by rw[show zf c.sc x px q sc=false by simpa using pO])) d
   . exact eG
 . rename_i x px _
   split
   . rename_i i hi
     obtain⟨a,b,d⟩:=nF g hi
     split
     . exact eG
     . rename_i h
       exact Av g.xN a b (hE c X g _ _) (vx (by simpa using h)) d
   . exact eG
 . rename_i ts kt pt vs k2 Ff
   split
   . exact eG
   rename_i hv
   have hv:vs.any isStar=false:=by simpa using hv
   have SN:∀l,adG [.Tuple ts kt pt] (.Tuple vs k2 Ff) l X.env=pure false:=λ_=>rfl
   split
   . rename_i hp
     exact uJ (Ar (zg (hE c X g) ts vs)) (kL g (hE c X g false) 3 _) (SN _) (WS g hv hp) rfl
   . rename_i hp
     split
     . exact eG
   . exact eG
 . exact uJ (hE c X g false _) (kL g (hE c X g false) 3 _) Dw L_ (xU rfl)
 . split
   . exact eG
   rename_i h
   simp only[aag,not_or,aco]at h
   exact uJ (hE c X g false _) (kL g (hE c X g false) 3 _) (vx h.1.1) (SM h.1.2) (xU h.2)
theorem Il (P:Pk){W:Nat}{kp:Bool}(g:Gd m c X){E:Cs->Bool->Expr->FE}{T:Cs->Expr->FT}(hE:∀c X,Gd m c X->∀rf e,DE X e (E c rf e))(hT:∀c X,Gd m c X->∀e,DT X e (T c e)){B:List Stmt->FS}(hB:∀b,jZ X b (B b))(s:Stmt):
   DS X s (Dv m P W kp E T B c s):=by
 have nv:acV (model X.prog X.w) X.A X.env X.xe:=by rw[g.xe];exact PassesOwn.never
 unfold Dv
 split
 . exact KL (hE c X g _ _)
 . exact O6 (hT c X g _) (hB _) (hB _)
 . exact Ik P g hE hT
 . split
   . exact eG
   . rename_i h
     split
     . exact Ic nv g.cm (xH (hE c X g false _)) (kL g (hE c X g false) 3 _) (hB _) (ll (by simpa using h))
     exact K4 nv g.cm (vA P g (hE c X g false)) (kL g (hE c X g false) 3 _) (hB _) (ll (by simpa using h))
 . exact CW W nv (hT c X g _) (hB _)
 . exact Ho
 . exact KN
 . split
   . exact eG
   . rename_i h;exact Hq (hE c X g false _) (vx (by simpa using h))
 . exact eG
theorem Im (P:Pk){W:Nat}{kp:Bool}(g:Gd m c X)(og:List Stmt):jZ X og (body m P W kp c og):=by
 obtain⟨hE,hT⟩:=Fc m P 30
 have:∀n s,DS X s (sS m P W kp (iv m P 30).1 (iv m P 30).2 c n s):=λn=>by
  induction n with
  |zero=>exact λ_=>eG
  |succ n ih=>exact λs=>Il P g hE hT (vH ih) s
 exact vH (this 12) og
end
structure bw where
 nm:Str
 ps:List Str
 N:List Str
 st:Stmt
 kp:Bool
 mt:List Str
 pu:Bool
structure Mo where
 ds:List bw
 iX:List Str
 vq:List (Str×D)
 xK:List (Str×List (Str×D))
 P:Pk
 W:Nat
noncomputable def tU:Nat->List bw->List (Str×Nat×Nat)
 |_,[]=>[]
 |j,d::ds=>(d.nm,j,d.ps.length)::tU (j+1) ds
noncomputable def Mo.g (M:Mo)(T:Nat->Fn)(k:Nat):G0:=⟨T,k,tU 0 M.ds,M.iX,M.vq,M.xK⟩
noncomputable def zh (pu:Bool)(f:Fn):Fn:=if pu then mH f else f
noncomputable def bw.run (M:Mo)(d:bw)(T:Nat->Fn)(k:Nat):Fn:=zh d.pu (aC d.kp d.N.length d.ps.length (body (M.g T k) M.P M.W d.kp ⟨d.N,bM d.st,true,d.mt,[]⟩ (eW d.st)))
theorem sP:∀{ds:List bw} {j:Nat} {x:Str} {i n:Nat},(x,i,n)∈tU j ds->∃d q,i=j+q/\ds[q]? = some d/\d.nm=x/\d.ps.length=n
 | [],_,_,_,_,h=>by simp[tU]at h
 |d::ds,j,x,i,n,h=>by
  rcases ZE.mp h with h|h
  . cases h;exact⟨d,0,rfl,rfl,rfl,rfl⟩
  . obtain⟨e,q,h1,h2,h3,h4⟩:=sP h
    exact⟨e,q+1,by omega,by simpa using h2,h3,h4⟩
structure Good (M:Mo)(T:Nat->Nat->Fn):Prop where
 z:∀j ds g,T 0 j ds g=none
 s:∀k j d,M.ds[j]? = some d->T (k+1) j=d.run M (T k) k
 sc:∀d∈M.ds,jw d.N d.ps (bM d.st)
structure Aj (M:Mo)(K:KW)(f:Nat->Addr)(fd:Nat->aaA):Prop where
 fn:∀j d,M.ds[j]? = some d->xc K.fr d.nm d.nm d.st (f j) (fd j)/\K.mg d.nm=some (.ref (f j))/\Binds K.fr (fd j) d.ps []
 bl:∀x∈M.iX,K.mg x=none
 cn:∀x d,(x,d)∈M.vq->∃v u,K.mg x=some u/\RelV v u /\ ∀K H ι,Rel K H ι d v
 dc:∀x t,(x,t)∈M.xK->∃a,K.mg x=some (.ref a)/\tQ K.w K a t
section
variable {M:Mo}{T:Nat->Nat->Fn}{K:KW}{f:Nat->Addr}{fd:Nat->aaA}{P:ZY}{base:Heap}
theorem Good.len (G:Good M T){k j:Nat}{d:bw}(h:M.ds[j]? = some d):∀ds g r,T k j ds g=some r->ds.length=d.ps.length:=λds g r q=>by
 cases k with
 |zero=>rw[G.z]at q;cases q
 |succ k =>
  rw[G.s k j d h]at q
  unfold bw.run zh at q
  split at q
  . exact yU (λ_ _ _=>sE _ _ _) ds g r q
  . exact sE ds g r q
theorem Bb (G:Good M T)(A:Aj M K f fd):∀k j d,M.ds[j]? = some d->dM P K.w K.fr K.mg base je k (f j) (fd j) d.ps (my K d.ps.length (T k j))
 | 0,j,d,h=>Ht λds g=>G.z j ds g
 |k+1,j,d,h=>by
  have ih:=Bb G A k
  obtain⟨F,hm,hb⟩:=A.fn j d h
  have S:=G.sc d (Z_ h)
  have jY:d.ps.length<=d.N.length:=by have:=congrArg adx S.pre;rw[aaO]at this;omega
  have main:dM P K.w K.fr K.mg base je (k+1) (f j) (fd j) d.ps (my K d.ps.length (aC d.kp d.N.length d.ps.length (body (M.g (T k) k) M.P M.W d.kp ⟨d.N,bM d.st,true,d.mt,[]⟩ (eW d.st)))):=by
    refine O9 F S jY λet A' outer s H E hr=>?_
    have gd:Gd (M.g (T k) k) ⟨d.N,bM d.st,true,d.mt,[]⟩ (ml je P K.w K.fr K.mg base d.N d.nm (bM d.st) (f j) et A' outer s H E).w8:=⟨rfl,rfl,S.nd,rfl,rfl,hr,λ_ _=>rfl,(λ_ h=>nomatch h),λx i n hx=>?_,A.bl,A.cn,A.dc⟩
    . exact Im M.P gd _
    obtain⟨e,q,h1,h2,h3,h4⟩:=sP hx
    have h1:i=q:=by omega
    subst h1 h3 h4
    obtain⟨F',u6,fT⟩:=A.fn i e h2
    exact⟨f i,fd i,e.ps,ih i e h2,u6,F'.kp,fT,G.len h2⟩
  rw[G.s k j d h]
  unfold bw.run zh
  split
  . exact HM main
  . exact main
end
noncomputable def zi (K:ZC):Sp:=λvs H Q _=>∃(a:Addr) (ns:List Int),vs = [.ref a]/\dz K H a (ns.map V.int)/\ns.length<=63 /\ ∀H',Q (.bl true) H'
theorem sQ {K:KW}{H:Hp}{ι:Ix}:∀ns:List Int,ao K H ι (ns.map D.int) (ns.map V.int)
 | []=>by simp[ao]
 |n::ns=>by
  simp only[ZT,ao]
  exact⟨_,_,rfl,by simp[Rel],sQ ns⟩
theorem Ma {K:KW}{fn:Fn}(h:∀ns:List Int,ns.length<=63->∃g',fn [.lst (ns.map .int)] []=some (.bl true,g'))(vs:List V)(H:Hp)(Q:VK)(E:XK)(q:zi K.fr vs H Q E):my K 1 fn vs H Q E:=by
 obtain⟨a,ns,rfl,hS,hl,hq⟩:=q
 obtain⟨g',hg⟩:=h ns hl
 refine⟨rfl,⟨[],[],λ_=>0⟩,[],[.lst (ns.map .int)],.bl true,g',⟨acK,rfl,(λb hb=>by cases hb),(λi xs z=>by simp at z)⟩,?_,hg,λH' ι' v e G r=>?_⟩
 . simp only[ao]
   refine⟨_,_,rfl,?_,rfl⟩
   simp only[Rel]
   refine⟨a,_,rfl,?_,sQ ns⟩
   rcases hS with hS|hS
   . exact .inl ⟨hS,by simp,by simp⟩
   . exact .inr hS
 . simp only[Rel]at r
   rw[r]
   exact hq H'
inductive bO (K:ZC):List bw->List Addr->List aaA->Prop
 |nil:bO K [] [] []
 |cons {nm:Str} {ps N:List Str} {st:Stmt} {kp pu:Bool} {mt:List Str} {ds:List bw} {fs:List Addr} {hW:List aaA} {f:Addr} {oc:Value} {od an:Option Addr} {sl:Array (Option Value)} {kV dc pm cd ct:Value}
  (a:abC K aal nm=some (some (.ref f)))
  (l:K.lookup f=some ⟨oc,od,.func (abV nm nm (jx st) (eW st) (bM st) .none kV dc pm an cd ct),sl⟩)
  (e:adn K cd nm=true) (k:aaX K (.ref f)=true)
  (b:∀us:List Value,us.length=ps.length->bindArgs (abV nm nm (jx st) (eW st) (bM st) .none kV dc pm an cd ct) ⟨us,[]⟩=pure (ps.zip us))
  (r:bO K ds fs hW):bO K (⟨nm,ps,N,st,kp,mt,pu⟩::ds) (f::fs) (abV nm nm (jx st) (eW st) (bM st) .none kV dc pm an cd ct::hW)
theorem bO.get {K:ZC}{h:Heap}{mg:Str->Option Value}(X:K.In h)(G:h.Ns aal mg){f0:Addr}{d0:aaA}:∀{ds:List bw} {fs:List Addr} {hW:List aaA},bO K ds fs hW ->
  ∀j d,ds[j]? = some d->xc K d.nm d.nm d.st (fs.getD j f0) (hW.getD j d0)/\mg d.nm=some (.ref (fs.getD j f0))/\Binds K (hW.getD j d0) d.ps []
 |_,_,_,.nil,j,d,h=>by simp at h
 |_,_,_,.cons a l e k b r,0,d,h=>by
  simp at h;subst h
  exact⟨Kr l e k,ae1 X G a,.all b⟩
 |_,_,_,.cons a l e k b r,j+1,d,h=>by
  simpa using r.get X G j d (by simpa using h)
theorem bO.QM {K:ZC}{d0:aaA}:∀{ds:List bw} {fs:List Addr} {hW:List aaA},bO K ds fs hW->∀j d,ds[j]? = some d->∀us:List Value,us.length=d.ps.length->bindArgs (hW.getD j d0) ⟨us,[]⟩=pure (d.ps.zip us)
 |_,_,_,.nil,j,d,h=>by simp at h
 |_,_,_,.cons a l e k b r,0,d,h=>by
  simp at h;subst h
  exact b
 |_,_,_,.cons a l e k b r,j+1,d,h=>by
  simpa using r.QM j d (by simpa using h)
theorem oy {p:List Value->Prop}(h:∀a,p [a]):∀us:List Value,us.length=1->p us
 | [a],_=>h a
theorem hX {p:List Value->Prop}(h:∀a b,p [a,b]):∀us:List Value,us.length=2->p us
 | [a,b],_=>h a b
theorem p8 {p:List Value->Prop}(h:∀a b c,p [a,b,c]):∀us:List Value,us.length=3->p us
 | [a,b,c],_=>h a b c
theorem QN {p:List Value->Prop}(h:∀a b c d,p [a,b,c,d]):∀us:List Value,us.length=4->p us
 | [a,b,c,d],_=>h a b c d
theorem whole {l:aci}{w:World}{K:ZC}{h:Heap}{mg:Str->Option Value}{fa:Addr}{M:Mo}{T:Nat->Nat->Fn}{i R:Nat}{d:bw}{x:Str}{fs:List Addr}{hW:List aaA}(X:K.In h)(G:h.Ns aal mg)(hd:M.ds[i]? = some d)(hx:d.ps = [x])(Mb:d.nm = "law")(Fg:mg "law" = some (.ref fa))
   (gd:Good M T) (L:bO K M.ds fs hW) (bl:∀y∈M.iX,abC K aal y=some none)
   (cn:∀y e,(y,e)∈M.vq->∃v u,abC K aal y=some (some u)/\RelV v u /\ ∀K H ι,Rel K H ι e v)
   (dc:∀y t,(y,t)∈M.xK->∃a,abC K aal y=some (some (.ref a))/\tQ w ⟨K,w,mg⟩ a t)
   (spec:∀ns:List Int,ns.length<=63->∃g',T R i [.lst (ns.map .int)] []=some (.bl true,g')):
   ∃fd:aaA,(∀(s:Zo) (v:Value),aez s fd ⟨[v],[]⟩ [(x,v)]) /\ ∀base:Heap,K.In base->base.Ns aal mg->dM l.prog w K mg base je R fa fd [x] (zi K):=by
 have A:Aj M ⟨K,w,mg⟩ (λj=>fs.getD j fa) (λj=>hW.getD j (hW.getD 0 default)):=⟨λj d h=>L.get X G j d h,λy hy=>PySem.W.mg_none_of X G (bl y hy),λy e hm=>by
   obtain⟨v,u,h1,h2,h3⟩:=cn y e hm
   exact⟨v,u,ae1 X G h1,h2,h3⟩,λy t hm=>by
   obtain⟨a,h1,h2⟩:=dc y t hm
   exact⟨a,ae1 X G h1,h2⟩⟩
 obtain⟨F,hm,hb⟩:=A.fn i d hd
 rw[Mb]at hm
 have e:fs.getD i fa=fa:=by
   have:=hm.symm.trans Fg;injection this with this;injection this
 refine⟨hW.getD i (hW.getD 0 default),λs v=>.of_eq ?_,λbase _ _=>?_⟩
 . have:=L.QM (d0:=hW.getD 0 default) i d hd [v] (by rw[hx];rfl)
   rw[this,hx];rfl
 have ok:=Bb (P:=l.prog) (base:=base) gd A R i d hd
 dsimp only at ok
 rw[e,hx]at ok
 exact dM.imp ok (Ma (K:=⟨K,w,mg⟩) spec)
end RI
namespace TL
open PySem PySem.Spec PySem.SeqAt PyProof.Rows PySem.W
section
variable {prog:ZY}{w:World}{A:ZV}{E:Value->Zo->Prop}{s:Zo}
theorem vI {a:Addr}{p0:Array Nat}{vs out:List Value}{n:Nat}{κ:SortKind}{P:PySem.Fin->Zo->Prop}(ho:s.heap.get? a=some (aaQ "list" vs.toArray n))(Bc:vs.length<64)
   (hk:2<=vs.length->∀Q:SortKind->Zo->Prop,Q κ { s with heap:=dG s.heap a vs }->wpAny (model prog w) A (keyKind' vs.toArray) Q E { s with heap:=dG s.heap a vs })
   (Bd:vs.length<2->out=vs) (gm:2<=vs.length->out=p0.toList.map λi=>vs.getD i .none) (hz:out.length<64)
   (hw:2<=vs.length->(adu vs.length).kasWp (aev prog w A κ vs) (λp s'=>s'={ s with heap:=dG s.heap a vs }/\p=p0) { s with heap:=dG s.heap a vs })
   (h:P (.done (.ret .none)) { s with heap:=adW s.heap a vs out.toArray }):
   wpAny (model prog w) A (aby.«list.sort» ⟨[.ref a],[]⟩) P E s:=by
 rw[list_sort_plain]
 have ha:a<s.heap.objs.size:=Zz ho
 refine Zm (listItems_at ho rfl ?_)
 refine Zm (listUpdate_at ho rfl ?_ (by rw[Zt,abk];omega) (aae _))
 obtain⟨e1,QO⟩:∃e1,(s.heap.update a (abn λ_=>(#[]:Array Value))).get? a=some (aaQ "list" #[] e1):=⟨_,adg ho (λ_=>#[])⟩
 refine Zm (seqEpoch_at QO rfl ?_)
 refine Zm (wpAny_newTuple ?_ (by show vs.length<=_;rw[abk];omega))
 refine Zm (ae2 ?_ (aae _))
 refine Z7 ?_
 have Fh:(dG s.heap a vs).get? a=some (aaQ "list" #[] e1):=by
   unfold dG
   rw[abr _ _ _ (by rw[size_push',abX];exact ZP (aak ha)),abr _ _ _ (by rw[abX];exact ZP ha)]
   exact QO
 show wpAny (model prog w) A _ P E { s with heap:=dG s.heap a vs }
 dsimp only
 have hsz:vs.toArray.size=vs.length:=by simp
 have Lk:(vs.toArray.zip vs.toArray).map (·.2)=vs.toArray:=by
   apply Array.toList_inj.mp
   simp[List.map_snd_zip]
 have fin:∀dH:SortSt,(arrOf dH).map (·.2)=out.toArray->failedOf dH=none->wpAny (model prog w) A (do
     let touched:=(<- seqEpoch a) != e1
     Builtin.List.listUpdate (.ref a) λ_=>(arrOf dH).map (·.2)
     if let some e:=failedOf dH then rule "list.sort.comparison-raised";throw e
     if touched then rule "list.sort.modified";raiseError "ValueError" "list modified during sort"
     ret .none) P E { s with heap:=dG s.heap a vs }:=by
   intro dH e f
   refine Zm (seqEpoch_at Fh rfl ?_)
   rw[e,f]
   refine Zm (listUpdate_at Fh rfl ?_ (aae _) (by rw[Zt,abk];omega))
   simp only[bne_self_eq_false,ZG,if_false]
   exact Zp h
 by_cases h2:vs.toArray.size<2
 . rw[if_pos h2,if_pos h2]
   refine Zm (Zp ?_)
   rw[StateT.run_pure]
   refine Zm (Zp ?_)
   exact fin (SortSt.mk' general' (vs.toArray.zip vs.toArray) #[] 7 none) (by rw[Bd (by rw[hsz]at h2;exact h2)];exact Lk) rfl
 . rw[if_neg h2,if_neg h2]
   have iR:2<=vs.length:=by rw[hsz]at h2;omega
   refine Zm (hk iR _ ?_)
   refine Zm (ac2 (kat_run (Q:=λdH s'=>s'={ s with heap:=dG s.heap a vs }/\(arrOf dH).map (·.2)=out.toArray/\failedOf dH=none)
     (G:=λp s'=>s'={ s with heap:=dG s.heap a vs }/\p=p0)
     rfl iR Bc (λp dH s' a1 a2 a3 a4=>⟨a4.1,?_,a3⟩) (hw iR)) ?_ λ_ _ x=>x)
   . rw[kat_snds rfl a2,a4.2,gm iR]
   . rintro⟨⟨⟩,dH⟩ s' ⟨rfl,hp,hf⟩
     exact fin dH hp hf
theorem j9 {l:Addr}{p0:Array Nat}{vs out:List Value}{κ:SortKind}{Q:Value->Zo->Prop}(hl:s.heap.IsList l vs.toArray)(Bc:vs.length<64)
  (hk:2<=vs.length->∀(h':Heap),(∀b o,s.heap.get? b=some o->h'.get? b=some o)->∀(E:Value->Zo->Prop) (R:SortKind->Zo->Prop),R κ { s with heap:=h' }->wpAny (model prog w) A.in1.in1 (keyKind' vs.toArray) R E { s with heap:=h' })
  (Bd:vs.length<2->out=vs) (gm:2<=vs.length->out=p0.toList.map λi=>vs.getD i .none) (hz:out.length<64)
  (hw:∀(h':Heap),(∀b o,s.heap.get? b=some o->h'.get? b=some o)->2<=vs.length->(adu vs.length).kasWp (aev prog w A.in1.in1 κ vs) (λp s'=>s'={ s with heap:=h' }/\p=p0) { s with heap:=h' })
  (h:Q (.ref (s.heap.objs.size+1)) { s with heap:=sortedAll s.heap vs out.toArray }):
  wpAny (model prog w) A (call (.builtin "sorted") [.ref l]) Q E s:=by
 refine acB kind_sorted plain_sorted entry_sorted (args_sorted1 _) ?_
 unfold aby.«sorted»
 refine Zm (m:=checkCount "sorted" 1 1 _) (Zp ?_)
 refine Zm (collect_list hl ?_ (by rw[abk];omega))
 refine Zm (ae2 ?_ (by rw[abk];omega))
 have hsz:((s.heap.push (aaQ "list" #[] 0)).update s.heap.objs.size (abn (· ++ vs.toArray))).objs.size=s.heap.objs.size+1:=by
  rw[abX,size_push']
 have rZ:(((s.heap.push (aaQ "list" #[] 0)).update s.heap.objs.size (abn (· ++ vs.toArray))).push (aaQ "list" vs.toArray 0)).get? (s.heap.objs.size+1)=some (aaQ "list" vs.toArray 0):=by
  rw[<- hsz];exact ZD _ rfl
 have keep:∀b o,s.heap.get? b=some o->(((s.heap.push (aaQ "list" #[] 0)).update s.heap.objs.size (abn (· ++ vs.toArray))).push (aaQ "list" vs.toArray 0)).get? b=some o:=λb o q=>by
  have bf:b<s.heap.objs.size:=Zz q
  rw[abr _ _ _ (by rw[hsz];exact ZP (aak bf)),ae7 _ _ _ _ (ZP bf),abr _ _ _ (ZP bf)]
  exact q
 have Fi:∀b o,s.heap.get? b=some o->(dG (((s.heap.push (aaQ "list" #[] 0)).update s.heap.objs.size (abn (· ++ vs.toArray))).push (aaQ "list" vs.toArray 0)) (s.heap.objs.size+1) vs).get? b=some o:=λb o q =>
  wW (ZP (aak (Zz q))) (keep b o q)
 show wpAny _ _ _ _ _ { s with heap:=((s.heap.push (aaQ "list" #[] 0)).update s.heap.objs.size (abn (· ++ vs.toArray))).push (aaQ "list" vs.toArray 0) }
 rw[hsz]
 refine Zm (Z7 (aaa slot_list_sort ⟨_,rZ,rfl⟩ entry_list_sort (vI rZ Bc (λz R r=>hk z _ Fi _ R r) Bd gm hz (λz=>hw _ Fi z) ⟨_,rfl,?_⟩) (args_list_sort _)))
 exact Zp ⟨_,rfl,h⟩
end
noncomputable def zj {α:Type}(lt:Nat->Nat->Bool):KasT α->α
 |.ret a=>a
 |.ask i j k=>zj lt (k (lt i j))
noncomputable def gu {α:Type}(N:Nat)(p:α->Prop):KasT α->Prop
 |.ret a=>p a
 |.ask i j k=>i<N/\j<N /\ ∀b,gu N p (k b)
theorem Be {α:Type}{lt:Nat->Nat->Bool}{N:Nat}{p:α->Prop}{cmp:Nat->Nat->(Bool->Zo->Prop)->Zo->Prop}{s:Zo}(h:∀i j,i<N->j<N->∀C:Bool->Zo->Prop,C (lt i j) s->cmp i j C s){G:α->Zo->Prop}:
  ∀t:KasT α,gu N p t->G (zj lt t) s->t.kasWp cmp G s
 |.ret a,_,g=>g
 |.ask i j k,a,g=>h i j a.1 a.2.1 _ (Be h (k (lt i j)) (a.2.2 _) g)
theorem gu.run {α:Type}{N:Nat}{p:α->Prop}{lt:Nat->Nat->Bool}:∀{t:KasT α},gu N p t->p (zj lt t)
 |.ret _,h=>h
 |.ask i j k,h=>(h.2.2 (lt i j)).run
theorem gu.bind {α β:Type}{N:Nat}{f:α->KasT β}{p:α->Prop}{q:β->Prop}:∀{t:KasT α},gu N p t->(∀a,p a->gu N q (f a))->gu N q (t.bind f)
 |.ret a,h,k=>k a h
 |.ask i j t,a,k=>⟨a.1,a.2.1,λb=>(a.2.2 b).bind k⟩
def fV (N:Nat)(p:Array Nat):Prop:=p.toList.Perm (Zx N)
theorem fV.lt {N:Nat}{p:Array Nat}(h:fV N p)(hN:0<N)(i:Nat):p.getD i 0<N:=by
 rw[Array.getD_eq_getD_getElem?]
 cases e:p[i]? with
 |none=>exact hN
 |some x =>
  have:x∈p.toList:=aeR.mpr (acX e)
  exact ZJ.mp (h.mem_iff.mp this)
theorem fV.rev {N:Nat}{p:Array Nat}(h:fV N p)(i j:Nat):fV N (kas_rev p i j):=((mirror_perm p i j _).toList).trans h
theorem fV.WU {N:Nat}{p:Array Nat}(h:fV N p)(i j:Nat):fV N (bubble p i j):=((bubble_perm p i j).toList).trans h
section
variable {N:Nat}(hN:0<N)
include hN
theorem vJ {p:Array Nat}(hp:fV N p):∀f n,gu N (λ_=>True) (kas_asc p f n)
 | 0,_=>ab6
 |f+1,n=>⟨hp.lt hN _,hp.lt hN _,λb=>by
  cases b
  . exact vJ hp f (n+1)
  . exact ab6⟩
theorem nG:∀f {p:Array Nat} n q,fV N p->gu N (λr=>fV N r.1) (kas_desc f p n q)
 | 0,p,n,q,hp=>hp
 |f+1,p,n,q,hp=>by
  refine⟨hp.lt hN _,hp.lt hN _,λb=>?_⟩
  cases b
  . refine⟨hp.lt hN _,hp.lt hN _,λb=>?_⟩
    cases b
    . exact nG f _ _ hp
    . exact hp
  . simp only[if_true]
    split
    . exact nG f _ _ (hp.rev _ _)
    . exact nG f _ _ hp
theorem vK {p:Array Nat}{n m:Nat}(hp:fV N p):gu N (λr=>fV N r.2) (kas_tail3 n m p):=gu.bind (vJ hN (hp.rev _ _) _ _) λ_ _=>hp.rev _ _
theorem oz {p:Array Nat}{n m:Nat}(hp:fV N p):gu N (λr=>fV N r.2) (kas_descPart n m p):=gu.bind (nG hN _ _ _ hp) λr hr=>by
 split
 . exact vK hN (fV.rev hr _ _)
 . exact vK hN hr
theorem Dx {p:Array Nat}{n:Nat}(hp:fV N p):gu N (λr=>fV N r.2) (kas_count n p):=gu.bind (vJ hN hp _ _) λm _=>by
 split
 . exact hp
 split
 . refine⟨hp.lt hN _,hp.lt hN _,λb=>?_⟩
   cases b
   . exact oz hN (hp.rev _ _)
   . exact hp
 . exact oz hN hp
theorem oZ {p:Array Nat}{k:Nat}(hp:fV N p):∀f l r,gu N (λ_=>True) (kas_place p k f l r)
 | 0,_,_=>ab6
 |f+1,l,r=>by
  unfold kas_place
  split
  . exact ab6
  . refine⟨hp.lt hN _,hp.lt hN _,λb=>?_⟩
    cases b
    . exact oZ hp f _ _
    . exact oZ hp f _ _
theorem Bf:∀f {p:Array Nat} k,fV N p->gu N (fV N) (kas_bin f p k)
 | 0,p,_,hp=>hp
 |f+1,p,k,hp=>gu.bind (oZ hN hp _ _ _) λl _=>Bf f _ (hp.WU _ _)
theorem xV:gu N (fV N) (adu N):=gu.bind (Dx hN (show(List.toArray (Zx N)).toList.Perm _ by simp)) λr hr=>by
 split
 . exact Bf hN _ _ hr
 . exact hr
end
end TL
namespace L3
open PySem PySem.Spec PyProof.Rows L2 SeqAt
mutual
noncomputable def ltN:D->D->Option Bool
 |.int a,.int b=>some (decide (a<b))
 |.str a,.str b=>some (decide (a.cps.toList<b.cps.toList))
 |.tup xs,.tup ys=>fZ (decide (xs.length<ys.length)) xs ys
 |_,_=>none
noncomputable def fZ (fin:Bool):List D->List D->Option Bool
 |x::xs,y::ys=>if aH x y=true then fZ fin xs ys else ltN x y
 |_,_=>some fin
end
section
variable {X:Cx}{pins:List (Addr×Obj)}{σ:L2.St}{H:Hp}{s:Zo}{ι:Ix}
mutual
theorem Fj (I:Inv X pins σ H s):∀(d e:D) {A:ZV} {v w:V} {u z:Value} {k:Bool},flat d=true->flat e=true->Rel X.kw H ι d v->Rel X.kw H ι e w->RelV v u->RelV w z->A.units+dep d<cLine->ltN d e=some k->TL.lg A s u z k
 |.int a,e,A,v,w,u,z,k,_,_,r1,r2,ru,rz,_,h=>by
  cases e with
  |int b =>
   simp only[ltN,aaE]at h;subst h
   simp only[Rel]at r1 r2;subst r1 r2
   obtain⟨t,rfl⟩:=ru;obtain⟨t',rfl⟩:=rz
   exact .ints a b t t'
  |_=>simp[ltN]at h
 |.str a,e,A,v,w,u,z,k,_,_,r1,r2,ru,rz,_,h=>by
  cases e with
  |str b =>
   simp only[ltN,aaE]at h;subst h
   simp only[Rel]at r1 r2;subst r1 r2
   obtain⟨t,rfl⟩:=ru;obtain⟨t',rfl⟩:=rz
   exact .strs a b t t'
  |_=>simp[ltN]at h
 |.tup xs,e,A,v,w,u,z,k,f1,f2,r1,r2,ru,rz,hu,h=>by
  cases e with
  |tup ys =>
   simp only[ltN]at h
   simp only[Rel]at r1 r2
   obtain⟨p,vs,rfl,hq,hr⟩:=r1
   obtain⟨p',ws,rfl,b7,ee⟩:=r2
   cases ru;cases rz
   obtain⟨aw,bA,ht,_⟩:=I.tuple hq.sq
   obtain⟨WV,Mc,gY,_⟩:=I.tuple b7.sq
   simp only[dep]at hu
   have l1:aw.toArray.size=xs.length:=by rw[Zt,<- bA.length,hr.length]
   have l2:WV.toArray.size=ys.length:=by rw[Zt,<- Mc.length,ee.length]
   refine TL.lg.tuples ht gY (by omega) ?_
   rw[l1,l2]
   exact Bg I xs ys f1 f2 hr ee bA Mc (by rw[in1_units];omega) h
  |_=>simp[ltN]at h
 |.az,e,A,v,w,u,z,k,_,_,_,_,_,_,_,h=>by simp[ltN]at h
 |.bl _,e,A,v,w,u,z,k,_,_,_,_,_,_,_,h=>by simp[ltN]at h
 |.lst _,e,A,v,w,u,z,k,_,_,_,_,_,_,_,h=>by simp[ltN]at h
 |.dA,e,A,v,w,u,z,k,_,_,_,_,_,_,_,h=>by simp[ltN]at h
 |.ref _,e,A,v,w,u,z,k,_,_,_,_,_,_,_,h=>by simp[ltN]at h
 |.aI _,e,A,v,w,u,z,k,_,_,_,_,_,_,_,h=>by simp[ltN]at h
 |.fn _,e,A,v,w,u,z,k,_,_,_,_,_,_,_,h=>by simp[ltN]at h
theorem Bg (I:Inv X pins σ H s):∀(xs ys:List D) {A:ZV} {fin k:Bool} {vs ws:List V} {us zs:List Value},aX xs=true->aX ys=true->ao X.kw H ι xs vs->ao X.kw H ι ys ws->Vals vs us->Vals ws zs->A.units+bS xs<cLine ->
  fZ fin xs ys=some k->TL.Lex A s fin (us.zip zs) k
 | [],ys,A,fin,k,vs,ws,us,zs,_,_,r1,_,ru,_,_,h=>by
  simp only[ao]at r1;subst r1;cases ru
  simp only[fZ,aaE]at h;subst h
  simp only[afL];exact .nil
 |d::ds,[],A,fin,k,vs,ws,us,zs,_,_,_,r2,_,rz,_,h=>by
  simp only[ao]at r2;subst r2;cases rz
  simp only[fZ,aaE]at h;subst h
  simp only[afr];exact .nil
 |d::ds,e::es,A,fin,k,vs,ws,us,zs,f1,f2,r1,r2,ru,rz,hu,h=>by
  simp only[ao]at r1 r2
  obtain⟨v,vr,rfl,hv,hr⟩:=r1
  obtain⟨w,wr,rfl,hw,AE⟩:=r2
  simp only[aX,Zn]at f1 f2
  simp only[bS]at hu
  cases ru with
  |cons j4 uV =>
   cases rz with
   |cons pS AF =>
    have heq:=DK.pX I (A:=A) f1.1 f2.1 hv hw j4 pS (by omega)
    simp only[fZ]at h
    simp only[afs]
    split at h
    . rename_i z
      rw[z]at heq
      exact .eq heq (Bg I ds es f1.2 f2.2 hr AE uV AF (by omega) h)
    . rename_i z
      rw[afM.mpr z]at heq
      exact .ne heq (Fj I d e f1.1 f2.1 hv hw j4 pS (by omega) h)
end
noncomputable def vL:D->Bool
 |.int _=>true
 |_=>false
theorem vM (I:Inv X pins σ H s){prog:ZY}{w:World}{b fin:Bool}{Q:Bool->Zo->Prop}:∀(xs ys:List D) {A:ZV} {k:Bool} {i:Nat} {vs ws:List V} {us zs:List Value},aX xs=true->aX ys=true->ao X.kw H ι xs vs->ao X.kw H ι ys ws->Vals vs us->Vals ws zs->A.units+bS xs<cLine ->
  (b=true->i=0->(xs.head?.all vL&&ys.head?.all vL)=true)->fZ fin xs ys=some k->Q k s->PySem.W.KatLex prog w A b fin Q (us.zip zs) i s
 | [],ys,A,k,i,vs,ws,us,zs,_,_,r1,_,ru,_,_,_,h,q=>by
  simp only[ao]at r1;subst r1;cases ru
  simp only[fZ,aaE]at h;subst h
  simp only[afL];exact agk q
 |d::ds,[],A,k,i,vs,ws,us,zs,_,_,_,r2,_,rz,_,_,h,q=>by
  simp only[ao]at r2;subst r2;cases rz
  simp only[fZ,aaE]at h;subst h
  simp only[afr];exact agk q
 |d::ds,e::es,A,k,i,vs,ws,us,zs,f1,f2,r1,r2,ru,rz,hu,hb,h,q=>by
  simp only[ao]at r1 r2
  obtain⟨v,vr,rfl,hv,hr⟩:=r1
  obtain⟨w',wr,rfl,hw,AE⟩:=r2
  simp only[aX,Zn]at f1 f2
  simp only[bS]at hu
  cases ru with
  |cons j4 uV =>
   cases rz with
   |cons pS AF =>
    have heq:=DK.pX I (A:=A) f1.1 f2.1 hv hw j4 pS (by omega)
    simp only[fZ]at h
    simp only[afs]
    split at h
    . rename_i z
      rw[z]at heq
      exact af8 (heq _ _ _ _ (PySem.W.kat_yes (vM I ds es f1.2 f2.2 hr AE uV AF (by omega) (λ_ z=>by omega) h q)))
    . rename_i z
      rw[afM.mpr z]at heq
      refine af8 (heq _ _ _ _ (PySem.W.kat_no ?_))
      have lt:=Fj I d e (A:=A) f1.1 f2.1 hv hw j4 pS (by omega) h
      cases Fl:(b&&i == 0)with
      |false =>
       refine PySem.W.kat_one _ _ ?_
       refine lt _ _ _ _ ?_
       exact q
      |true =>
       simp only[Zn,beq_iff_eq]at Fl
       have:=hb Fl.1 Fl.2
       simp only[List.head?_cons,Option.all_some,Zn]at this
       cases d with
       |int a=>cases e with
        |int c =>
         simp only[Rel]at hv hw;subst hv hw
         obtain⟨t,rfl⟩:=j4;obtain⟨t',rfl⟩:=pS
         simp only[ltN,aaE]at h;subst h
         exact PySem.W.kat_lt_int q
        |_=>cases this.2
       |_=>cases this.1
end
noncomputable def o_:D->Option Bool
 |.tup (.int _::_)=>some true
 |.tup (.tup _::_)=>some false
 |_=>none
noncomputable def ltB (x y:D):Bool:=(ltN x y).getD false
noncomputable def xW (xs:List D):Bool:=decide (xs.length<64)&&aX xs&&decide (bS xs<=50)&&(decide (xs.length<2)||((xs.all λx=>o_ x == some true)||xs.all λx=>o_ x == some false))&&xs.all λx=>xs.all λy=>(ltN x y).isSome
noncomputable def lu (xs:List D):List Nat:=(TL.zj (λi j=>ltB (xs.getD i .az) (xs.getD j .az)) (adu xs.length)).toList
noncomputable def lx (xs:List D):List D:=if xs.length<2 then xs else(lu xs).map λi=>xs.getD i .az
noncomputable def jQ (ds:List D)(g:G):Option (D×G):=match ds with| [d]=>(ff d g).bind λxs=>if xW xs=true then some (.lst (lx xs),g)else none|_=>none
theorem jt {xs:List D}(h:2<=xs.length):(lu xs).Perm (Zx xs.length):=(TL.xV (N:=xs.length) (by omega)).run
theorem p9 {α:Type}(xs:List α)(d:α):(Zx xs.length).map (λi=>xs.getD i d)=xs:=by
 apply abz
 . simp
 . intro i h1 h2
   simp[h2]
theorem p_ (xs:List D):(lx xs).Perm xs:=by
 unfold lx
 split
 . exact .refl _
 . rename_i h
   have:=(jt (xs:=xs) (by omega)).map λi=>xs.getD i .az
   rw[p9]at this
   exact this
theorem ao.Fm {K H ι}{xs:List D}{vs:List V}(r:ao K H ι xs vs):∀{is:List Nat},(∀i∈is,i<xs.length)->ao K H ι (is.map λi=>xs.getD i .az) (is.map λi=>vs.getD i .az)
 | [],_=>by simp[ao]
 |i::is,h=>by
  simp only[ZT,ao]
  obtain⟨v,h1,h2⟩:=r.get (Zq (h i ZO))
  refine⟨_,_,rfl,?_,ao.Fm r λj hj=>h j (ZQ _ hj)⟩
  have e1:xs.getD i .az=xs[i]'(h i ZO):=by simp[h i ZO]
  have e2:vs.getD i .az=v:=by simp[h1]
  rw[e1,e2];exact h2
theorem Vals.pick {vs:List V}{us:List Value}(r:Vals vs us):∀{is:List Nat},(∀i∈is,i<vs.length)->Vals (is.map λi=>vs.getD i .az) (is.map λi=>us.getD i .none)
 | [],_=>.nil
 |i::is,h=>by
  obtain⟨u,h1,h2⟩:=r.get (Zq (h i ZO))
  refine .cons ?_ (Vals.pick r λj hj=>h j (ZQ _ hj))
  have e1:vs.getD i .az=vs[i]'(h i ZO):=by simp[h i ZO]
  have e2:us.getD i .none=u:=by simp[h1]
  show RelV (vs.getD i .az) (us.getD i .none)
  rw[e1,e2];exact h2
section
variable {X:Cx}
theorem vN {pins:List (Addr×Obj)}{σ:L2.St}{H:Hp}{s:Zo}{ι:Ix}(I:Inv X pins σ H s){b:Bool}:∀(xs:List D) {vs:List V} {us:List Value},ao X.kw H ι xs vs->Vals vs us->(∀d∈xs,o_ d=some b) ->
  ∃fs,PySem.W.KatTups s.heap us fs/\fs.length=us.length /\ ∀f∈fs,ahf (model X.prog X.w) s.heap (typeOf f) (.type (if b then "int" else "tuple"))
 | [],vs,us,r,ru,_=>by
  simp only[ao]at r;subst r;cases ru
  exact⟨[],aj3,rfl,λ_ h=>by simp at h⟩
 |d::ds,vs,us,r,ru,ht=>by
  simp only[ao]at r
  obtain⟨v,vr,rfl,hv,hr⟩:=r
  cases ru with
  |cons j4 uV =>
   obtain⟨fs,h1,h2,h3⟩:=vN I ds hr uV λe he=>ht e (ZQ _ he)
   have hd:=ht d (ZO ..)
   unfold o_ at hd
   split at hd
   . rename_i n r'
     cases hd
     simp only[Rel]at hv
     obtain⟨p,vs,rfl,hq,oA⟩:=hv
     cases j4
     obtain⟨aw,bA,⟨o,ho,hc,m,Md⟩,_⟩:=I.tuple hq.sq
     simp only[ao,Rel]at oA
     obtain⟨v1,Qs,rfl,rfl,_⟩:=oA
     cases bA with
     |cons ri rr =>
      obtain⟨t,rfl⟩:=ri
      refine⟨.int n t::fs,aeV ho hc Md rfl h1,by simp[h2],λf hf=>?_⟩
      rcases ZE.mp hf with rfl|hf
      . exact PySem.W.Looks.of_pure rfl
      . exact h3 f hf
   . rename_i ys r'
     cases hd
     simp only[Rel]at hv
     obtain⟨p,vs,rfl,hq,oA⟩:=hv
     cases j4
     obtain⟨aw,bA,⟨o,ho,hc,m,Md⟩,_⟩:=I.tuple hq.sq
     simp only[ao,Rel]at oA
     obtain⟨v1,Qs,rfl,⟨q,ws,rfl,mG,_⟩,_⟩:=oA
     obtain⟨_,_,⟨o2,gm,ja,_⟩,_⟩:=I.tuple mG.sq
     cases bA with
     |cons ri rr =>
      cases ri
      refine⟨.ref q::fs,aeV ho hc Md rfl h1,by simp[h2],λf hf=>?_⟩
      rcases ZE.mp hf with rfl|hf
      . show ahf _ _ (typeOf (.ref q)) (aan "tuple")
        rw[<- ja]
        exact(PySem.W.Looks.ld gm).andThen .now
      . exact h3 f hf
   . cases hd
theorem Dy (hu:X.A.units+64<cLine):cz X (.builtin "sorted") (gH X.kw jQ):=by
 intro pins s σ H xs us Q I r q
 obtain⟨ι,g,ds,d,g',G0,r1,q,p⟩:=q
 cases ds with
 |nil=>cases q
 |cons e jL =>
 cases jL with
 |cons _ _=>cases q
 |nil =>
  simp only[jQ]at q
  obtain⟨ys,hx,q⟩:=bind_some q
  split at q
  . rename_i z
    simp only[xW,Zn,aag,decide_eq_true_eq]at z
    obtain⟨⟨⟨⟨z1,z2⟩,z3⟩,z4⟩,z5⟩:=z
    cases q
    simp only[ao]at r1
    obtain⟨v,_,rfl,rv,rfl⟩:=r1
    obtain⟨a,vs,rfl,hq,hr⟩:=gF G0 rv hx
    cases r with
    |cons ru rr =>
     cases rr
     cases ru
     obtain⟨aw,bA,ht,hsz⟩:=I.list hq
     have hlen:aw.length=ys.length:=by rw[<- bA.length,hr.length]
     have WW:vs.length=ys.length:=hr.length.symm
     obtain⟨b,hb⟩:∃b:Bool,2<=ys.length->∀d∈ys,o_ d=some b:=by
       rcases z4 with z4|z4|z4
       . exact⟨true,λh=>by omega⟩
       . exact⟨true,λ_ d hd=>eq_of_beq (ZH.mp z4 d hd)⟩
       . exact⟨false,λ_ d hd=>eq_of_beq (ZH.mp z4 d hd)⟩
     have pm:2<=ys.length->∀i∈lu ys,i<ys.length:=λh i hi=>ZJ.mp ((jt h).mem_iff.mp hi)
     have fin:∀(out:List Value) (ov:List V),Vals ov out->ao X.kw H ι (lx ys) ov->out.length<64->EP X pins σ Q (.ref (s.heap.objs.size+1)) { s with heap:=sortedAll s.heap aw out.toArray }:=λout ov h1 h2 hz=>by
       obtain⟨c,hc⟩:=sortedAll_at s.heap aw out.toArray
       have e_:=I.bK.fresh (ab7 s.heap.objs.size)
       refine⟨.ref (s.heap.objs.size+1),_,I.laid (t':=s.toks) (λb o e=>sortedAll_old e) (ab7 _) (show cZ X.prog X.w _ _ _ (.lst ov) from⟨by rw[h1.length,abk];omega,out,c,h1,by simpa[aaQ]using hc⟩),rfl,?_⟩
       refine p _ _ _ (Ext.lay e_) (G0.lay e_) ?_
       simp only[Rel]
       exact⟨_,_,rfl,.inl ⟨.inl bC,G0.fresh e_,G0.iQ e_⟩,ao.ext (Ext.lay e_) _ h2⟩
     have run:∀(h':Heap),(∀b o,s.heap.get? b=some o->h'.get? b=some o)->2<=aw.length->(adu aw.length).kasWp (aev X.prog X.w X.A.in1.in1 (tuples' b) aw) (λp s'=>s'={ s with heap:=h' }/\p=(lu ys).toArray) { s with heap:=h' }:=λh' hk h2=>by
       have I':Inv X pins σ H { s with heap:=h' }:=I.kept (t':=s.toks) hk
       refine TL.Be (lt:=λi j=>ltB (ys.getD i .az) (ys.getD j .az)) (N:=aw.length) (λi j hi hj C hC=>?_) _ (TL.xV (by omega)) ⟨rfl,?_⟩
       . have Fo:i<ys.length:=by omega
         have Fp:j<ys.length:=by omega
         obtain⟨vi,WX,ri⟩:=hr.get (Zq Fo)
         obtain⟨vj,WY,rj⟩:=hr.get (Zq Fp)
         obtain⟨ui,WZ,W0⟩:=bA.get WX
         obtain⟨uj,W2,W3⟩:=bA.get WY
         unfold aev
         have e1:aw.getD i .none=ui:=by simp[WZ]
         have e2:aw.getD j .none=uj:=by simp[W2]
         have e3:ys.getD i .az=ys[i]:=by simp[Fo]
         have e4:ys.getD j .az=ys[j]:=by simp[Fp]
         rw[e1,e2]
         rw[e3,e4]at hC
         have mi:=aau Fo
         have mj:=aau Fp
         have ti:=hb (by omega) _ mi
         have tj:=hb (by omega) _ mj
         obtain⟨fi,di⟩:=j5 z2 (Zq Fo)
         obtain⟨fj,dj⟩:=j5 z2 (Zq Fp)
         obtain⟨k,Bh⟩:=abm.mp (ZH.mp (ZH.mp z5 _ mi) _ mj)
         unfold ltB at hC
         rw[Bh]at hC
         generalize ys[i]=Y0 at *
         generalize ys[j]=Y1 at *
         have tup:∀{d:D},o_ d=some b->∃zs,d = .tup zs/\(b=true->zs.head?.all vL=true):=fun {d} h=>by
          unfold o_ at h
          split at h
          . exact⟨_,rfl,λ_=>rfl⟩
          . cases h;exact⟨_,rfl,λz=>by cases z⟩
          . cases h
         obtain⟨xi,rfl,bi⟩:=tup ti
         obtain⟨xj,rfl,bj⟩:=tup tj
         simp only[Rel]at ri rj
         obtain⟨pi,wi,rfl,qi,QP⟩:=ri
         obtain⟨pj,wj,rfl,qj,QQ⟩:=rj
         cases W0;cases W3
         obtain⟨ji,QR,⟨oi,W4,_,Y2,W5⟩,_⟩:=I'.tuple qi.sq
         obtain⟨jj,QS,⟨oj,W6,_,Y3,sR⟩,_⟩:=I'.tuple qj.sq
         refine PySem.W.kat_lt W4 W5 W6 sR ?_
         have l1:ji.toArray.size=xi.length:=by rw[Zt,<- QR.length,QP.length]
         have l2:jj.toArray.size=xj.length:=by rw[Zt,<- QS.length,QQ.length]
         simp only[ltN]at Bh
         rw[l1,l2]
         simp only[dep]at di
         exact vM I' xi xj fi fj QP QQ QR QS (by rw[in1_units,in1_units];omega) (λfT _=>by rw[bi fT,bj fT];rfl) Bh hC
       . unfold lu
         rw[hlen]
     refine TL.j9 (κ:=tuples' b) (p0:=(lu ys).toArray) (out:=if aw.length<2 then aw else(lu ys).map λi=>aw.getD i .none) ht.isList (by omega) (λh2 h' hk E R hR=>?_) (λh=>if_pos h) (λh=>by rw[if_neg (by omega)]) ?_ run ?_
     . have I':Inv X pins σ H { s with heap:=h' }:=I.kept (t':=s.toks) hk
       obtain⟨fs,k1,k2,k3⟩:=vN I' ys hr bA (hb (by omega))
       refine PySem.W.kat_kind (T:=.type (if b then "int" else "tuple")) k1 (by omega) k3 (by cases b<;>rfl) ?_
       have:((aan (if b then "int" else "tuple")) != aan "tuple")=b:=by cases b<;>rfl
       rw[this];exact hR
     . split
       . omega
       . rw[ZN,(jt (xs:=ys) (by omega)).length_eq,afN];omega
     . by_cases h2:aw.length<2
       . rw[if_pos h2]
         exact fin aw vs bA (by unfold lx;rw[if_pos (by omega)];exact hr) (by omega)
       . rw[if_neg h2]
         refine fin _ _ (Vals.pick bA λi hi=>by rw[WW];exact pm (by omega) i hi) ?_ (by rw[ZN,(jt (xs:=ys) (by omega)).length_eq,afN];omega)
         unfold lx
         rw[if_neg (by omega)]
         exact ao.Fm hr (pm (by omega))
  . cases q
end
end L3
namespace TL
open PySem PySem.Spec PySem.SeqAt PyProof.Rows PySem.W
end TL
namespace L3
open PySem PySem.Spec PyProof.Rows L2 SeqAt
end L3
namespace RI
open PySem PySem.Spec PyProof.Rows L2 L3
noncomputable def SO:fQ:=⟨"len",cu,λ_ _=>.inl ⟨_,AG,agI⟩⟩
noncomputable def SQ:fQ:=⟨"int",fY,λ_ _=>.inr ⟨_,Lf,agr⟩⟩
noncomputable def SR:fQ:=⟨"tuple",cO,λ_ _=>.inr ⟨_,Lg,aew⟩⟩
noncomputable def SS:fQ:=⟨"list",yP,λ_ _=>.inr ⟨_,Lh,aeP⟩⟩
noncomputable def PH:fQ:=⟨"list",nu,λ_ _=>.inr ⟨_,HC,aeP⟩⟩
noncomputable def SU:fQ:=⟨"all",eZ,λ_ hc=>.inl ⟨_,Lj hc,boot_all⟩⟩
noncomputable def SV:fQ:=⟨"any",js,λ_ hc=>.inl ⟨_,HU hc,boot_any⟩⟩
noncomputable def SW:fQ:=⟨"sum",lb,λhr _=>.inl ⟨_,HR hr.hd,boot_sum⟩⟩
noncomputable def SX:fQ:=⟨"max",mE,λ_ hc=>.inl ⟨_,Ld hc,boot_max⟩⟩
noncomputable def SY:fQ:=⟨"min",qQ,λ_ hc=>.inl ⟨_,Le hc,boot_min⟩⟩
noncomputable def PJ:nE:=⟨"get",fg,i6,λhr=>⟨_,_,LQ hr.units⟩⟩
noncomputable def isRef:D->Bool
 |.ref _=>true
 |_=>false
theorem vO {X:Cx}{pins:List (Addr×Obj)}{σ:L2.St}{H:Hp}{s:Zo}{ι:Ix}{g:G}{d:D}{x:V}{v:Value}(I:Inv X pins σ H s)(G0:aB X.kw H ι g)(r:Rel X.kw H ι d x)(rv:RelV x v)(h:isRef d=true):
  s.TypeIs v "list" /\ ∀a,v = .ref a->∃ob,s.heap.get? a=some ob/\ob.dict=none:=by
 cases d with
 |ref n =>
  simp only[Rel]at r
  obtain⟨a,rfl,ha⟩:=r
  have hi:n<g.length:=by rw[<- G0.len];exact(Zs.mp ha.1).1
  obtain⟨vs,hv,_⟩:=G0.at (Zq hi) ha
  exact Ai I rv (.inl ⟨rfl,vs,.of hv⟩)
 |_=>cases h
noncomputable def cw (d:D)(ds:List D)(g:G):Option (D×G):=match d,ds with
 |.ref n,[x]=>(g[n]?).bind λxs=>if aD (xs.length+1)=true then some (.az,g.set n (xs ++ [x]))else none
 |_,_=>none
theorem Bi {X:Cx}:MR X "list" "append" "list.append" isRef cw where
 pa:=acM
 slot:=PySem.F.slot_list_append
 ty:=PySem.F.type_list_append
 is:=vO
 run:=by
  intro pins s σ H x xs v us Q I rx rs q
  obtain⟨ι,g,d,ds,d',g',G0,r1,rl,hT,q,p⟩:=q
  cases d with
  |ref n =>
   match ds,q,rl with
   | [y],q,rl =>
    simp only[cw]at q
    obtain⟨ys,hx,q⟩:=bind_some q
    split at q
    . rename_i hz
      cases q
      simp only[Rel]at r1
      obtain⟨a,rfl,ha⟩:=r1
      simp only[ao]at rl
      obtain⟨w,_,rfl,rw_,rfl⟩:=rl
      obtain⟨ws,hw,hr⟩:=G0.at hx ha
      refine sv pins s σ H _ _ v us Q I rx rs ⟨a,ws,w,rfl,rfl,hw,?_,?_⟩
      . have:=aD.le hz;rw[<- hr.length];omega
      . exact p _ ι _ (Ext.put ha hw) (G0.put ha hw (ao.append hr (by simp only[ao];exact⟨_,_,rfl,rw_,rfl⟩))) (by simp[Rel])
    . cases q
   | [],q,_=>cases q
   |_::_::_,q,_=>cases q
  |_=>cases hT
noncomputable def Dz:nE:=⟨"append",isRef,cw,λ_=>⟨_,_,Bi⟩⟩
noncomputable def dB:D->Bool
 |.lst _=>true
 |_=>false
noncomputable def cP (d:D)(ds:List D)(g:G):Option (D×G):=match d,ds with
 |.lst xs,[x]=>if(dw x&&xs.all dw)=true then(iA xs x).map λ(j:Nat)=>(.int (j:Int),g)else none
 |_,_=>none
noncomputable def Bj (E:Expr->FE)(as:List Expr):FI:=match as with
 | [a]=>fS (aE E [a])
 | [a,b]=>sD (aE E [a,b])
 |_=>p4
noncomputable def Io:y_ where
 nm:="range"
 tup:=false
 f:=Bj
 ok:=λhr hc hm hg hE cH _=>by
  rename_i X k E tg as p pos
  unfold Bj
  split
  . rename_i a
    simp only[aaG,aft,acS]at cH
    exact O7 hg hm (gB hE _) (bZ cH)
  . rename_i a b
    simp only[aaG,aft,acS,aaI]at cH
    exact O8 hg hm (gB hE _) (by rw[bZ cH.1,bZ cH.2];rfl) (bZ cH.2)
  . exact rg
noncomputable def Bk (E:Expr->FE)(as:List Expr):FI:=match as with
 | [a]=>dY (E a)
 |_=>p4
noncomputable def Me:y_ where
 nm:="enumerate"
 tup:=true
 f:=Bk
 ok:=λhr hc hm hg hE cH ht=>by
  rename_i X k E tg as p pos
  unfold Bk
  split
  . rename_i a
    simp only[aaG,aft,acS]at cH
    have:=ht rfl
    cases tg with
    |Tuple elts kt tp=>exact HQ hg hm (hE a) (bZ cH)
    |_=>cases this
  . exact rg
noncomputable def DB (x:Str):Option Ty:=if x == "int" then some .int else if x == "bool" then some .bool else if x == "str" then some .str else if x == "tuple" then some .tuple else if x == "list" then some .list else if x == "dict" then some .dict else none
theorem Ip {x:Str}{T:Ty}(h:DB x=some T):x=ZW T.name:=by
 unfold DB at h
 split at h;· rename_i e;cases h;exact eq_of_beq e
 split at h;· rename_i e;cases h;exact eq_of_beq e
 split at h;· rename_i e;cases h;exact eq_of_beq e
 split at h;· rename_i e;cases h;exact eq_of_beq e
 split at h;· rename_i e;cases h;exact eq_of_beq e
 split at h;· rename_i e;cases h;exact eq_of_beq e
 cases h
noncomputable def Bl:G0->Cs->(Expr->FE)->Expr->Option FT:=λ_ _ _ _=>none
noncomputable def S_:lr where
 e:=λm c E _ x=>match x with
  |.Call (.Name f _) [a,.Name t _] [] _=>if f == "isinstance" && c.sc.names.lookup f == some .globalImplicit&&c.sc.names.lookup t == some .globalImplicit&&m.iX.elem f&&m.iX.elem t && !(isStar a)then(DB t).map λT=>iy T (E a)else none
  |_=>none
 vy:=by
  intro m c X E g hE rf x f h
  split at h
  . rename_i f' p a t p2 pos
    split at h
    . rename_i hh
      simp only[Zn,beq_iff_eq,Z2]at hh
      obtain⟨⟨⟨⟨⟨h1,h2⟩,h3⟩,h4⟩,h5⟩,h6⟩:=hh
      obtain⟨T,hT,h⟩:=ZF.mp h
      subst h
      have e:=Ip hT
      subst h1
      subst e
      exact Li T (g.bl _ (abt.mp h4)) (g.bl _ (abt.mp h5)) (hE a) (g.gl h2) (g.gl h3) (bZ h6)
    . cases h
  . cases h
 t:=Bl
 tok:=by intro m c X E g hE x f h;cases h
theorem DC {X:Cx}{pins:List (Addr×Obj)}{σ:L2.St}{H:Hp}{s:Zo}{ι:Ix}{g:G}{d:D}{x:V}{v:Value}(I:Inv X pins σ H s)(G0:aB X.kw H ι g)(r:Rel X.kw H ι d x)(rv:RelV x v)(h:dB d=true):
  s.TypeIs v "list" /\ ∀a,v = .ref a->∃ob,s.heap.get? a=some ob/\ob.dict=none:=by
 cases d with
 |lst xs =>
  simp only[Rel]at r
  obtain⟨a,vs,rfl,hq,hr⟩:=r
  exact Ai I rv (.inl ⟨rfl,vs,hq.sq⟩)
 |_=>cases h
theorem DD {X:Cx}:MR X "list" "index" "list.index" dB cP where
 pa:=acM
 slot:=PySem.F.slot_list_index
 ty:=PySem.F.type_list_index
 is:=DC
 run:=by
  intro pins s σ H x xs v us Q I rx rs q
  obtain⟨ι,g,d,ds,d',g',G0,r1,rl,hT,q,p⟩:=q
  cases d with
  |lst ys =>
   match ds,q,rl with
   | [y],q,rl =>
    simp only[cP]at q
    split at q
    . rename_i hz
      simp only[Zn]at hz
      obtain⟨j,hj,q⟩:=ZF.mp q
      cases q
      simp only[Rel]at r1
      obtain⟨a,vs,rfl,hq,hr⟩:=r1
      simp only[ao]at rl
      obtain⟨w,_,rfl,rw_,rfl⟩:=rl
      obtain⟨e1,_⟩:=nz hz.1 rw_
      obtain⟨e2,_⟩:=oS hz.2 hr
      subst e1 e2
      exact AV pins s σ H _ _ v us Q I rx rs ⟨a,ys,y,j,rfl,hq.sq,rfl,hz.1,hz.2,hj,p H ι _ Ext.refl G0 (by simp[Rel])⟩
    . cases q
   | [],q,_=>cases q
   |_::_::_,q,_=>cases q
  |_=>cases hT
noncomputable def Iq:nE:=⟨"index",dB,cP,λ_=>⟨_,_,DD⟩⟩
noncomputable def Bm (d:bw):Bool :=
 decide ((bM d.st).kind = .function) && !(bM d.st).isCoroutine && !(bM d.st).isGenerator&&xQ d.N&&decide (d.N.take d.ps.length=d.ps) &&
 d.ps.all (λx=>(bM d.st).names.lookup x == some .local||(bM d.st).names.lookup x == some .cell)&&(bM d.st).names.all (λy=>!(y.2 == .free))
noncomputable def xX (ds:List bw):Bool:=ds.all Bm
theorem Bn {ds:List bw}(h:xX ds=true):∀d∈ds,jw d.N d.ps (bM d.st):=λd hd=>by
 have:=ZH.mp h d hd
 simp only[Bm,Zn,decide_eq_true_eq,Z2,ZH,aag,beq_iff_eq]at this
 obtain⟨⟨⟨⟨⟨⟨h1,h2⟩,h3⟩,h4⟩,h5⟩,h6⟩,h7⟩:=this
 exact⟨h1,h2,h3,vB h4,h5,h6,λy hy e=>by have:=h7 y hy;rw[e]at this;simp at this⟩
def At (K:ZC)(w:World)(mg:Str->Option Value)(M:Mo):Prop:=∃fs hW,bO K M.ds fs hW/\(∀y∈M.iX,abC K aal y=some none) /\
 (∀y e,(y,e)∈M.vq->∃v u,abC K aal y=some (some u)/\RelV v u /\ ∀K H ι,Rel K H ι e v) /\
 (∀y t,(y,t)∈M.xK->∃a,abC K aal y=some (some (.ref a))/\tQ w ⟨K,w,mg⟩ a t)
theorem Ir {l:aci}{q:ZY}{loose:List Str}{XP:(Str->Option Value)->Heap->Prop}{YP:World->Heap->Prop}{d:DefRec}{K:Params->ZC}{M:Mo}{T:Nat->Nat->Fn}{i R:Nat}{dt:bw}{x:Str}(hn:l.most=some 63)(hr:aQ R adp)(uF:d.params.defaults = [])(Mf:d.name = "law")
  (hY:∀(w:World) (h:Heap),YP w h->(K w.params).In h)
  (F:∀(w:World) (mg:Str->Option Value) (h:Heap),(K w.params).In h->h.Ns aal mg->At (K w.params) w mg M)
  (hd:M.ds[i]? = some dt) (hx:dt.ps = [x]) (Mb:dt.nm = "law") (gd:Good M T)
  (spec:∀ns:List Int,ns.length<=63->∃g',T R i [.lst (ns.map .int)] []=some (.bl true,g')):
  aeZ q loose XP YP l.row.toRowW d [] (λf vs=>aeO f vs):=
 L2.Hj (n:=63) (k:=R) (x:=x) (CX:=λ_=>je) (sp:=λw=>zi (K w.params)) hn (by decide) uF hr hY
  (λw mg fa h KX G Fg=>by
   obtain⟨fs,hW,L,B,C,Dc⟩:=F w mg h KX G
   rw[Mf]at Fg
   exact whole KX G hd hx Mb Fg gd L B C Dc spec)
  (λ_ _ a ns hl _ hS=>⟨a,ns,rfl,hS,hl,λ_=>rfl⟩) λ_ _ _ _ _ z=>z
section
variable {α β:Type}{P:α->Prop}{Q:α->β->Prop}
theorem bn:∀y∈([]:List α),P y:=λy h=>by simp at h
theorem bc {x:α}{l:List α}(h:P x)(r:∀y∈l,P y):∀y∈x::l,P y:=λy z=>by
 rcases ZE.mp z with rfl|z
 . exact h
 . exact r y z
theorem QT:∀y e,(y,e)∈([]:List (α×β))->Q y e:=λy e h=>by simp at h
theorem cc {x:α}{d:β}{l:List (α×β)}(h:Q x d)(r:∀y e,(y,e)∈l->Q y e):∀y e,(y,e)∈(x,d)::l->Q y e:=λy e z=>by
 rcases ZE.mp z with z|z
 . cases z;exact h
 . exact r y e z
end
theorem cI {K:ZC}{y:Str}{i:Int}{t:Tok}(h:abC K aal y=some (some (.int i t))):∃v u,abC K aal y=some (some u)/\RelV v u /\ ∀K H ι,Rel K H ι (.int i) v:=⟨.int i,_,h,⟨t,rfl⟩,λ_ _ _=>by simp[Rel]⟩
theorem qa {K H ι}:∀{xs:List D} {vs:List V} (k:Nat),ao K H ι xs vs->ao K H ι (xs.eraseIdx k) (vs.eraseIdx k)
 | [],vs,k,h=>by simp only[ao]at h;subst h;simp[ao]
 |x::xs,vs,k,h=>by
  simp only[ao]at h
  obtain⟨v,vr,rfl,h1,h2⟩:=h
  cases k with
  |zero=>simpa using h2
  |succ k =>
   simp only[aed,ao]
   exact⟨v,_,rfl,h1,qa k h2⟩
theorem tF {K H ι}{xs:List D}{vs:List V}(h:ao K H ι xs vs):ao K H ι xs.dropLast vs.dropLast:=by
 rw[aeG,aeG,h.length.symm.symm]
 have:∀(n:Nat) {xs:List D} {vs:List V},ao K H ι xs vs->ao K H ι (xs.take n) (vs.take n):=λn=>by
  induction n with
  |zero=>intro xs vs _;simp[ao]
  |succ n ih =>
   intro xs vs h
   cases xs with
   |nil=>simp only[ao]at h;subst h;simp[ao]
   |cons x xs =>
    simp only[ao]at h
    obtain⟨v,vr,rfl,h1,h2⟩:=h
    simp only[ae5,ao]
    exact⟨v,_,rfl,h1,ih h2⟩
 exact this _ h
noncomputable def rn (d:D)(ds:List D)(g:G):Option (D×G):=match d,ds with
 |.ref n,[]=>(g[n]?).bind λxs=>(xs[xs.length-1]?).map λy=>(y,g.set n xs.dropLast)
 |.ref n,[.int i]=>(g[n]?).bind λxs=>if(decide (-1000000<=i)&&decide (i<=1000000))=true then(afk i xs.length).bind λk=>(xs[k]?).map λy=>(y,g.set n (xs.eraseIdx k))else none
 |_,_=>none
theorem Mg {X:Cx}:MR X "list" "pop" "list.pop" isRef rn where
 pa:=acM
 slot:=PySem.F.slot_list_pop
 ty:=PySem.F.type_list_pop
 is:=vO
 run:=by
  intro pins s σ H x xs v us Q I rx rs q
  obtain⟨ι,g,d,ds,d',g',G0,r1,rl,hT,q,p⟩:=q
  unfold rn at q
  split at q
  . rename_i n
    obtain⟨ys,hx,q⟩:=bind_some q
    obtain⟨y,hy,q⟩:=ZF.mp q
    cases q
    simp only[Rel]at r1
    obtain⟨a,rfl,ha⟩:=r1
    simp only[ao]at rl
    subst rl
    obtain⟨ws,hw,hr⟩:=G0.at hx ha
    obtain⟨w,Mh,rw_⟩:=hr.get hy
    refine Kl pins s σ H _ _ v us Q I rx rs ⟨a,ws,w,rfl,rfl,hw,by rw[<- hr.length];exact Mh,?_⟩
    exact p _ ι _ (Ext.put ha hw) (G0.put ha hw (tF hr)) (Rel.ext (Ext.put ha hw) _ rw_)
  . rename_i n i
    obtain⟨ys,hx,q⟩:=bind_some q
    split at q
    . rename_i hb
      simp only[Zn,decide_eq_true_eq]at hb
      obtain⟨k,hk,q⟩:=bind_some q
      obtain⟨y,hy,q⟩:=ZF.mp q
      cases q
      simp only[Rel]at r1
      obtain⟨a,rfl,ha⟩:=r1
      simp only[ao,Rel]at rl
      obtain⟨w0,_,rfl,rfl,rfl⟩:=rl
      obtain⟨ws,hw,hr⟩:=G0.at hx ha
      obtain⟨w,Mh,rw_⟩:=hr.get hy
      refine CK pins s σ H _ _ v us Q I rx rs ⟨a,ws,i,k,w,rfl,rfl,hw,by omega,by omega,by rw[<- hr.length];exact hk,Mh,?_⟩
      exact p _ ι _ (Ext.put ha hw) (G0.put ha hw (qa k hr)) (Rel.ext (Ext.put ha hw) _ rw_)
    . cases q
  . cases q
noncomputable def PK:nE:=⟨"pop",isRef,rn,λ_=>⟨_,_,Mg⟩⟩
noncomputable def vE (E:Expr->FE)(v:Expr):FE:=match v with
 |.List es _=>aO mkRef (aE E es)
 |v=>E v
theorem PL {X:Cx}{E:Expr->FE}(hE:∀e,DE X e (E e))(v:Expr):DE X v (vE E v):=by
 unfold vE
 split
 . exact As (gB hE _)
 . exact hE _
noncomputable def Bo (E:Expr->FE):List (Option Expr)->List Expr->List (FE×FE)
 |some k::ks,v::vs=>(E k,vE E v)::Bo E ks vs
 |_,_=>[]
theorem Bp {X:Cx}{E:Expr->FE}(hE:∀e,DE X e (E e)):∀(ks:List (Option Expr)) (vs:List Expr),ks.all (·.isSome)=true->ks.length=vs.length->fP X ks vs (Bo E ks vs)
 | [],[],_,_=>by simp[Bo,fP]
 | [],_::_,_,h=>by simp at h
 |_::_,[],_,h=>by simp at h
 |none::_,_::_,h,_=>by simp at h
 |some k::ks,v::vs,h,hl=>by
  simp only[Bo,fP]
  exact⟨hE k,PL hE v,Bp hE ks vs (by simpa using h) (by simpa using hl)⟩
noncomputable def PM:lr where
 e:=λm c E _ x=>match x with
  |.Dict (k::ks) vals _=>if(k::ks).all (·.isSome)&&decide ((k::ks).length=vals.length)&&decide ((k::ks).length<=15)then some (gq (Bo E (k::ks) vals))else none
  |_=>none
 vy:=by
  intro m c X E g hE rf x f h
  split at h
  . rename_i k ks vals pos
    split at h
    . rename_i hh
      rw[Zn,Zn,decide_eq_true_eq,decide_eq_true_eq]at hh
      cases h
      exact Dh g.hu (Bp hE _ _ hh.1.1 hh.1.2) hh.1.1 hh.1.2 (by simp) hh.2
    . cases h
  . cases h
 t:=Bl
 tok:=by intro m c X E g hE x f h;cases h
end RI
namespace PySem
namespace F
end F
end PySem
namespace L3
open PySem PySem.Spec PyProof.Rows L2 SeqAt DK
end L3
namespace HX
open PySem
noncomputable def rl (x:Nat):Nat:=(x*2147483648) % 18446744073709551616+x / 8589934592
noncomputable def gx (w:Nat):Nat:=let y:=((w+18446744073709551616-2870177450013471924) % 18446744073709551616)*614540362697595703 % 18446744073709551616;y % 2147483648*8589934592+y / 2147483648
noncomputable def out (w:Nat):Int:=if(w == 18446744073709551616-1)=true then 1546275796 else if w<9223372036854775808 then(w:Int)else(w:Int)-18446744073709551616
end HX
set_option maxRecDepth 10000
namespace HX
open PySem
theorem el (a b:Int):[a,b].length=2:=rfl
theorem ec:((18446744073709551616:Nat):Int)=18446744073709551616:=rfl
end HX
namespace L3
open PySem PySem.Spec PyProof.Rows L2 SeqAt DK HX
end L3
namespace L3
open PySem PySem.Spec PyProof.Rows L2
end L3
namespace RI
open PySem PySem.Spec PyProof.Rows L2 L3
end RI
namespace PySem
end PySem
namespace L3
open PySem PySem.Spec PyProof.Rows L2 SeqAt DK
end L3
namespace DK
open PySem PySem.Spec PyProof.Rows L2 L3
theorem Bq {prog:ZY}{w:World}{A:ZV}(hh:A.handled=none)(I d:Addr)(gZ:d≠I)(es:Array ZX)(ep:Nat):
  Walks prog w A I [I,d] [I] es.size (λi v=>∃e,es[i]? = some e/\v=e.key) (λi h=>h.IsKeyIter I d i es.size ep/\h.get? d=some { cls:=.type "dict",data:=.dict es ep }) where
 sub:=λb hb=>by simp at hb;simp[hb]
 frame:=λ_ _ _ st hk=>⟨st.1.at λo e=>hk I (by simp) o e,hk d (by simp) _ st.2⟩
 item:=λi s Q E hi st hQ=>by
  have he:es[i]? = some es[i]:=by simp[hi]
  refine next_item st.1 st.2 rfl he λh' qX u4=>?_
  exact hQ _ h' s.toks ⟨_,he,rfl⟩ ⟨qX,u4.extBut d _ gZ st.2⟩ λb o hb e=>u4.extBut b o (λh=>hb (by simp[h])) e
 done:=λs Q E st hQ=>next_end hh st.1 st.2 rfl (Zy _) λh' LJ=>hQ h' s.toks λb o hb e=>LJ b o (λh=>hb (by simp[h])) e
 self:=λ_ _ _ _ st hQ=>aeU st.1 hQ
theorem Iu {prog:ZY}{w:World}{d:Addr}{es:Array ZX}{ep:Nat}(lo:(d == aa9)=false):
  PySem.W.KdlSrc prog w "dict" d d es.size (λi v=>∃e,es[i]? = some e/\v=e.key) (λh=>h.get? d=some { cls:=.type "dict",data:=.dict es ep }) where
 type:=λ_ hm=>⟨_,hm,rfl⟩
 there:=λ_ hm=>⟨Zz hm,Zz hm⟩
 keep:=λ_ _ hm hk=>hk d (.inl rfl) _ hm
 notList:=by decide
 notTuple:=by decide
 hint:=λ_ _ _ _ hm hq=>PySem.W.kdl_hint_dict ⟨_,hm,rfl⟩ hq
 iter:=λ_ _ hh hm=>⟨_,_,(λ_ _ hq=>vm lo hm hq),Bq hh _ d (ZP (Zz hm)) es ep,⟨⟨_,ZD _ rfl,rfl,rfl⟩,Zr _ hm⟩⟩
theorem DF {K H ι}{xs:List D}{es:List ZX}(en:Ent K H ι xs es):∃ks:List V,Vals ks (es.map (·.key))/\ao K H ι (aT xs) ks:=by
 induction en with
 |nil=>exact⟨[],.nil,by simp[aT,ao]⟩
 |cons _ _ rk rv _ _ _ ih =>
  obtain⟨ks,h1,h2⟩:=ih
  exact⟨_::ks,.cons rv h1,by simp only[aT,ao];exact⟨_,_,rfl,rk,h2⟩⟩
end DK
namespace L3
open PySem PySem.Spec PyProof.Rows L2 SeqAt DK
end L3
namespace L3
open PySem PySem.Spec PyProof.Rows L2
abbrev Br:Ix:=⟨[],[],λ_=>0⟩
theorem jI.i0 {K H ι a xs}(h:jI K H ι a xs):jI K H Br a xs:=by
 rcases h with⟨h,_⟩|h
 . exact .inl ⟨h,by simp⟩
 . exact .inr h
theorem kC.i0 {K H ι a xs}(h:kC K H ι a xs):kC K H Br a xs:=by
 rcases h with⟨h,_⟩|h
 . exact .inl ⟨h,by simp,by simp⟩
 . exact .inr h
mutual
theorem Rel.i0 {K H ι}:∀(d:D) {v:V},flat d=true->Rel K H ι d v->Rel K H Br d v
 |.az,v,_,h=>by simpa[Rel]using h
 |.bl _,v,_,h=>by simpa[Rel]using h
 |.int _,v,_,h=>by simpa[Rel]using h
 |.str _,v,_,h=>by simpa[Rel]using h
 |.tup xs,v,f,h=>by
  simp only[Rel]at h ⊢
  obtain⟨a,vs,e1,hq,hr⟩:=h
  exact⟨a,vs,e1,hq.i0,ao.i0 xs (by simpa[flat]using f) hr⟩
 |.lst xs,v,f,h=>by
  simp only[Rel]at h ⊢
  obtain⟨a,vs,e1,hq,hr⟩:=h
  exact⟨a,vs,e1,hq.i0,ao.i0 xs (by simpa[flat]using f) hr⟩
 |.dA,v,f,h=>by cases f
 |.ref n,v,f,h=>by cases f
 |.aI n,v,f,h=>by cases f
 |.fn x,v,f,h=>by cases f
theorem ao.i0 {K H ι}:∀(ds:List D) {vs:List V},aX ds=true->ao K H ι ds vs->ao K H Br ds vs
 | [],vs,_,h=>by simpa[ao]using h
 |d::ds,vs,f,h=>by
  simp only[aX,Zn]at f
  simp only[ao]at h ⊢
  obtain⟨v,vr,e1,hq,hr⟩:=h
  exact⟨v,vr,e1,Rel.i0 d f.1 hq,ao.i0 ds f.2 hr⟩
end
noncomputable def dr (d:D)(g:G):D:=match d with
 |.ref n=>(match g[n]? with|some xs=>.lst xs|none=>.ref n)
 |d=>d
theorem Bs {K H ι g d v}(G0:aB K H ι g)(r:Rel K H ι d v)(f:flat (dr d g)=true):Rel K H Br (dr d g) v:=by
 cases d with
 |ref n =>
  cases hx:g[n]? with
  |none =>
   have e:dr (.ref n) g = .ref n:=by simp only[dr,hx]
   rw[e]at f
   cases f
  |some xs =>
   have e:dr (.ref n) g = .lst xs:=by simp only[dr,hx]
   rw[e]at f ⊢
   simp only[Rel]at r
   obtain⟨a,rfl,ha⟩:=r
   obtain⟨vs,hH,hr⟩:=G0.at hx ha
   simp only[Rel]
   exact⟨a,vs,rfl,.inl ⟨.inl hH,by simp,by simp⟩,ao.i0 xs (by simpa[flat]using f) hr⟩
 |_=>exact Rel.i0 _ f r
noncomputable def mP (d1 d2:D)(g:G):Option (D×G):=if(flat (dr d1 g)&&flat (dr d2 g)&&decide (dep (dr d1 g)<=60))=true then some (.bl (!aH (dr d1 g) (dr d2 g)),g)else none
theorem Bt {X:Cx}(hu:X.A.units+64<cLine):bB X (Z8 .NotEq) (cJ X.kw mP):=by
 intro pins s σ H x y v u Q I rx ry q
 obtain⟨ι,g,d1,d2,d,g',G0,r1,r2,q,p⟩:=q
 unfold mP at q
 split at q
 . rename_i z
   simp only[Zn,decide_eq_true_eq]at z
   cases q
   exact AQ I _ _ z.1.1 z.1.2 (Bs G0 r1 z.1.1) (Bs G0 r2 z.1.2) rx ry (by omega) _ _ _ _ ⟨.bl _,H,I,rfl,p H ι _ Ext.refl G0 (by simp[Rel])⟩
 . cases q
end L3
namespace RI
open PySem PySem.Spec PyProof.Rows L2 L3
noncomputable def Bu (c:Cs)(l:Expr):Bool:=vD c l||(match l with|.Call (.Name _ _) _ _ _=>true|_=>false)
noncomputable def Ta:lr where
 e:=λm c E _ x=>match x with
  |.Compare l [.NotEq] [b] _=>if Bu c l && !(isSet b)then some (aj mP (E l) (E b))else none
  |_=>none
 vy:=by
  intro m c X E g hE rf x f h
  split at h
  . split at h
    . rename_i hh
      simp only[Zn,Z2]at hh
      cases h
      exact Ao (Bt g.hu) (hE _) (hE _) (marks hh.2)
    . cases h
  . cases h
 t:=λm c E x=>match x with
  |.Compare l [.NotEq] [b] _=>if Bu c l && !(isSet b)then some (aF (aj mP (E l) (E b)))else none
  |_=>none
 tok:=by
  intro m c X E g hE x f h
  split at h
  . split at h
    . rename_i hh
      simp only[Zn,Z2]at hh
      cases h
      exact Ap (Bt g.hu) (hE _) (hE _) (marks hh.2)
    . cases h
  . cases h
end RI
namespace PySem
namespace F
theorem Bv:typeLookup (.type "list_reverseiterator") "__len__" = pure none:=by rw[typeLookup_type,aeH];kernel_rfl
theorem DH:typeLookup (.type "list_reverseiterator") "__length_hint__" = pure (some (.builtin "list_reverseiterator.__length_hint__")):=by rw[typeLookup_type,aeH];kernel_rfl
end F
section
variable {prog:ZY}{w:World}{A:ZV}{E:Value->Zo->Prop}{s:Zo}
theorem ly {x:Value}{Q:List Value->Zo->Prop}
  (h:∀R:Result->Zo->Prop,(∀(h':Heap) (tk:Nat) (fI:Array Value) (c':Nat),h'.get? s.heap.objs.size=some { cls:=.type "list",dict:=none,data:=.seq fI c',slots:=#[] }->Q fI.toList { s with heap:=h',toks:=tk }->R (.ok (.ret (.ref s.heap.objs.size))) { s with heap:=h',toks:=tk }) ->
   wpAny (model prog w) A.in1 (abD (.ref s.heap.objs.size) x (.ref s.heap.objs.size))
    (λfin s'=>match fin with|.done f=>R (.ok f) s'|.again c'=>c'.quiet=true/\adm (model prog w) A c' R s') (λe s'=>R (.error e) s') { s with heap:=s.heap.push { cls:=.type "list",data:=.seq #[] } }):
  wpAny (model prog w) A (afz x) Q E s:=by
 unfold afz
 refine Zm (wpAny_runValue (adh F.entry_proto_collect ?_))
 rw[adi F.plain_proto_collect _]
 show wpAny _ A.in1 (newList [] >>= λl=>again (.builtin "list.__iadd__" ⟨[l,x],[]⟩)) _ _ s
 refine Zm (aaS ?_)
 refine Zp ⟨ae3 F.plain_list_iadd _,adh F.entry_list_iadd ?_⟩
 rw[adi F.plain_list_iadd _]
 show wpAny _ A.in1 (abD (.ref s.heap.objs.size) x (.ref s.heap.objs.size)) _ _ _
 refine h (wants _ E) λh' tk fI c' hS hq=>?_
 show wpAny _ A (load s.heap.objs.size >>= _) _ _ _
 refine Zm (wpAny_load hS ?_)
 exact Zp hq
theorem DJ {I:Addr}{T:String}{Q:Value->Zo->Prop}(W7:s.TypeIs (.ref I) T)(gZ:(aan T == aan "tuple")=false)
  (h:∀A':ZV,A'.handled=A.handled->∀(E':Value->Zo->Prop) (Q':List Value->Zo->Prop),(∀(h':Heap) (tk:Nat) (acc:Array Value),acc.size<=ZM->Q (.ref h'.objs.size) { s with heap:=h'.push { cls:=.type "tuple",data:=.seq acc },toks:=tk }->Q' acc.toList { s with heap:=h',toks:=tk })->wpAny (model prog w) A' (afz (.ref I)) Q' E' s):
  wpAny (model prog w) A (call (.type "tuple") [.ref I]) Q E s:=by
 refine callType_codes (Q₁:=λobj s₁=>s₁.TypeIs obj "tuple" /\ Q obj s₁) F.called_tuple (F.typeCall_tuple_1 _) F.entry_object_init ?_ λobj s₁ h₁ =>
  ⟨h₁.1,F.args_object_init_2 obj _,object_init_meets F.called_tuple.init.lookup F.called_tuple.made (by decide) prog w A.in1 _ s₁ ⟨h₁.1,rfl,h₁.2⟩⟩
 refine codeAny_of_tree ?_
 show wpAny _ A.in1.in1 (do checkBuiltinCall "tuple.__new__" ⟨[.type "tuple",.ref I],[]⟩;again (.builtin "tuple.__new__" ⟨[.type "tuple",.ref I],[]⟩)) _ _ s
 refine Zm (wpAny_of_eq (F.newCall_tuple_1 _) (Zp ⟨ae3 F.plain_tuple_new _,adh F.entry_tuple_new ?_⟩))
 rw[adi F.plain_tuple_new _]
 have Tb:=sub_tuple_self
 have Yt:=init_tuple_lookup
 have Y4:=madeHere_tuple
 wp_walk using ac8 W7,(h A.in1.in1 rfl)
 intro h' tk acc hz hq
 show wpAny _ _ (aaV acc.toList.toArray >>= λv=>ret v) _ _ _
 unfold aaV
 refine Zm (aaS ?_ (by show acc.toList.toArray.size<=ZM;simpa using hz))
 refine Zp ?_
 have e:acc.toList.toArray=acc:=by simp
 rw[e]
 exact⟨⟨_,ZD _ rfl,rfl⟩,hq⟩
theorem zm {R:Result->Zo->Prop}{I l:Addr}{items:Array Value}(hh:A.handled=none)(hit:s.heap.IsRevIter I l ((items.size:Int)-1))(hl:s.heap.IsList l items)(gZ:l≠I)(hsz:items.size<=ZM)(S:Addr)(QU:S≠I)(W8:S≠l)(res:Value)(c₀:Nat)
   (hS:s.heap.get? S=some { cls:=.type "list",data:=.seq #[] c₀ })
   (hR:∀(h':Heap) (tk:Nat) (fI:Array Value) (c':Nat),(∀b o,b≠S->b≠I->s.heap.get? b=some o->h'.get? b=some o)->h'.get? S=some { cls:=.type "list",dict:=none,data:=.seq fI c',slots:=#[] } ->
    ItemsOf (λi v=>items[items.size-1-i]? = some v) fI items.size->R (.ok (.ret res)) { s with heap:=h',toks:=tk }):
   wpAny (model prog w) A.in1 (abD (.ref S) (.ref I) res)
    (λfin s'=>match fin with|.done f=>R (.ok f) s'|.again c'=>c'.quiet=true/\adm (model prog w) A c' R s') (λe s'=>R (.error e) s') s:=by
 have W:=(Walks.listRev (prog:=prog) (w:=w) (A:=A.in1) hh I l gZ items).toS
 have Mi:S ∉ [I,l]:=by simp only[ZE,ad_,or_false,not_or];exact⟨QU,W8⟩
 have cH:(0:Nat)<=items.size/\s.heap.IsRevIter I l ((items.size:Int)-1-((0:Nat):Int))/\s.heap.IsList l items:=⟨aae _,by simpa using hit,hl⟩
 have h1:aea (.ref S) (.ref I)=false:=by simp[aea,QU]
 unfold abD
 refine Zm (ac8 hit.typeIs ?_)
 rw[if_neg (by rw[h1];decide)]
 refine Zm (wpAny_pyIter_revIter hit ?_)
 refine Zm (Z7 ?_)
 unfold Builtin.List.listLengthHint
 refine Zm (ade hit.typeIs F.Bv ?_)
 show wpAny _ A.in1 (specialOf (acg I) (ZW "__length_hint__") >>= _) _ _ _
 refine Zm (ade hit.typeIs F.DH ?_)
 (generalize cL:("list_reverseiterator.__length_hint__":String)=QV;(fail_if_success (clear cL QV));wp_delta;rw[show splitId QV=some ("list_reverseiterator","__length_hint__") from by subst cL;decide +kernel];subst cL)
 refine Zm (ad9 (b:=true) hit.typeIs (by rw[aeI];kernel_rfl) ?_)
 refine Zp ?_
 rw[if_neg (by decide)]
 refine Zp ⟨ae3 F.plain_extend_loop _,codeAny_extend_loopS W hsz _ Mi _ items.size 0 _ _ _ rfl (aae _) cH hS (ItemsOf.nil _) λs' fI c' hm Bw Tc=>?_⟩
 rw[Moved.eq_with hm]
 refine hR s'.heap s'.toks fI c' (λb o n1 n2 e=>hm.heap b o (λDL=>?_) e) Bw Tc
 rcases ZE.mp DL with e'|DL
 . exact n1 e'
 . exact n2 (acE.mp DL)
theorem rq {Q:Value->Zo->Prop}{I l:Addr}{items:Array Value}(hh:A.handled=none)(hit:s.heap.IsRevIter I l ((items.size:Int)-1))(hl:s.heap.IsList l items)(gZ:l≠I)(hsz:items.size<=ZM){h0:Heap}(QW:∀b o,h0.get? b=some o->s.heap.get? b=some o)(W9:h0.get? I=none)
  (hQ:∀(h':Heap) (tk:Nat) (acc:Array Value),(∀b o,h0.get? b=some o->h'.get? b=some o)->ItemsOf (λi v=>items[items.size-1-i]? = some v) acc items.size->Q (.ref h'.objs.size) { s with heap:=h'.push { cls:=.type "tuple",data:=.seq acc },toks:=tk }):
  wpAny (model prog w) A (call (.type "tuple") [.ref I]) Q E s:=by
 refine DJ (T:="list_reverseiterator") hit.typeIs (by decide) λA' hA E' Q' k=>ly λR kR=>?_
 have W_:I<s.heap.objs.size:=by obtain⟨o,ho,_⟩:=hit;exact Zz ho
 have Fq:l<s.heap.objs.size:=by obtain⟨o,ho,_⟩:=hl;exact Zz ho
 refine zm (A:=A') (hA.trans hh) (hit.at λo e=>Zr _ e) (hl.at λo e=>Zr _ e) gZ hsz s.heap.objs.size (acf W_) (acf Fq) _ _ (ZD _ rfl) λh' tk fI c' hk hS hi=>?_
 have keep:∀b o,h0.get? b=some o->h'.get? b=some o:=λb o e=>hk b o (ZP (Zz (QW b o e))) (λz=>by rw[z,W9]at e;cases e) (Zr _ (QW b o e))
 exact kR h' tk fI c' hS (k h' tk fI (by rw[hi.1];exact hsz) (hQ h' tk fI keep hi))
end
end PySem
namespace L3
open PySem PySem.Spec PyProof.Rows L2
section
variable {X:Cx}
noncomputable def qb (fe:FE):FE:=λσ g=>(fe σ g).bind λr=>(ff r.1 r.2).bind λxs=>if aD xs.length=true then some (.tup xs.reverse,r.2)else none
theorem Iv {p p2 pos f_:Pos}{a:Expr}{fe:FE}(hA:X.A.handled=none)(Xa:Gl X "tuple")(Fs:X.mg "tuple" = none)(Xb:Gl X "reversed")(Xc:X.mg "reversed" = none)(ha:DE X a fe)
   (hs:ZS [a] X.env = [(false,eval a X.env)]) (kr:ZS [.Call (.Name "reversed" p2) [a] [] f_] X.env = [(false,eval (.Call (.Name "reversed" p2) [a] [] f_) X.env)]:=by rfl):
   DE X (.Call (.Name "tuple" p) [.Call (.Name "reversed" p2) [a] [] f_] [] pos) (qb fe):=.of (by
 intro pins s σ H Q I h
 obtain⟨ι,σd,g,d,g',G0,S0,h,pq⟩:=h
 obtain⟨⟨d1,g1⟩,h1,h⟩:=bind_some h
 obtain⟨xs,sF,h⟩:=bind_some h
 split at h
 . rename_i hz
   cases h
   have Xd:DA X [a] (af fe ag):=nh ha uI hs
   refine abf (gj I Xa Fs aew ?_ (by decide) (by decide))
   refine aaB ?_ kr rfl
   rw[kr]
   show wpAny _ _ (spliced ((false,eval (.Call (.Name "reversed" p2) [a] [] f_) X.env):: [])) _ _ s
   refine adz ?_
   refine Call_ (gj I Xb Xc boot_reversed (aaB (bp (Xd.un f_ pins s σ H (λvs H1=>∃ι1,Ext H ι H1 ι1/\aB X.kw H1 ι1 g1/\ao X.kw H1 ι1 [d1] vs) I ⟨ι,σd,g,[d1],g1,G0,S0,by simp[h1],λH1 ι1 vs e1 G1 r1=>⟨ι1,e1,G1,r1⟩⟩) λus s1 ⟨vs,H1,I1,r1,ι1,e1,G1,rl⟩=>?_) hs rfl))
   simp only[ao]at rl
   obtain⟨v0,vr,rfl,Xe,rfl⟩:=rl
   obtain⟨u0,rfl,ru⟩:=vals1 r1
   obtain⟨b,vs,rfl,hq,hr⟩:=gF G1 Xe sF
   cases ru
   obtain⟨aw,bA,pl,QX⟩:=I1.list hq
   have Y5:=aD.le hz
   refine call_reversed_list pl.isList ?_
   refine adO ?_
   have Xf:b<s1.heap.objs.size:=by obtain⟨o,m,ho,_⟩:=pl;exact Zz ho
   have Xg:s1.heap.get? s1.heap.objs.size=none:=aeM (Zy _)
   refine rq (l:=b) (items:=aw.toArray) (h0:=s1.heap) hA ⟨_,ZD _ rfl,rfl,rfl⟩ (pl.isList.at λo e=>Zr _ e) (ZP Xf) (by rw[Zt,<- bA.length];exact QX) (λb o e=>Zr _ e) Xg λh' tk acc hk hi=>?_
   have I3:L2.Inv X pins σ H1 { s1 with heap:=h',toks:=tk }:=I1.kept hk
   have ea:acc.toList=aw.reverse:=by
    obtain⟨q1,q2⟩:=hi
    have q1:acc.size=aw.length:=by simpa using q1
    refine abK λj=>?_
    rw[abG]
    cases hj:acc[j]? with
    |none =>
     have:acc.size<=j:=adK.mp hj
     rw[q1]at this
     rw[Z3 (by rw[ae_];exact this)]
    |some v =>
     have:=q2 j v hj
     have j0:j<acc.size:=(abH.mp hj).1
     rw[q1]at j0
     rw[List.getElem?_reverse j0]
     simpa using this.symm
   have Td:Vals vs.reverse aw.reverse:=by
    have:∀{xs:List V} {us:List Value},Vals xs us->Vals xs.reverse us.reverse:=fun {xs us} r=>by
     induction r with
     |nil=>exact .nil
     |cons a b ih=>rw[ab9,ab9];exact Vals.append ih (.cons a .nil)
    exact this bA
   have Te:ao X.kw H1 ι1 xs.reverse vs.reverse:=by
    have:∀(xs:List D) {vs:List V},ao X.kw H1 ι1 xs vs->ao X.kw H1 ι1 xs.reverse vs.reverse:=λxs=>by
     induction xs with
     |nil=>intro vs h;simp only[ao]at h;subst h;simp[ao]
     |cons x xs ih =>
      intro vs h
      simp only[ao]at h
      obtain⟨v,vr,rfl,h1,h2⟩:=h
      rw[ab9,ab9]
      exact ao.append (ih h2) (by simp only[ao];exact⟨v,[],rfl,h1,rfl⟩)
    exact this xs hr
   have I4:L2.Inv X pins σ _ { s1 with heap:=h'.push { cls:=.type "tuple",data:=.seq acc },toks:=tk }:=I3.laid (t':=tk) (o:=.tup vs.reverse) (λb o e=>Zr _ e) (Zy _) ⟨by rw[ae_];exact QX,acc.toList,by rw[ea];exact Td,by rw[Array.toArray_toList];exact fz.new _ _⟩
   have e_:H1 h'.objs.size=none:=I3.fresh
   refine⟨.ref _,_,I4,rfl,pq _ ι1 _ (e1.trans (Ext.lay e_)) (G1.lay e_) ?_⟩
   simp only[Rel]
   exact⟨_,_,rfl,.inl ⟨.inl bC,G1.fresh e_⟩,ao.ext (Ext.lay e_) _ Te⟩
 . cases h)
end
end L3
namespace RI
open PySem PySem.Spec PyProof.Rows L2 L3
noncomputable def qc (x:Expr):Option (Str×Expr):=match x with
 |.Call f as ks _=>(match f with
  |.Name t _=>(match as with
   | []=>none
   |a::r=>if r.isEmpty&&ks.isEmpty then some (t,a)else none)
  |_=>none)
 |_=>none
theorem pd {x a:Expr}{t:Str}(h:qc x=some (t,a)):∃p pos,x = .Call (.Name t p) [a] [] pos:=by
 cases x with
 |Call f as ks pos =>
  cases f with
  |Name t' p =>
   cases as with
   |nil=>cases h
   |cons b r =>
    simp only[qc]at h
    split at h
    . rename_i hh
      rw[Zn,af9,af9]at hh
      cases h
      obtain⟨rfl,rfl⟩:=hh
      exact⟨_,_,rfl⟩
    . cases h
  |_=>cases h
 |_=>cases h
noncomputable def vP (m:G0)(c:Cs)(t r:Str)(x:Expr):Option Expr:=(qc x).bind λy=>(qc y.2).bind λz=>if y.1 == t&&z.1 == r&&c.sc.names.lookup y.1 == some .globalImplicit&&c.sc.names.lookup z.1 == some .globalImplicit&&m.iX.elem y.1&&m.iX.elem z.1 && !(isStar z.2)then some z.2 else none
theorem sT {m:G0}{c:Cs}{t r:Str}{x a:Expr}(h:vP m c t r x=some a):∃p p2 pos f_,x = .Call (.Name t p) [.Call (.Name r p2) [a] [] f_] [] pos/\c.sc.names.lookup t=some .globalImplicit/\c.sc.names.lookup r=some .globalImplicit/\t∈m.iX/\r∈m.iX/\isStar a=false:=by
 obtain⟨⟨t',y⟩,h1,hA⟩:=bind_some h
 obtain⟨⟨r',z⟩,h2,hB⟩:=bind_some hA
 dsimp only at hB h2
 obtain⟨p,pos,rfl⟩:=pd h1
 obtain⟨p2,f_,rfl⟩:=pd h2
 split at hB
 . rename_i hh
   simp only[Zn,beq_iff_eq,Z2]at hh
   obtain⟨⟨⟨⟨⟨⟨rfl,rfl⟩,h3⟩,h4⟩,h5⟩,h6⟩,h7⟩:=hh
   cases hB
   exact⟨_,_,_,_,rfl,h3,h4,abt.mp h5,abt.mp h6,h7⟩
 . cases hB
noncomputable def PN:lr where
 e:=λm c E _ x=>(vP m c "tuple" "reversed" x).map λa=>qb (E a)
 vy:=by
  intro m c X E g hE rf x f h
  obtain⟨a,ha,rfl⟩:=ZF.mp h
  obtain⟨p,p2,pos,f_,rfl,h1,h2,h3,h4,h5⟩:=sT ha
  exact Iv g.rm.hd (g.gl h1) (g.bl _ h3) (g.gl h2) (g.bl _ h4) (hE a) (bZ h5)
 t:=Bl
 tok:=by intro m c X E g hE x f h;cases h
end RI
namespace PySem
namespace F
theorem rA:isSubtype (.type "tuple") (.type "set")=pure false:=by rw[aeI];kernel_rfl
theorem lz:isSubtype (.type "tuple") (.type "frozenset")=pure false:=by rw[aeI];kernel_rfl
end F
section
variable {prog:ZY}{w:World}{A:ZV}{E:Value->Zo->Prop}{s:Zo}
set_option maxHeartbeats 3200000 in
theorem rB {l:Addr}{items:Array Value}{ns:List Int}{Q:Value->Zo->Prop}
  (hh:A.handled=none) (hl:s.heap.IsTuple l items) (hi:abS items.toList ns) (hb:items.size+1<scanBound)
  (h:∀(h':Heap) (tk:Nat),h'.SetOf (intKind prog w) s.heap.objs.size (λk'=>(abO (λi=>ns.getD i 0) items.size).any (· == k')) (abO (λi=>ns.getD i 0) items.size).length ->
   (∀b o,b<s.heap.objs.size->s.heap.get? b=some o->h'.get? b=some o)->Q (.ref s.heap.objs.size) { s with heap:=h',toks:=tk }):
  wpAny (model prog w) A (call (.type "set") [.ref l]) Q E s:=by
 obtain⟨c,tl,YD⟩:=F.called_set.mro
 have Yu:=F.called_set.made
 have Tb:=F.called_set.sub
 refine wpAny_call (codeAny_of_tree ?_)
 show wpAny _ _ (callAny (.type "set") _) _ _ _
 refine Zp ⟨Code.quiet_builtin _ (by decide +kernel),adh F.entry_type_call ?_⟩
 rw[Around.under_plain (weight_type_call_type "set" [.ref l] []) rfl]
 have h1:=F.called_set.notType
 have h2:=F.called_set.canCreate
 have Y6:=F.typeCall_set_1 (.ref l)
 repeat (any_goals (first|assumption|wp_step))
 refine ac4 (code_set_new_1 (.ref l) (E:=E) (Q₁:=λobj s₁=>∃led:Bool,obj = .ref s.heap.objs.size/\s₁={ s with heap:=s.heap.push { cls:=.type "set",dict:=none,data:=.set #[] 0 (.fresh 0 0 led) } }) λled=>⟨led,rfl,rfl⟩) λr s₁ hr=>?_
 cases r with
 |error e=>exact hr
 |ok fl =>
  cases fl with
  |ret obj =>
   obtain⟨led,rfl,rfl⟩:=hr
   have hS:(s.heap.push { cls:=.type "set",dict:=none,data:=.set #[] 0 (.fresh 0 0 led) }).get? s.heap.objs.size=some { cls:=.type "set",dict:=none,data:=.set #[] 0 (.fresh 0 0 led) }:=ZD _ rfl
   have hT:ahc { s with heap:=s.heap.push { cls:=.type "set",dict:=none,data:=.set #[] 0 (.fresh 0 0 led) } } (.ref s.heap.objs.size) "set":=⟨_,hS,rfl⟩
   have Y7:=F.called_set.init.lookup
   have Fl:=F.called_set.init.bind (.ref s.heap.objs.size)
   repeat (any_goals (first|assumption|wp_step))
   refine ac4 (codeAny_call_builtin (R:=wants (λr s₂=>r = .none /\ ∃h' tk,s₂={ s with heap:=h',toks:=tk } /\
      h'.SetOf (intKind prog w) s.heap.objs.size (λk'=>(abO (λi=>ns.getD i 0) items.size).any (· == k')) (abO (λi=>ns.getD i 0) items.size).length /\
      (∀b o,b<s.heap.objs.size->s.heap.get? b=some o->h'.get? b=some o)) E) F.called_set.init.plain F.entry_set_init (check_set_init_1 hT ?_)) λr₂ s₂ hr₂=>?_
   . obtain⟨ol,QY,dU,nl,QZ⟩:=hl
     obtain⟨YE,PQ,Yv,Mj⟩:=ol
     simp only at dU QZ
     subst dU;subst QZ
     have Tf:(s.heap.push { cls:=.type "set",dict:=none,data:=.set #[] 0 (.fresh 0 0 led) }).get? l=some { cls:=.type "tuple",dict:=PQ,data:=.seq items nl,slots:=Mj }:=Zr _ QY
     have YF:=F.rA
     have YG:=F.lz
     have gZ:(aan "tuple" == aan "dict")=false:=by decide
     have Bx:(s.heap.push { cls:=.type "set",dict:=none,data:=.set #[] 0 (.fresh 0 0 led) }).IsTuple l items:=⟨_,Tf,rfl,nl,rfl⟩
     unfold aby.«set.__init__» noKeywords agK
     generalize Xh:pyIter=PI
     wp_walk
     subst Xh
     refine ab4 Bx ?_
     refine Zm (wpAny_runValue ?_)
     have Q0:l<s.heap.objs.size:=Zz QY
     have Xi:A.in1.in1.in1.handled=none:=by simp[hh]
     have Tg:l≠(s.heap.push { cls:=.type "set",dict:=none,data:=.set #[] 0 (.fresh 0 0 led) }).objs.size:=by
      rw[abi];exact ZP (aak Q0)
     have Mi:s.heap.objs.size ∉ [(s.heap.push { cls:=.type "set",dict:=none,data:=.set #[] 0 (.fresh 0 0 led) }).objs.size,l]:=by
      rw[abi];simp only[ZE,acE,ad_,or_false,not_or]
      exact⟨ZP (ack _),acf Q0⟩
     have Th:∀(i:Nat) (v:Value),items[i]? = some v->∃t,v = .int ((λi=>ns.getD i 0) i) t:=λi v hv =>
      agT hi i v (by rw[abG];exact hv)
     refine PyProof.Rows.codeAny_set_update_loopS ((Walks.tuple Xi _ l Tg items).toS) s.heap.objs.size
      Mi (λi=>ns.getD i 0) Th hb (items.size-0) 0 _ (by omega) (aae _)
      ⟨⟨_,ZD _ rfl,rfl,rfl⟩,(Bx.push _)⟩ ?hS0 ?hR
     case hS0 =>
      exact PyProof.Rows.SetOf_congr ((PyProof.Rows.setObjOf_fresh (knd:=intKind prog w) led).setOf (Zr _ hS) (by unfold scanBound;omega)) (λ_=>rfl) rfl
     case hR =>
      intro s' hm Bw
      obtain⟨h',g',d',xC,J6⟩:=s'
      have eg:g'=s.gens:=hm.gens
      have ed:d'=s.drawn:=hm.drawn
      have eo:J6=s.os:=hm.os
      subst eg;subst ed;subst eo
      show wpAny _ _ _ _ _ _
      refine Zp ?_
      show wpAny _ _ (ret ab3) _ _ _
      refine Zp ⟨rfl,h',xC,rfl,Bw,λb o hb e=>?_⟩
      have Ft:b≠s.heap.objs.size:=ZP hb
      have jR:b≠(s.heap.push { cls:=.type "set",dict:=none,data:=.set #[] 0 (.fresh 0 0 led) }).objs.size:=by
       rw[abi];exact ZP (aak hb)
      exact hm.heap b o (by simp only[ZE,acE,ad_,or_false,not_or];exact⟨Ft,jR⟩) (Zr _ (Zr _ e))
   . cases r₂ with
     |error e=>exact hr₂
     |ok fl₂ =>
      cases fl₂ with
      |ret r =>
       obtain⟨rfl,h',tk,rfl,Bw,pM⟩:=hr₂
       repeat (any_goals (first|assumption|wp_step))
       exact h _ _ Bw pM
      |_=>exact hr₂.elim
  |_=>exact hr.elim
end
end PySem
namespace PyProof.Rows
open PySem
section
variable {prog:ZY}{w:World}{A:ZV}{E:Value->Zo->Prop}{s:Zo}
theorem DM {h:Heap}{a:Addr}{vs:List Value}{n:Nat}{out:Array Value}(ho:h.get? a=some (aaQ "list" vs.toArray n)):∃c,(adW h a vs out).get? a=some (aaQ "list" out c):=by
 unfold adW
 have ha:a<h.objs.size:=Zz ho
 have Bd:=adg ho (λ_=>#[])
 have Fh:=Zr (aaQ "list" #[] 0) (Zr (aaQ "tuple" vs.toArray 0) Bd)
 exact⟨_,adg Fh (λ_=>out)⟩
theorem By {h:Heap}{a b:Addr}{vs:List Value}{out:Array Value}{o:Obj}(hb:b≠a)(e:h.get? b=some o):(adW h a vs out).get? b=some o:=by
 unfold adW
 rw[abB _ _ hb.symm]
 exact Zr _ (Zr _ ((abB _ _ hb.symm).trans e))
theorem j9 {x:Value}{ns:List Int}{Q:Value->Zo->Prop}(Bc:ns.length<64)
  (hc:∀(A':ZV) (E':Value->Zo->Prop) (Q':List Value->Zo->Prop),A'.handled=A.handled->(∀(h':Heap) (tk:Nat) (vs:List Value),(∀b o,s.heap.get? b=some o->h'.get? b=some o)->s.heap.objs.size<=h'.objs.size->abS vs ns->Q' vs { s with heap:=h',toks:=tk })->wpAny (model prog w) A' (afz x) Q' E' s)
  (h:∀(h':Heap) (tk L c:Nat) (out:Array Value),(∀b o,s.heap.get? b=some o->h'.get? b=some o)->s.heap.objs.size<=L->h'.get? L=some (aaQ "list" out c)->abS out.toList (abb ns)->Q (.ref L) { s with heap:=h',toks:=tk }):
  wpAny (model prog w) A (call (.builtin "sorted") [x]) Q E s:=by
 refine acB kind_sorted plain_sorted entry_sorted (args_sorted1 _) ?_
 unfold aby.«sorted»
 refine Zm (m:=checkCount "sorted" 1 1 _) (Zp ?_)
 refine Zm (hc _ _ _ rfl λh1 Y8 vs k1 Xj hI=>?_)
 have hl:vs.length<64:=by rw[hI.length];exact Bc
 refine Zm (ae2 ?_ (by rw[abk];omega))
 have rZ:(h1.push (aaQ "list" vs.toArray 0)).get? h1.objs.size=some (aaQ "list" vs.toArray 0):=ZD _ rfl
 refine Zm (Z7 (aaa slot_list_sort ⟨_,rZ,rfl⟩ entry_list_sort (list_sort_tree rZ hI hl λout WA a1 a2 a3=>⟨_,rfl,?_⟩) (args_list_sort _)))
 have e:=af4 a2 a3
 subst e
 obtain⟨c,hc⟩:=DM (out:=out) rZ
 refine Zp ⟨_,rfl,h _ _ h1.objs.size c out (λb o q=>?_) Xj hc a1⟩
 have q1:=k1 b o q
 exact By (ZP (Zz q1)) (Zr _ q1)
theorem wX {it:Addr}{items:Array Value}{Q:List Value->Zo->Prop}(ht:s.heap.IsTuple it items)(hsz:items.size<=ZM)
  (hQ:∀(h':Heap) (tk:Nat),(∀b o,s.heap.get? b=some o->h'.get? b=some o)->s.heap.objs.size<=h'.objs.size->Q items.toList { s with heap:=h',toks:=tk }):
  wpAny (model prog w) A (afz (.ref it)) Q E s:=by
 obtain⟨o,ho,hc,n,hd⟩:=ht
 refine ly λR kR=>?_
 have hS:(s.heap.push { cls:=.type "list",data:=.seq #[] }).get? s.heap.objs.size=some { cls:=.type "list",data:=.seq #[] 0 }:=ZD _ rfl
 have hS₂:=adg (c:="list") (xs:=#[]) (n:=0) hS (· ++ items)
 refine wpAny_extend_seq (hsz:=hsz) (s:={ s with heap:=s.heap.push { cls:=.type "list",data:=.seq #[] } }) _ it _ 0 (T:="tuple") (.inr rfl) hS (Zr _ ho) hc hd ?_
 have e:((#[]:Array Value)++items)=items:=by simp
 refine kR _ s.toks items _ (hS₂.trans (by rw[e])) (hQ _ s.toks (λb o' hb=>(abB _ _ (acf (Zz hb))).trans (Zr _ hb)) ?_)
 rw[abX,abi]
 exact ab7 _
end
end PyProof.Rows
namespace L3
open PySem PySem.Spec PyProof.Rows L2 SeqAt DK
noncomputable def tV (xs:List D)(g:G):Option (D×G):=(dE xs).bind λns=>if ns.length<64 then some (.lst ((abb ns).map .int),g)else none
noncomputable def gv (ds:List D)(g:G):Option (D×G):=match ds with
 | [.tup xs]=>tV xs g
 | [.aI n]=>(g[n]?).bind λxs=>tV (aT xs) g
 |ds=>match jQ ds g with|some r=>some r|none=>jy ds g
section
variable {X:Cx}
theorem DN (hh:X.A.handled=none)(hu:X.A.units+64<cLine):cz X (.builtin "sorted") (gH X.kw gv):=by
 intro pins s σ H xs us Q I r q
 obtain⟨ι,g,ds,d,g',G0,r1,q,p⟩:=q
 have fin:∀{ns:List Int},ns.length<64->d = .lst ((abb ns).map .int)->g'=g->∀(h':Heap) (tk L c:Nat) (out:Array Value),(∀b o,s.heap.get? b=some o->h'.get? b=some o)->s.heap.objs.size<=L->h'.get? L=some (aaQ "list" out c)->abS out.toList (abb ns)->EP X pins σ Q (.ref L) { s with heap:=h',toks:=tk }:=by
   intro ns z e1 e2 h' tk L c out hk hL hc hO
   subst e1 e2
   have e_:=I.bK.fresh hL
   have sA:((abb ns).map V.int).length<=ZM:=by
     rw[ZN,(PySem.W.sortI_perm ns).length_eq];exact aa7 (abT z) (by decide)
   refine⟨.ref L,_,I.laid (t':=tk) hk hL (show cZ X.prog X.w _ _ _ (.lst ((abb ns).map V.int)) from⟨sA,out.toList,c,gG hO,by simpa[aaQ]using hc⟩),rfl,p _ _ _ (Ext.lay e_) (G0.lay e_) ?_⟩
   simp only[Rel]
   exact⟨_,_,rfl,.inl ⟨.inl bC,G0.fresh e_,G0.iQ e_⟩,la _⟩
 unfold gv at q
 split at q
 . rename_i ys
   unfold tV at q
   obtain⟨ns,hn,q⟩:=bind_some q
   split at q
   . rename_i z
     cases q
     simp only[ao]at r1
     obtain⟨v,_,rfl,rv,rfl⟩:=r1
     obtain⟨u,rfl,ru⟩:=vals1 r
     simp only[Rel]at rv
     obtain⟨a,vs,rfl,hq,hr⟩:=rv
     cases ru
     obtain⟨aw,bA,ht,hz⟩:=I.tuple hq.sq
     have hA:=fG hn hr bA
     refine j9 z (λA' E' Q' Q1 k=>wX ht (by rw[Zt,<- bA.length];exact hz) λh' tk hk sz=>k h' tk _ hk sz (by simpa using hA)) (fin z rfl rfl)
   . cases q
 . rename_i n
   obtain⟨ys,hx,q⟩:=bind_some q
   unfold tV at q
   obtain⟨ns,hn,q⟩:=bind_some q
   split at q
   . rename_i z
     cases q
     simp only[ao]at r1
     obtain⟨v,_,rfl,rv,rfl⟩:=r1
     simp only[Rel]at rv
     obtain⟨a,rfl,ha⟩:=rv
     obtain⟨u,rfl,ru⟩:=vals1 r
     cases ru
     obtain⟨es,vs,c,hH,iV,dU,mM,Xk,nd,sy,sz,rl⟩:=G0.lR hx ha
     have en:=Ent.of mM Xk rl
     obtain⟨ks,vk,rk⟩:=DF en
     have hA:=fG hn rk vk
     have ho:=gp I hH
     refine j9 z (λA' E' Q' Q1 k=>ly λR kR=>?_) (fin z rfl rfl)
     refine PySem.W.kdl_extend (A:=A') (Iu sy) (Q1.trans hh) (Zr _ ho) s.heap.objs.size (acf (Zz ho)) (acf (Zz ho)) _ 0 (ZD _ rfl) (λh' tk fI c' hk hS hi=>?_) (by simpa using sz)
     have ea:fI.toList=es.map (·.key):=by
      obtain⟨h1,h2⟩:=hi
      refine abK λj=>?_
      rw[abG,Z1]
      cases hj:fI[j]? with
      |none =>
       have:fI.size<=j:=adK.mp hj
       rw[h1]at this
       simp at this
       simp[this]
      |some v =>
       obtain⟨e,he,rfl⟩:=h2 j v hj
       simp at he
       simp[he]
     refine kR h' tk fI c' hS (k h' tk _ (λb o e=>hk b o (ZP (Zz e)) (Zr _ e)) (abT (Zz hS)) (by rw[ea];exact hA))
   . cases q
 . split at q
   . rename_i e he
     cases q
     exact Dy hu pins s σ H xs us Q I r ⟨ι,g,_,d,g',G0,r1,he,p⟩
   . exact AR pins s σ H xs us Q I r ⟨ι,g,_,d,g',G0,r1,q,p⟩
noncomputable def iD (fe:FE):FE:=λσ g=>(fe σ g).bind λr=>match r.1 with
 |.tup xs=>(dE xs).bind λns=>if decide (ns.length<=4000)=true then some (.int (unlike ns),r.2)else none
 |_=>none
theorem zo {e:Expr}{fe:FE}{p1 p2 Ml f_:Pos}(hh:X.A.handled=none)(Xl:X.mg "len" = none)(Xm:X.mg "set" = none)(he:DE X e fe)(Xn:Gl X "len":=by rfl)(Xo:Gl X "set":=by rfl)
  (An:ZS [Expr.Call (.Name "set" p2) [e] [] f_] X.env=(false,eval (.Call (.Name "set" p2) [e] [] f_) X.env)::ZS [] X.env:=by rfl) (Fu:ZS [e] X.env=(false,eval e X.env)::ZS [] X.env:=by rfl):
  DE X (.Call (.Name "len" p1) [.Call (.Name "set" p2) [e] [] f_] [] Ml) (iD fe):=.of (by
 intro pins s σ H Q I h
 obtain⟨ι,σd,g,d,g',G0,S0,h,p⟩:=h
 obtain⟨⟨d1,g1⟩,h1,h⟩:=bind_some h
 cases d1 with
 |tup xs =>
  dsimp only at h
  obtain⟨ns,hn,h⟩:=bind_some h
  split at h
  . rename_i Xp
    cases h
    rw[decide_eq_true_eq]at Xp
    have arg:=(kz he.un pD Fu) f_ pins s σ H (λvs H1=>∃ι1 a us,vs = [.ref a]/\jI X.kw H1 ι1 a us/\ao X.kw H1 ι1 xs us/\Ext H ι H1 ι1/\aB X.kw H1 ι1 g') I (tD.bind G0 S0 h1 λH1 ι1 v e1 G1 S1 r1=>by
     simp only[Rel]at r1
     obtain⟨a,us,rfl,hq,hr⟩:=r1
     exact⟨ι1,a,us,rfl,hq,hr,e1,G1⟩)
    refine abf (gj I Xn Xl (u:=.builtin "len") rfl ?_ (by decide) (by decide))
    refine ac6 ?_ An rfl
    rw[An]
    show wpAny _ _ (spliced ((false,eval (.Call (.Name "set" p2) [e] [] f_) X.env)::abU Ml (ZS [] X.env))) _ _ s
    refine adz ?_
    refine abf (gj I Xo Xm (u:=.type "set") rfl ?_ (by decide) (by decide))
    refine aaB (bp arg λoy s1 q1=>?_) Fu rfl
    obtain⟨vs,H1,I1,rv,ι1,a,us,rfl,hq,hr,e1,G1⟩:=q1
    obtain⟨u,rfl,ru⟩:=rv.one
    cases ru
    obtain⟨aw,bA,pl,hz⟩:=I1.tuple hq.sq
    have hA:=fG hn hr bA
    have Xq:aw.length=ns.length:=by
     obtain⟨ps,rfl,rfl⟩:=g_ hA
     simp
    have hsz:aw.toArray.size=ns.length:=by rw[Zt];exact Xq
    refine PySem.rB (items:=aw.toArray) (ns:=ns) hh pl (by simpa using hA) (by rw[hsz];unfold scanBound;omega) λh2 Q2 Q3 k2=>?_
    rw[hsz]at Q3
    obtain⟨o,ho,sU⟩:=Q3.objOf
    obtain⟨hex,es,ep,t,hd,_,_,Q4,hf⟩:=sU
    have hle:=firstMet_length_le (λi=>ns.getD i 0) ns.length
    refine adO ?_
    have kk:∀b o,s1.heap.get? b=some o->h2.get? b=some o:=λb o q=>k2 b o (Zz q) q
    have I2:Inv X pins σ H1 { s1 with heap:=h2,toks:=Q2 }:=I1.kept kk
    refine call_len_set (s:={ s1 with heap:=h2,toks:=Q2 }) ho hex hd hf (by rw[Q4];omega) ?_
    rw[Q4]
    exact⟨.int (unlike ns),H1,I2.kept λb o q=>q,⟨_,rfl⟩,p _ _ _ e1 G1 rfl⟩
  . cases h
 |_=>cases h)
end
end L3
namespace RI
open PySem PySem.Spec PyProof.Rows L2 L3
noncomputable def Mm:fQ:=⟨"sorted",gv,λhr _=>.inl ⟨_,DN hr.hd hr.units,boot_sorted⟩⟩
noncomputable def DP:lr where
 e:=λm c E _ x=>(vP m c "len" "set" x).map λa=>iD (E a)
 vy:=by
  intro m c X E g hE rf x f h
  obtain⟨a,ha,rfl⟩:=ZF.mp h
  obtain⟨p,p2,pos,f_,rfl,h1,h2,h3,h4,h5⟩:=sT ha
  exact zo g.rm.hd (g.bl _ h3) (g.bl _ h4) (hE a) (g.gl h1) (g.gl h2) rfl (bZ h5)
 t:=Bl
 tok:=by intro m c X E g hE x f h;cases h
end RI
namespace L3
open PySem PySem.Spec PyProof.Rows L2 SeqAt DK
noncomputable def iE (d:D)(ds:List D)(g:G):Option (D×G):=match d,ds with
 |.aI n,[k,x]=>(g[n]?).bind λxs=>if(bD 6 k&&j6 xs)=true then(match aW xs k with|some v=>some (v,g)|none=>some (x,g.set n (bU xs k x)))else none
 |_,_=>none
theorem Bz {X:Cx}(hu:X.A.units+64<cLine):MR X "dict" "setdefault" "dict.setdefault" fg iE where
 pa:=aee
 slot:=adv
 ty:=PySem.F.type_dict_setdefault
 is:=lj
 run:=by
  intro pins s σ H x xs v us Q I rx rs q
  obtain⟨ι,g,d,ds,d',g',G0,r1,rl,hT,q,p⟩:=q
  have A3:=(lj I G0 r1 rx hT).1
  unfold iE at q
  split at q
  . rename_i n k dy
    simp only[Rel]at r1
    obtain⟨a,rfl,ha⟩:=r1
    cases rx
    obtain⟨ys,hx,q⟩:=bind_some q
    split at q
    . rename_i hk
      simp only[Zn]at hk
      simp only[ao]at rl
      obtain⟨kv,_,rfl,rk,yv,_,rfl,ry,rfl⟩:=rl
      obtain⟨u,w',rfl,ru,rw_⟩:=vals2 rs
      refine aaa adv A3 PySem.F.entry_dict_setdefault ?_ (PySem.F.args_dict_setdefault_3 _ _ _)
      obtain⟨es,vs,c,hH,iV,dU,rv,hh,nd,sy,sz,rl⟩:=G0.lR hx ha
      have en:=Ent.of rv hh rl
      have hz:=aD.le hk.2
      rw[nB en]at hz
      have ho:=gp I hH
      unfold aby.«dict.setdefault» Builtin.Dict.keyAndDefault
      refine Zm (Zm (acY A3 ?_))
      refine Zm (Zp ?_)
      refine Zm (Zp ?_)
      refine Zm (Zp (Zp ?_))
      show wpAny _ _ (if(a == aa9)=true then _ else _) _ _ s
      rw[sy]
      show wpAny _ _ (dictSetDefault a u w' >>= _) _ _ s
      refine Zm ?_
      unfold dictSetDefault
      refine Z7 (Zm (mL k I hk.1 rk ru (by rw[in1_units];omega) λtk=>?_))
      refine Zm (nA (s:={ s with toks:=tk }) ho rfl (iB (I.tok tk) (by rw[in1_units];omega) en nd hk.1 rk ru) (λy'=>?_) (λi hi ht=>?_))
      . obtain⟨Xr,AY⟩:=en.none_ (key:=k) λi hi=>y' i (by simpa using hi)
        rw[Xr]at q
        cases q
        obtain⟨e1,e2⟩:=Ent.push (e:=⟨hD X.w k,u,w'⟩) hk.1 rfl rk ru ry rw_ en
        refine Zm (aba (Zm (aeT (hz:=by simpa using sz) (s:={ s with toks:=tk }) ho rfl (Zp (Zp ?_)))))
        have hg:(s.heap.update a (acA (·.push ⟨hD X.w k,u,w'⟩))).get? a=some { cls:=.type "dict",data:=.dict (es ++ [(⟨hD X.w k,u,w'⟩:ZX)]).toArray ((es ++ [(⟨hD X.w k,u,w'⟩:ZX)]).length-c) }:=by
         have q:=abg (h:=s.heap) (acA (·.push ⟨hD X.w k,u,w'⟩)) ho rfl
         rw[q];simp[acA];omega
        have Xs:(aT (bU ys k d')).Nodup:=by
         rw[AY,e2,aaD]
         refine⟨nd,by simp,λk1 uX k2 pY=>?_⟩
         simp at pY;subst pY
         rintro rfl
         obtain⟨i,hi,e⟩:=aax.mp uX
         have ig:i<es.length:=by rw[<- en.len];exact hi
         obtain⟨k3,kv,a1,b1,_,_,_,gg⟩:=en.at (Zq ig)
         rw[Zq hi,e]at b1
         cases b1
         have:=y' i (by simpa using ig)
         rw[gg,(iU _ _ hk.1 hk.1).mpr rfl]at this
         cases this
        have eI:=oU (tk:=tk) I hH hg (aa5 ..)
        refine⟨_,rfl,_,_,eI,rw_,?_⟩
        exact p _ ι _ (Ext.put ha hH) (oV G0 ha iV hH (by rw[AY];exact e1) Xs sy (by simp;omega) (by simp;omega)) (Rel.ext (Ext.put ha hH) _ ry)
      . have K:=iB (I.tok tk) (A:=X.A.in1) (by rw[in1_units];omega) en nd hk.1 rk ru
        obtain⟨e,v0,WI,h1,h2,h3,h4,_,h5⟩:=en.pW (key:=k) (by simpa using hi) ht λj hj y=>(K.un i j hi (by simpa using hj) ht y).symm
        rw[h2]at q
        cases q
        refine Zm (aa0 (s:={ s with toks:=tk }) ho rfl ?_)
        have:es.toArray[i]? = some e:=by simpa using h1
        rw[this]
        exact Zm (aba (Zp (Zp ⟨_,rfl,_,H,I.tok tk,h4,p H ι _ Ext.refl G0 h3⟩)))
    . cases q
  . cases q
noncomputable def lA (ds:List D)(g:G):Option (D×G):=match ds with
 | [.aI n]=>(g[n]?).map λxs=>(.int ((xs.length / 2:Nat):Int),g)
 |ds=>cu ds g
theorem len_dict {X:Cx}{pins:List (Addr×Obj)}{σ:L2.St}{H:Hp}{s:Zo}{A:ZV}{E:Value->Zo->Prop}{a:Addr}{es:List ZX}{c:Nat}{Q:Value->Zo->Prop}(I:Inv X pins σ H s)(hH:H a=some (dO a es c))(sy:(a == aa9)=false)(hz:es.length<=ZM)
  (h:∀tk xC,Q (.int es.length tk) { s with toks:=xC }):wpAny (model X.prog X.w) A (call (.builtin "len") [.ref a]) Q E s:=by
 have ho:=gp I hH
 have hT:=tS I hH
 have hl:(ZM:Int)<2 ^ 63:=by decide
 refine acB kind_len plain_len entry_len (args_len1 _) ?_
 unfold aby.«len»
 refine Zm (m:=oneArg "len" _) (Zp ?_)
 refine Zm (m:=callSpecial? (.ref a) (ZW "__len__")) (aav (name:=ZW "__len__") hT F.slot_dict_len
  (aaa F.slot_dict_len hT F.entry_dict_len ?_ (F.args_dict_len_1 _)))
 show wpAny _ _ (dictSize a >>= _) _ _ s
 unfold dictSize
 refine Zm (Zm (aa0 ho rfl (Zp ?_)))
 show wpAny _ _ (Builtin.Dict.pendingCount a >>= _) _ _ s
 refine Zm (wpAny_pendingCount_other sy ?_)
 refine wpAny_ret_mkInt ?_
 have ez:((es.toArray.size:Int)+((0:Nat):Int))=es.length:=by simp
 rw[ez]
 show wpAny _ _ _ _ _ { s with toks:=s.toks+1 }
 refine Zm (Z7 (Zp ?_))
 refine Zm (wpAny_letGo ?_)
 show wpAny _ _ (if((es.length:Nat):Int)<0 then _ else _) _ _ _
 rw[if_neg (by omega)]
 show wpAny _ _ (if((es.length:Nat):Int)>=2 ^ 63 then _ else _) _ _ _
 rw[if_neg (by omega)]
 exact Zm (afS (Zp ⟨_,rfl,h _ _⟩))
theorem Iw {X:Cx}:cz X (.builtin "len") (gH X.kw lA):=by
 intro pins s σ H xs us Q I r q
 obtain⟨ι,g,ds,d,g',G0,r1,q,p⟩:=q
 unfold lA at q
 split at q
 . rename_i n
   obtain⟨ys,hx,q⟩:=ZF.mp q
   cases q
   simp only[ao,Rel]at r1
   obtain⟨_,_,rfl,⟨a,rfl,ha⟩,rfl⟩:=r1
   obtain⟨u,rfl,ru⟩:=vals1 r
   cases ru
   obtain⟨es,vs,c,hH,iV,dU,rv,hh,nd,sy,sz,rl⟩:=G0.lR hx ha
   have en:=Ent.of rv hh rl
   have el:ys.length / 2=es.length:=by rw[nB en];omega
   exact len_dict I hH sy sz λtk xC=>⟨.int es.length,H,I.tok _,⟨tk,rfl⟩,p H ι _ Ext.refl G0 (by simp[Rel,el])⟩
 . exact AG pins s σ H xs us Q I r ⟨ι,g,_,d,g',G0,r1,q,p⟩
end L3
namespace RI
open PySem PySem.Spec PyProof.Rows L2 L3
noncomputable def lenOf (m:G0)(c:Cs)(x:Expr):Option Expr:=(qc x).bind λy=>if y.1 == ("len":Str)&&c.sc.names.lookup y.1 == some .globalImplicit&&m.iX.elem y.1 && !(isStar y.2)&&vF c y.2 then some y.2 else none
noncomputable def PR:lr where
 e:=λm c E _ x=>(lenOf m c x).map λa=>aq lA (aE E [a])
 vy:=by
  intro m c X E g hE rf x f h
  obtain⟨a,ha,rfl⟩:=ZF.mp h
  obtain⟨⟨t',y⟩,h1,hB⟩:=bind_some ha
  obtain⟨p,pos,rfl⟩:=pd h1
  dsimp only at hB
  split at hB
  . rename_i hh
    simp only[Zn,beq_iff_eq,Z2]at hh
    obtain⟨⟨⟨⟨rfl,h3⟩,h4⟩,h5⟩,_⟩:=hh
    cases hB
    exact uL Iw (g.bl _ (abt.mp h4)) agI (gB hE _) (g.gl h3) (by decide) (by decide) (bZ h5) rfl
  . cases hB
 t:=Bl
 tok:=by intro m c X E g hE x f h;cases h
noncomputable def DQ:nE:=⟨"setdefault",fg,iE,λhr=>⟨_,_,Bz hr.units⟩⟩
end RI
namespace L3
open PySem PySem.Spec PyProof.Rows L2 RI
section
variable {σ:Sg}{g:G}{fa fb fo fi:FE}{fr:FA}
@[simp] theorem VB {xs:List D}{d:D}:ax (.tup xs) d g=sH (.tup xs) d g:=rfl
@[simp] theorem VC {xs:List D}{d:D}:ax (.lst xs) d g=sH (.lst xs) d g:=rfl
@[simp] theorem VD {n:Nat}{d:D}:ax (.ref n) d g=sH (.ref n) d g:=rfl
@[simp] theorem VE {n:Nat}{d:D}:ax (.aI n) d g=(g[n]?).bind λxs=>if bD 6 d=true then(aW xs d).map λd=>(d,g)else none:=rfl
@[simp] theorem Ti {n:Nat}{i v:D}:kj (.ref n) i v g=putD (.ref n) i v g:=rfl
@[simp] theorem Tj {n:Nat}{i v:D}:kj (.aI n) i v g=(g[n]?).bind λxs=>if(bD 6 i&&j6 xs)=true then some (g.set n (bU xs i v))else none:=rfl
@[simp] theorem VF {v:D}:eR fo fi v σ g=(fo σ g).bind λr=>(fi σ r.2).bind λq=>(kj r.1 q.1 v q.2).map λg'=>(σ,g'):=rfl
@[simp] theorem xY {ij:D->Bool}{m:D->List D->G->Option (D×G)}:bX ij m fo fr σ g=(fo σ g).bind λr=>if ij r.1=true then(fr σ r.2).bind λq=>m r.1 q.1 q.2 else none:=rfl
@[simp] theorem Tn:hJ σ g=some (.aI g.length,g ++ [[]]):=rfl
@[simp] theorem VG {n:Nat}:fg (.aI n)=true:=rfl
@[simp] theorem VH {n:Nat}:isRef (.ref n)=true:=rfl
@[simp] theorem DR {xs:List D}:dB (.lst xs)=true:=rfl
@[simp] theorem Yw {n:Nat}{k:D}:i6 (.aI n) [k] g=(g[n]?).bind λxs=>if bD 6 k=true then some ((aW xs k).getD .az,g)else none:=rfl
@[simp] theorem Yx {n:Nat}{k x:D}:i6 (.aI n) [k,x] g=(g[n]?).bind λxs=>if bD 6 k=true then some ((aW xs k).getD x,g)else none:=rfl
@[simp] theorem Yy {n:Nat}{x:D}:cw (.ref n) [x] g=(g[n]?).bind λxs=>if aD (xs.length+1)=true then some (.az,g.set n (xs ++ [x]))else none:=rfl
@[simp] theorem VI {n:Nat}{i:Int}:bD n (.int i)=true:=by cases n<;>rfl
@[simp] theorem VJ {n:Nat}{d:D}:ou d (.aI n) g=(g[n]?).bind λxs=>if bD 6 d=true then some (aW xs d).isSome else none:=rfl
@[simp] theorem VL {d e:D}:hG d e g=(ou d e g).map λb=>(.bl b,g):=rfl
@[simp] theorem PU {d e:D}:gO d e g=(ou d e g).map λb=>(.bl (!b),g):=rfl
@[simp] theorem To:isFn .az=false:=rfl
@[simp] theorem VM {b:Bool}:isFn (.bl b)=false:=rfl
@[simp] theorem Tp {b:Int}:isFn (.int b)=false:=rfl
@[simp] theorem Tq {b:Str}:isFn (.str b)=false:=rfl
@[simp] theorem vQ {b:List D}:isFn (.tup b)=false:=rfl
@[simp] theorem Tr {b:List D}:isFn (.lst b)=false:=rfl
@[simp] theorem Ts:isFn .dA=false:=rfl
@[simp] theorem Tt {b:Nat}:isFn (.ref b)=false:=rfl
@[simp] theorem Tu {b:Nat}:isFn (.aI b)=false:=rfl
end
end L3
namespace Pd
open PySem L3 L2
noncomputable def BA:FS:=aG (dS (iy .int (aa 0)) (pL (iy .bool (aa 0))))
noncomputable def rC (whole:Fn):FS:=aG (dS (aq whole (af (aa 0) (ag))) (gU oLe oLe (aa 1) (aa 0) (aa 2)))
noncomputable def vR (within:Fn):FS:=aG (aq within (af (aa 0) (af (uG oP (aa 1)) (af (aa 1) (ag)))))
noncomputable def tupleOfB:FS:=aG (dS (iy .tuple (aa 0)) (gU oLe oLe (aa 1) (aq cu (af (aa 0) (ag))) (aa 2)))
noncomputable def Mn (vw:Fn):FS:=aG (aq vw (af (aa 0) (af (fC (.int 3)) (ag))))
noncomputable def xZ (Iy tupleOf vw:Fn):FS:=av (bq (gW (aF (aj oEq (aa 1) (fC (.int 0)))) (b5 (bN (iy .tuple (aa 0))))) (aG (aq Iy (af (aa 0) (af (fC (.int 999999999999)) (ag))))) (aL)) (av (bq (b5 (bN (aq tupleOf (af (aa 0) (af (fC (.int 0)) (af (fC (.int 8)) (ag))))))) (aG (fC (.bl false))) (aL)) (aG (aq eZ (af (aU aV (bu (aa 0)) [none,none,some 1] (gN 1) (aN) (aq vw (af (aa 1) (af (aj (aP a_ (· - ·)) (aa 2) (fC (.int 1))) (ag))))) (ag)))))
noncomputable def zp:FS:=av (aA (fC (.int 0)) (gN 2)) (av (bq (aF (aj oLt (aa 1) (aq cu (af (aa 0) (ag))))) (aA (aj ax (aa 0) (aa 1)) (gN 2)) (aL)) (aG (aO mkRef (af (aj b8 (aa 2) (aq fY (af (aj AH (aa 2) (aj (aP cN (λi j=>i ^ j.toNat)) (fC (.int 10)) (fC (.int 18)))) (ag)))) (af (aj aR (aj aR (aj (aP cC (· % ·)) (aa 2) (fC (.int 2305843009213693951))) (aj b8 (fC (.int 7919)) (aa 1))) (fC (.int 3))) (af (fC (.int 0)) (ag)))))))
noncomputable def zq:FS:=av (bq (aF (aj oo (aj ax (aa 0) (fC (.int 0))) (fC (.int 0)))) (av (aA (aj (aP cC (· % ·)) (aj ax (aa 0) (fC (.int 0))) (aa 1)) (gN 2)) (av (aA (aj (aP fM (· / ·)) (aj ax (aa 0) (fC (.int 0))) (aa 1)) (eR (aa 0) (fC (.int 0)))) (aG (aa 2)))) (aL)) (av (aA (aj aR (aj ax (aa 0) (fC (.int 2))) (fC (.int 1))) (eR (aa 0) (fC (.int 2)))) (av (aA (aj ax (aa 0) (fC (.int 2))) (gN 3)) (av (aA (aj (aP cC (· % ·)) (aj b8 (aj ax (aa 0) (fC (.int 1))) (aj aR (aj aR (fC (.int 48271)) (aj b8 (aj b8 (fC (.int 2)) (aa 3)) (aa 3))) (aj b8 (fC (.int 65537)) (aa 3)))) (fC (.int 2305843009213693921))) (gN 4)) (av (aA (aj aR (aj aR (aj (aP cC (· % ·)) (aa 4) (fC (.int 1000003))) (aj b8 (aa 3) (fC (.int 99991)))) (fC (.int 11))) (gN 5)) (av (aA (aj (aP cC (· % ·)) (aj b8 (aa 4) (aa 5)) (fC (.int 2305843009213693907))) (gN 4)) (aG (aj (aP cC (· % ·)) (aj aR (aj (aP fM (· / ·)) (aa 4) (fC (.int 97))) (aj (aP fM (· / ·)) (aa 4) (fC (.int 1000033)))) (aa 1))))))))
noncomputable def Fv (take:Fn):FS:=aG (aj ax (aa 1) (aq take (af (aa 0) (af (aq cu (af (aa 1) (ag))) (ag)))))
noncomputable def isWhole:D->Bool
 |.int _=>true
 |_=>false
noncomputable def within (d:D)(a b:Int):Bool:=match d with|.int i=>decide (a<=i)&&decide (i<=b)|_=>false
noncomputable def dC (d:D)(a b:Int):Bool:=match d with|.tup xs=>decide (a<=(xs.length:Int))&&decide ((xs.length:Int)<=b)|_=>false
noncomputable def j_ (d:D):Bool:=within d (-999999999999) 999999999999
noncomputable def isVal:Nat->D->Bool
 | 0,d=>j_ d
 |n+1,.tup xs=>decide (xs.length<=8)&&xs.all (isVal n)
 |_+1,d=>j_ d
mutual
noncomputable def nf:D->Bool
 |.fn _=>false
 |.tup xs=>qd xs
 |_=>true
noncomputable def qd:List D->Bool
 | []=>true
 |d::ds=>nf d&&qd ds
end
theorem tW {d:D}(h:nf d=true):isFn d=false:=by cases d<;>first|rfl|cases h
theorem rE:∀{xs:List D},qd xs=true->∀d∈xs,nf d=true
 | [],_,d,hd=>by simp at hd
 |x::xs,h,d,hd=>by
  simp only[qd,Zn]at h
  rcases ZE.mp hd with rfl|hd
  . exact h.1
  . exact rE h.2 d hd
def rF (f:Fn):Prop:=∀d g,isFn d=false->f [d] g=some (.bl (isWhole d),g)
def lB (f:Fn):Prop:=∀d a b g,isFn d=false->f [d,.int a,.int b] g=some (.bl (within d a b),g)
def iY (f:Fn):Prop:=∀d a g,isFn d=false->f [d,.int a] g=some (.bl (within d (-a) a),g)
def eK (f:Fn):Prop:=∀d a b g,isFn d=false->f [d,.int a,.int b] g=some (.bl (dC d a b),g)
def vS (f:Fn)(n:Nat):Prop:=∀d g,nf d=true->f [d,.int n] g=some (.bl (isVal n d),g)
def zr (f:Fn):Prop:=∀d g,nf d=true->f [d] g=some (.bl (isVal 3 d),g)
theorem DU:rF (aC false 1 1 BA):=λd g hd=>by
 refine bQ (σ':=[some d]) rfl ?_ rfl
 cases d<;>first| (simp[BA,gK,isWhole];done)|cases hd
theorem BC {w:Fn}(hw:rF w):lB (aC false 3 3 (rC w)):=λd a b g hd=>by
 refine bQ (σ':=[some d,some (.int a),some (.int b)]) rfl ?_ rfl
 cases d with
 |int i =>
  simp[rC,hw (.int i) g hd,isWhole,within]
  by_cases h:a<=i<;>simp[h]
 |fn x=>cases hd
 |_=>simp[rC,hw _ g hd,isWhole,within]
theorem zt {w:Fn}(hw:lB w):iY (aC false 2 2 (vR w)):=λd a g hd=>by
 refine bQ (σ':=[some d,some (.int a)]) rfl ?_ rfl
 simp[vR,hw d (-a) a g hd]
theorem zu:eK (aC false 3 3 tupleOfB):=λd a b g hd=>by
 refine bQ (σ':=[some d,some (.int a),some (.int b)]) rfl ?_ rfl
 cases d with
 |tup xs =>
  simp[tupleOfB,gK,dC]
  by_cases h:a<=(xs.length:Int)<;>simp[h]
 |fn x=>cases hd
 |_=>simp[tupleOfB,gK,dC]
theorem Mp {f t v:Fn}(hf:iY f):vS (aC false 2 2 (xZ f t v)) 0:=λd g hd=>by
 refine bQ (σ':=[some d,some (.int 0)]) rfl ?_ rfl
 simp[xZ,hf d _ g (tW hd),isVal,j_]
theorem Mq {f t v:Fn}{n:Nat}(hf:iY f)(ht:eK t)(hv:vS v n):vS (aC false 2 2 (xZ f t v)) (n+1):=λd g hd=>by
 refine bQ (σ':=[some d,some (.int ((n:Int)+1))]) rfl ?_ rfl
 have hn:¬((n:Int)+1=0):=by omega
 cases d with
 |tup xs =>
  by_cases h:xs.length<=8
  . have hz:xs.length<=16777216:=by omega
    have h8:(xs.length:Int)<=8:=by omega
    have h9:(0:Int)<=(xs.length:Int):=by omega
    have e:=eO (t:=gN 1) (c:=aN) (e:=aq v (af (aa 1) (af (aj (aP a_ (· - ·)) (aa 2) (fC (.int 1))) ag))) (h:=λd=>D.bl (isVal n d)) (λσ=>∃o,σ = [none,o,some (.int ((n:Int)+1))]) xs [none,none,some (.int ((n:Int)+1))] g ⟨_,rfl⟩ (by
     rintro d hm σ ⟨o,rfl⟩
     refine⟨[none,some d,some (.int ((n:Int)+1))],by simp,by simp,?_,⟨_,rfl⟩⟩
     have e1:((n:Int)+1-1)=n:=by omega
     simp[e1,hv d g (rE hd d hm)])
    simp[xZ,gK,hn,ht _ _ _ _ vQ,isVal,h,h8,hz,e,dX,dC]
  . have h8:¬(xs.length:Int)<=8:=by omega
    simp[xZ,gK,hn,ht _ _ _ _ vQ,isVal,h,h8,dC]
 |fn x=>cases hd
 |_=>simp[xZ,gK,hn,hf _ _ g (tW hd),isVal,j_]
theorem Mr {v:Fn}(hv:vS v 3):zr (aC false 1 1 (Mn v)):=λd g hd=>by
 refine bQ (σ':=[some d]) rfl ?_ rfl
 have e:=hv d g hd
 simp at e
 simp[Mn,e]
theorem gP {i j:Int}(h1:-(2 ^ 64)<i)(h2:i<2 ^ 64):cT i j=true:=by
 unfold cT
 rw[aag]
 exact .inl (abh (by omega))
theorem nH {i j:Int}(h1:-(2 ^ 64)<j)(h2:j<2 ^ 64):cT i j=true:=by
 unfold cT
 rw[aag]
 exact .inr (abh (by omega))
theorem pe {i j:Int}(h1:0<j)(h2:j<1073741824):fM i j=true:=by
 unfold fM
 rw[Zn]
 exact⟨abh (by omega),abh (by omega)⟩
theorem iF {i j:Int}(h1:0<j):cC i j=true:=abh (by omega)
def Hd (g:G)(n:Nat)(B:Int):Prop:=∃a b c:Int,g[n]? = some [.int a,.int b,.int c]/\0<=a/\0<=b/\b<2 ^ 62/\0<=c/\c<=B
theorem Hd.mono {g n B B'}(h:Hd g n B)(hb:B<=B'):Hd g n B':=let⟨a,b,c,h1,h2,h3,h4,h5,h6⟩:=h;⟨a,b,c,h1,h2,h3,h4,h5,by omega⟩
theorem Hd.lt {g n B}(h:Hd g n B):n<g.length:=let⟨_,_,_,h1,_⟩:=h;(Zs.mp h1).1
def Fr (n:Nat)(g g':G):Prop:=g'.length=g.length /\ ∀j,j≠n->g'[j]? = g[j]?
theorem Fr.refl {n g}:Fr n g g:=⟨rfl,λ_ _=>rfl⟩
theorem Fr.trans {n g g1 g2}(a:Fr n g g1)(b:Fr n g1 g2):Fr n g g2:=⟨b.1.trans a.1,λj h=>(b.2 j h).trans (a.2 j h)⟩
theorem Fr.set {n:Nat}{g:G}{xs:List D}:Fr n g (g.set n xs):=⟨by simp,λj h=>by rw[Z6 (acb h)]⟩
theorem Q5 {a b c:D}:d6 [a,b,c] 0=some a:=rfl
theorem EY {a b c:D}:d6 [a,b,c] 1=some b:=rfl
theorem at2 {a b c:D}:d6 [a,b,c] 2=some c:=rfl
theorem Tv {g:G}{n:Nat}{a b c v:D}(h:g[n]? = some [a,b,c]):putD (.ref n) (.int 0) v g=some (g.set n [v,b,c]):=by unfold putD;simp only[h];rfl
theorem put2 {g:G}{n:Nat}{a b c v:D}(h:g[n]? = some [a,b,c]):putD (.ref n) (.int 2) v g=some (g.set n [a,b,v]):=by unfold putD;simp only[h];rfl
def dZ (f:Fn):Prop:=∀(n:Nat) (m:Int) (g:G) (B:Int),B<2 ^ 40->0<m->m<1073741824->Hd g n B ->
 ∃r g',f [.ref n,.int m] g=some (.int r,g')/\0<=r/\r<m/\Hd g' n (B+1)/\Fr n g g'
theorem Iz:dZ (aC false 6 2 zq):=λn m g B hB hm u7 h=>by
 obtain⟨a,b,c,hg,ha,hb,jR,hc,Y9⟩:=h
 have hn:n<g.length:=(Zs.mp hg).1
 by_cases h0:0<a
 . refine⟨a % m,g.set n [.int (a / m),.int b,.int c],bQ (σ':=[some (.ref n),some (.int m),some (.int (a % m)),none,none,none]) rfl ?_ (by simp),adj _ (by omega),acG _ hm,⟨a / m,b,c,by simp[hn],Int.ediv_nonneg ha (by omega),hb,jR,hc,by omega⟩,Fr.set⟩
   simp[zq,hg,Q5,h0,iF hm,pe hm u7,Tv hg]
 . have e2:(g.set n [.int a,.int b,.int (c+1)])[n]? = some [.int a,.int b,.int (c+1)]:=by simp[hn]
   generalize hx:b*(48271+2*(c+1)*(c+1)+65537*(c+1)) % 2305843009213693921=x
   have Q6:0<=x:=by rw[<- hx];exact adj _ (by decide)
   have Y_:x<2305843009213693921:=by rw[<- hx];exact acG _ (by decide)
   generalize hy:x*(x % 1000003+(c+1)*99991+11) % 2305843009213693907=y
   refine⟨(y / 97+y / 1000033) % m,g.set n [.int a,.int b,.int (c+1)],bQ (σ':=[some (.ref n),some (.int m),none,some (.int (c+1)),some (.int y),some (.int (x % 1000003+(c+1)*99991+11))]) rfl ?_ (by simp),adj _ (by omega),acG _ hm,⟨a,b,c+1,e2,ha,hb,jR,by omega,by omega⟩,Fr.set⟩
   have m1:cT 2 (c+1)=true:=gP (by decide) (by decide)
   have m2:cT (2*(c+1)) (c+1)=true:=nH (by omega) (by omega)
   have m3:cT 65537 (c+1)=true:=gP (by decide) (by decide)
   have m4:cT b (48271+2*(c+1)*(c+1)+65537*(c+1))=true:=gP (by omega) (by omega)
   have m5:cT (c+1) 99991=true:=nH (by decide) (by decide)
   have m6:cT x (x % 1000003+(c+1)*99991+11)=true:=gP (by omega) (by omega)
   have d1:cC (b*(48271+2*(c+1)*(c+1)+65537*(c+1))) 2305843009213693921=true:=iF (by decide)
   have d2:cC x 1000003=true:=iF (by decide)
   have d3:cC (x*(x % 1000003+(c+1)*99991+11)) 2305843009213693907=true:=iF (by decide)
   have d4:cC (y / 97+y / 1000033) m=true:=iF hm
   have q1:fM y 97=true:=pe (by decide) (by decide)
   have q2:fM y 1000033=true:=pe (by decide) (by decide)
   simp[zq,hg,Q5,EY,at2,h0,put2 hg,e2,m1,m2,m3,m4,m5,m6,d1,d2,d3,d4,q1,q2,hx,hy]
theorem dZ.w {f:Fn}(h:dZ f){n:Nat}{m:Int}{g:G}{B:Int}{Q:D×G->Prop}(hB:B<2 ^ 40)(hm:0<m)(u7:m<1073741824)(hh:Hd g n B)(q:∀r g',0<=r->r<m->Hd g' n (B+1)->Fr n g g'->Q (.int r,g')):wp (f [.ref n,.int m] g) Q:=by
 obtain⟨r,g',e,r0,r1,h1,l1⟩:=h n m g B hB hm u7 hh
 exact⟨_,e,q r g' r0 r1 h1 l1⟩
def gw (f:Fn):Prop:=∀(n:Nat) (xs:List D) (g:G) (B:Int),B<2 ^ 40->xs ≠ []->xs.length<1000->Hd g n B ->
 ∃d g',f [.ref n,.lst xs] g=some (d,g')/\d∈xs/\Hd g' n (B+1)/\Fr n g g'
theorem IA {t:Fn}(ht:dZ t):gw (aC false 2 2 (Fv t)):=λn xs g B hB hx hl h=>by
 have h1:0<xs.length:=afa.mpr hx
 obtain⟨r,g',e,r0,r1,h',LY⟩:=ht n (xs.length:Int) g B hB (by omega) (by omega) h
 have hr:r.toNat<xs.length:=by omega
 have ha:d6 xs r=some xs[r.toNat]:=by
  unfold d6 kB
  rw[if_pos r0,if_pos r1]
  exact Zq hr
 refine⟨xs[r.toNat],g',bQ (σ':=[some (.ref n),some (.lst xs)]) rfl ?_ LY.1,aau hr,h',LY⟩
 simp[Fv,e,ha]
theorem gw.w {f:Fn}(h:gw f){n:Nat}{xs:List D}{g:G}{B:Int}{Q:D×G->Prop}(hB:B<2 ^ 40)(hx:xs ≠ [])(hl:xs.length<1000)(hh:Hd g n B)(q:∀d g',d∈xs->Hd g' n (B+1)->Fr n g g'->Q (d,g')):wp (f [.ref n,.lst xs] g) Q:=by
 obtain⟨d,g',e,r0,h1,l1⟩:=h n xs g B hB hx hl hh
 exact⟨_,e,q d g' r0 h1 l1⟩
theorem Q7:cN 10 18=true:=by decide
def qf (f:Fn):Prop:=∀(ns:List Int) (i:Nat) (g:G),i<=100->∃xs,f [.lst (ns.map .int),.int i] g=some (.ref g.length,g ++ [xs])/\Hd (g ++ [xs]) g.length 0
section
variable {σ σ1:Sg}{g g1:G}{f:FE}{f1 f2:FS}{c:FT}{d:D}
theorem qg (h:f1 σ g=some (.nx,σ1,g1)):av f1 f2 σ g=f2 σ1 g1:=by rw[bV,h];rfl
theorem zv {i:Nat}(h:f σ g=some (d,g1)):aA f (gN i) σ g=some (.nx,σ.set i (some d),g1):=by rw[HK,h];rfl
theorem Tw (h:c σ g=some (true,g1)):bq c f1 f2 σ g=f1 σ g1:=by rw[fE,h];rfl
theorem Tx (h:c σ g=some (false,g1)):bq c f1 f2 σ g=f2 σ g1:=by rw[fE,h];rfl
end
theorem aK {n:Nat}(h:n<=1000):aD n=true:=by
 rw[HJ]
 exact decide_eq_true (by omega)
theorem IB:qf (aC true 3 2 zp):=λns i g hi=>by
 have fin:∀cell:Int,∃xs,(aG (aO mkRef (af (aj b8 (aa 2) (aq fY (af (aj AH (aa 2) (aj (aP cN (λi j=>i ^ j.toNat)) (fC (.int 10)) (fC (.int 18)))) (ag)))) (af (aj aR (aj aR (aj (aP cC (· % ·)) (aa 2) (fC (.int 2305843009213693951))) (aj b8 (fC (.int 7919)) (aa 1))) (fC (.int 3))) (af (fC (.int 0)) (ag)))))) [some (.lst (ns.map .int)),some (.int i),some (.int cell)] g=some (.rt (.ref g.length),[some (.lst (ns.map .int)),some (.int i),some (.int cell)],g ++ [xs])/\Hd (g ++ [xs]) g.length 0:=by
   intro cell
   have q0:0<=cell % 2305843009213693951:=adj _ (by decide)
   have q1:cell % 2305843009213693951<2305843009213693951:=acG _ (by decide)
   have d1:cC cell 2305843009213693951=true:=iF (by decide)
   have m2:cT 7919 (i:Int)=true:=gP (by decide) (by decide)
   by_cases hc:1000000000000000000<=cell
   . have m1:cT cell 1=true:=nH (by decide) (by decide)
     refine⟨[.int cell,.int (cell % 2305843009213693951+7919*i+3),.int 0],by simp[Q7,hc,m1,m2,d1],?_⟩
     exact⟨cell,cell % 2305843009213693951+7919*i+3,0,by simp,by omega,by omega,by omega,by omega,by omega⟩
   . have m1:cT cell 0=true:=nH (by decide) (by decide)
     refine⟨[.int 0,.int (cell % 2305843009213693951+7919*i+3),.int 0],by simp[Q7,hc,m1,m2,d1],?_⟩
     exact⟨0,cell % 2305843009213693951+7919*i+3,0,by simp,by omega,by omega,by omega,by omega,by omega⟩
 by_cases h:i<ns.length
 . obtain⟨xs,e,hx⟩:=fin ns[i]
   refine⟨xs,xu (σ':=[some (.lst (ns.map .int)),some (.int i),some (.int ns[i])]) rfl ?_,hx⟩
   unfold zp
   refine(qg (zv (d:=.int 0) (g1:=g) rfl)).trans ?_
   refine(qg (σ1:=[some (.lst (ns.map .int)),some (.int i),some (.int ns[i])]) (g1:=g) ((Tw (g1:=g) ?_).trans (zv ?_))).trans e
   . have:(i:Int)<(ns.length:Int):=by omega
     simp[this]
   . have ha:d6 (ns.map D.int) (i:Int)=some (.int ns[i]):=Hf (by simp[h])
     simp[ha]
 . obtain⟨xs,e,hx⟩:=fin 0
   refine⟨xs,xu (σ':=[some (.lst (ns.map .int)),some (.int i),some (.int 0)]) rfl ?_,hx⟩
   unfold zp
   refine(qg (zv (d:=.int 0) (g1:=g) rfl)).trans ?_
   refine(qg (σ1:=[some (.lst (ns.map .int)),some (.int i),some (.int 0)]) (g1:=g) ((Tx (g1:=g) ?_).trans rfl)).trans e
   have:¬(i:Int)<(ns.length:Int):=by omega
   simp[this]
noncomputable def cost:Nat->Int
 | 0=>3
 |n+1=>4+8*(1+cost n)
def x4 (f:Fn)(dp:Nat):Prop:=∀(n:Nat) (g:G) (B:Int),0<=B->B+cost dp<2 ^ 40->Hd g n B->∃d g',f [.ref n,.int dp] g=some (d,g')/\isVal dp d=true/\Hd g' n (B+cost dp)/\Fr n g g'
theorem x4.w {f:Fn}{dp:Nat}(h:x4 f dp){n:Nat}{g:G}{B:Int}{Q:D×G->Prop}(Xt:0<=B)(hB:B+cost dp<2 ^ 40)(hh:Hd g n B)(q:∀d g',isVal dp d=true->Hd g' n (B+cost dp)->Fr n g g'->Q (d,g')):wp (f [.ref n,.int dp] g) Q:=by
 obtain⟨d,g',e,r0,h1,l1⟩:=h n g B Xt hB hh
 exact⟨_,e,q d g' r0 h1 l1⟩
theorem qf.w {f:Fn}(h:qf f){ns:List Int}{i:Nat}{g:G}{Q:D×G->Prop}(hi:i<=100)(q:∀xs,Hd (g ++ [xs]) g.length 0->Q (.ref g.length,g ++ [xs])):wp (f [.lst (ns.map .int),.int i] g) Q:=by
 obtain⟨xs,e,hx⟩:=h ns i g hi
 exact⟨_,e,q xs hx⟩
noncomputable def cU (i:Int)(n:Nat):List D:=(Zx n).map λ(k:Nat)=>D.int (i+k)
theorem gQ {i n}:(cU i n).length=n:=by simp[cU]
theorem nJ {fr:FA}{σ:Sg}{g:G}{Q:List D×G->Prop}(h:wp (fr σ g) λr=>∃j:Int,r.1 = [.int j] /\ -1000000<=j/\j<=1000000/\Q (cU 0 j.toNat,r.2)):wp (fS fr σ g) Q:=by
 obtain⟨⟨ds,g'⟩,e,j,rfl,h1,h2,q⟩:=h
 refine⟨_,?_,q⟩
 unfold fS
 rw[e]
 simp only[Zv]
 rw[if_pos (gI.of h1 h2)]
 rfl
theorem PV {fr:FA}{σ:Sg}{g:G}{Q:List D×G->Prop}(h:wp (fr σ g) λr=>∃i j:Int,r.1 = [.int i,.int j]/\(-1000000<=i/\i<=1000000)/\(-1000000<=j/\j<=1000000)/\Q (cU i (j-i).toNat,r.2)):wp (sD fr σ g) Q:=by
 obtain⟨⟨ds,g'⟩,e,i,j,rfl,h1,h2,q⟩:=h
 refine⟨_,?_,q⟩
 unfold sD
 rw[e]
 simp only[Zv]
 rw[if_pos (by rw[gI.of h1.1 h1.2,gI.of h2.1 h2.2];rfl)]
 rfl
theorem IC {i:Int}{n j:Nat}{d:D}(h:(cU i n)[j]? = some d):j<n/\d = .int (i+j):=by
 unfold cU at h
 rw[Z1]at h
 cases hj:(Zx n)[j]? with
 |none=>rw[hj]at h;cases h
 |some x =>
  rw[hj]at h
  have hl:=(Zs.mp hj).1
  have:x=j:=by rw[ae6 (by simpa using hl)]at hj;cases hj;rfl
  subst this
  cases h
  exact⟨by simpa using hl,rfl⟩
theorem lC {n j:Nat}{d:D}(h:(cU 0 n)[j]? = some d):j<n/\d = .int j:=by
 obtain⟨h1,rfl⟩:=IC h
 exact⟨h1,by simp⟩
theorem rG {nN nP:Nat}{b:FS}{ds:List D}{g:G}{Q:D×G->Prop}(hl:ds.length=nP)(h:wp (b (ds.map some++ZR (nN-nP) none) g) λr=>∃(k:Nat) (xs:List D),r.1 = .rt (.ref k)/\g.length<=k/\r.2.2[k]? = some xs/\aY g.length xs=true/\(r.2.2.take g.length).all (aY g.length)=true/\Q (.lst xs,r.2.2.take g.length)):wp (aC false nN nP b ds g) Q:=by
 obtain⟨⟨r,σ,g'⟩,e,k,xs,rfl,h1,h2,h3,h4,q⟩:=h
 dsimp only at *
 unfold aC
 rw[if_pos hl,e]
 have h5:k<g'.length:=(Zs.mp h2).1
 refine⟨_,?_,q⟩
 have z1:¬g'.length=g.length:=by omega
 have z2:¬k<g.length:=by omega
 simp only[Zv,ZG,if_false]
 unfold L3.settle
 rw[if_neg z1,if_pos h4]
 dsimp only
 rw[if_neg z2,h2]
 simp only[h3,if_true]
def Clean (g:G):Prop:=∀xs∈g,∀n,aY n xs=true
theorem Clean.fr {n:Nat}{g g':G}{B:Int}(hc:Clean g)(f:Fr n g g')(h:Hd g' n B):Clean g':=by
 intro xs hx m
 obtain⟨j,hj⟩:=aaq.mp hx
 by_cases e:j=n
 . subst e
   obtain⟨a,b,c,h1,_⟩:=h
   rw[h1]at hj
   cases hj
   simp[aY,bz]
 . rw[f.2 j e]at hj
   exact hc xs (aaq.mpr ⟨j,hj⟩) m
theorem Clean.app {g:G}{xs:List D}{B:Int}(hc:Clean g)(h:Hd (g ++ [xs]) g.length B):Clean (g ++ [xs]):=by
 obtain⟨a,b,c,h1,_⟩:=h
 simp at h1
 subst h1
 intro ys hy m
 rcases Zw.mp hy with hy|hy
 . exact hc ys hy m
 . simp at hy
   subst hy
   simp[aY,bz]
theorem Clean.all {g:G}(hc:Clean g)(n:Nat):g.all (aY n)=true:=ZH.mpr λxs hx=>hc xs hx n
theorem cF {n:Nat}:∀{xs:List D},(∀x∈xs,bz n x=true)->aY n xs=true
 | [],_=>rfl
 |x::xs,h=>by
  simp only[aY,Zn]
  exact⟨h x (by simp),cF λy hy=>h y (by simp[hy])⟩
theorem DV {n:Nat}(is:List Int):aY n (is.map D.int)=true:=cF λx hx=>by
 simp only[Zu]at hx
 obtain⟨i,_,rfl⟩:=hx
 rfl
theorem eH {xs:List D}{n:Nat}{d:D}(h:xs[n]? = some d):d6 xs (n:Int)=some d:=by
 have hl:=(Zs.mp h).1
 have h1:(0:Int)<=n:=by omega
 have h2:(n:Int)<(xs.length:Int):=by omega
 unfold d6 kB
 rw[if_pos h1,if_pos h2]
 simpa using h
structure Mk (g gg:G)(n:Nat)(B:Int)(xs:List D):Prop where
 hd:Hd gg n B
 lt:n<g.length
 len:gg.length=g.length+1
 at_:gg[g.length]? = some xs
 old:∀j,j≠n->j<g.length->gg[j]? = g[j]?
theorem Mk.init {g:G}{n:Nat}{B:Int}{xs:List D}(h:Hd g n B):Mk g (g ++ [xs]) n B xs:=by
 have hl:=h.lt
 obtain⟨a,b,c,h1,h2⟩:=h
 exact⟨⟨a,b,c,by rw[ZL hl];exact h1,h2⟩,hl,by simp,by simp,λj _ hj=>ZL hj⟩
theorem Mk.step {g gg g':G}{n:Nat}{B B':Int}{xs:List D}(m:Mk g gg n B xs)(h:Hd g' n B')(f:Fr n gg g'):Mk g g' n B' xs:=by
 have:=m.lt
 exact⟨h,m.lt,by rw[f.1];exact m.len,by rw[f.2 _ (by omega)];exact m.at_,λj hj hl=>by rw[f.2 j hj];exact m.old j hj hl⟩
theorem Mk.put {g gg:G}{n:Nat}{B:Int}{xs ys:List D}(m:Mk g gg n B xs):Mk g (gg.set g.length ys) n B ys:=by
 have h1:=m.lt
 have h2:=m.len
 obtain⟨a,b,c,h3,h4⟩:=m.hd
 refine⟨⟨a,b,c,by rw[Z6 (by omega)];exact h3,h4⟩,h1,by simp[h2],by simp[h2],λj hj hl=>by rw[Z6 (by omega)];exact m.old j hj hl⟩
theorem Mk.mono {g gg:G}{n:Nat}{B B':Int}{xs:List D}(m:Mk g gg n B xs)(h:B<=B'):Mk g gg n B' xs:=⟨m.hd.mono h,m.lt,m.len,m.at_,m.old⟩
theorem Mk.fin {g gg:G}{n:Nat}{B:Int}{xs:List D}(m:Mk g gg n B xs):Hd (gg.take g.length) n B/\Fr n g (gg.take g.length):=by
 have h1:=m.lt
 have h2:=m.len
 obtain⟨a,b,c,h3,h4⟩:=m.hd
 refine⟨⟨a,b,c,by rw[Z4 h1];exact h3,h4⟩,by simp[h2],λj hj=>?_⟩
 by_cases hl:j<g.length
 . rw[Z4 hl];exact m.old j hj hl
 . rw[Z3 (by simp;omega),Z3 (by omega)]
structure hZ (g gg:G)(n:Nat)(B:Int)(xs:List D):Prop where
 hd:Hd gg n B
 lt:n<g.length
 len:g.length+1<=gg.length
 at_:gg[g.length]? = some xs
 old:∀j,j≠n->j<g.length->gg[j]? = g[j]?
theorem hZ.step {g gg g':G}{n:Nat}{B B':Int}{xs:List D}(m:hZ g gg n B xs)(h:Hd g' n B')(f:Fr n gg g'):hZ g g' n B' xs:=by
 have:=m.lt
 exact⟨h,m.lt,by rw[f.1];exact m.len,by rw[f.2 _ (by omega)];exact m.at_,λj hj hl=>by rw[f.2 j hj];exact m.old j hj hl⟩
theorem hZ.put {g gg:G}{n:Nat}{B:Int}{xs ys:List D}(m:hZ g gg n B xs):hZ g (gg.set g.length ys) n B ys:=by
 have h1:=m.lt
 have h2:=m.len
 obtain⟨a,b,c,h3,h4⟩:=m.hd
 refine⟨⟨a,b,c,by rw[Z6 (by omega)];exact h3,h4⟩,h1,by simp[h2],?_,λj hj hl=>by rw[Z6 (by omega)];exact m.old j hj hl⟩
 rw[aay (by omega)]
theorem hZ.mono {g gg:G}{n:Nat}{B B':Int}{xs:List D}(m:hZ g gg n B xs)(h:B<=B'):hZ g gg n B' xs:=⟨m.hd.mono h,m.lt,m.len,m.at_,m.old⟩
theorem hZ.inner {g gg g3:G}{n:Nat}{B B':Int}{xs ys:List D}(m:hZ g gg n B xs)(k:Mk gg g3 n B' ys):hZ g g3 n B' xs:=by
 have h1:=m.lt
 have h2:=m.len
 have h3:=k.len
 exact⟨k.hd,h1,by omega,by rw[k.old _ (by omega) (by omega)];exact m.at_,λj hj hl=>by rw[k.old j hj (by omega)];exact m.old j hj hl⟩
theorem hZ.fin {g gg:G}{n:Nat}{B:Int}{xs:List D}(m:hZ g gg n B xs):Hd (gg.take g.length) n B/\Fr n g (gg.take g.length):=by
 have h1:=m.lt
 have h2:=m.len
 obtain⟨a,b,c,h3,h4⟩:=m.hd
 refine⟨⟨a,b,c,by rw[Z4 h1];exact h3,h4⟩,by simp;omega,λj hj=>?_⟩
 by_cases hl:j<g.length
 . rw[Z4 hl];exact m.old j hj hl
 . rw[Z3 (by simp;omega),Z3 (by omega)]
theorem ID {i:Nat}{d:D}{σ:Sg}{g:G}{q:Sg×G}(h:gN i d σ g=some q):q.2=g:=by
 unfold gN at h
 cases h
 rfl
end Pd
namespace Pd
open PySem L3 L2 RI
noncomputable def x5:FS:=aG (dS (aj cD (aj ax (aa 0) (fC (.int 3))) (fC .az)) (aj oLe (aj ax (aa 0) (fC (.int 3))) (aj ax (aa 1) (fC (.int 2)))))
noncomputable def tX (p:Int):D->Bool
 |.tup [.str x]=>x == "look"
 |.tup [.str x,q,v]=>x == "put" && (within q 0 (p-1)&&isVal 3 v)
 |_=>false
noncomputable def iZ:D->Bool
 |.az=>true
 |_=>false
noncomputable def mQ (b e:D):Bool:=match b with
 |.int i=>decide (0<=i)&&(match e with|.az=>true|.int j=>decide (i<j)|_=>false)
 |_=>false
noncomputable def jl (p:Int):D->Bool
 |.tup xs=>decide ((xs.length:Int)=p)&&xs.all (isVal 3)
 |_=>false
noncomputable def bJ:D->Bool
 |.tup (.str x::_)=>x == "look"
 |_=>false
noncomputable def rH (p:Int):D->Bool
 |.tup [h,dd,b,e,t]=>within h 0 9&&(tX p dd&&mQ b e)&&(if bJ dd && !iZ e then jl p t else iZ t)
 |_=>false
theorem dF {x:D}{xs:List D}:d6 (x::xs) 0=some x:=eH (n:=0) rfl
theorem fJ {x y:D}{xs:List D}:d6 (x::y::xs) 1=some y:=eH (n:=1) rfl
theorem pf {x y z:D}{xs:List D}:d6 (x::y::z::xs) 2=some z:=eH (n:=2) rfl
theorem vT {x y z w:D}{xs:List D}:d6 (x::y::z::w::xs) 3=some w:=eH (n:=3) rfl
theorem lD {x y z w v:D}{xs:List D}:d6 (x::y::z::w::v::xs) 4=some v:=eH (n:=4) rfl
theorem eq_str {x y:Str}:aH (.str x) (.str y)=(x == y):=by simp[aH]
theorem vU {t:FG}{c:FT}{e:FE}{cB:D->Bool}{h:D->D}(I:Sg->Prop):∀(ds:List D) (σ:Sg) (g:G),I σ->(∀d∈ds,∀σ,I σ->∃σ1,t d σ g=some (σ1,g)/\c σ1 g=some (cB d,g)/\(cB d=true->e σ1 g=some (h d,g))/\I σ1)->b6 t c e ds σ g=some ((ds.filter cB).map h,g)
 | [],_,_,_,_=>rfl
 |d::ds,σ,g,hi,hh=>by
  obtain⟨σ1,h1,h2,h3,h4⟩:=hh d ZO σ hi
  have ih:=vU I ds σ1 g h4 λx hx=>hh x (ZQ _ hx)
  cases hc:cB d with
  |true =>
   rw[hc]at h2
   simp only[b6,h1,h2,h3 hc,Zv,if_true,ih,abd,hc,ZT]
  |false =>
   rw[hc]at h2
   simp only[b6,h1,h2,Zv,ZG,if_false,ih,abd,hc]
noncomputable def eD:Option Int->D
 |none=>.az
 |some e=>.int e
structure lE (p:Int)(d:D)(h:Int)(dd:D)(b:Int)(e:Option Int)(tl:D):Prop where
 eq:d = .tup [.int h,dd,.int b,eD e,tl]
 h0:0<=h
 h9:h<=9
 dd_:tX p dd=true
 b0:0<=b
 eb:∀x,e=some x->b<x
theorem x6 {p:Int}{d:D}(hr:rH p d=true):∃h dd b e tl,lE p d h dd b e tl:=by
 unfold rH at hr
 split at hr
 . rename_i h dd b e tl
   simp only[Zn]at hr
   obtain⟨⟨h1,h2,h3⟩,hz⟩:=hr
   clear hz
   unfold within at h1
   split at h1
   . rename_i i
     simp only[Zn,decide_eq_true_eq]at h1
     unfold mQ at h3
     split at h3
     . rename_i j
       simp only[Zn,decide_eq_true_eq]at h3
       obtain⟨h3,h4⟩:=h3
       split at h4
       . exact⟨i,dd,j,none,tl,rfl,h1.1,h1.2,h2,h3,λx z=>by cases z⟩
       . rename_i k
         exact⟨i,dd,j,some k,tl,rfl,h1.1,h1.2,h2,h3,λx z=>by cases z;exact of_decide_eq_true h4⟩
       . cases h4
     . cases h3
   . cases h1
 . cases hr
noncomputable def hI:D->Int
 |.tup (.int h::_)=>h
 |_=>0
noncomputable def bI:D->Int
 |.tup [_,_,.int b,_,_]=>b
 |_=>0
noncomputable def eI:D->Option Int
 |.tup [_,_,_,.int e,_]=>some e
 |_=>none
noncomputable def qh (o r:D):Bool:=match eI o with
 |some e=>decide (e<=bI r)
 |none=>false
theorem lE.hI {p d h dd b e tl}(r:lE p d h dd b e tl):Pd.hI d=h:=by rw[r.eq];rfl
theorem lE.bI {p d h dd b e tl}(r:lE p d h dd b e tl):Pd.bI d=b:=by rw[r.eq];rfl
theorem lE.eI {p d h dd b e tl}(r:lE p d h dd b e tl):Pd.eI d=e:=by rw[r.eq];cases e<;>rfl
def iG (p:Int)(f:Fn):Prop:=∀o r g,rH p o=true->rH p r=true->f [o,r] g=some (.bl (qh o r),g)
theorem DX {p:Int}:iG p (aC false 2 2 x5):=λo r g ho hr=>by
 refine bQ (σ':=[some o,some r]) rfl ?_ rfl
 obtain⟨h,dd,b,e,tl,R⟩:=x6 ho
 obtain⟨h',Za,b',e',Fw,R'⟩:=x6 hr
 unfold qh
 rw[R.eI,R'.bI,R.eq,R'.eq]
 cases e<;>simp[x5,vT,pf,eD,isLit,cK]
structure df (g gg:G)(n:Nat)(B:Int)(cs:List (List D)):Prop where
 hd:Hd gg n B
 lt:n<g.length
 len:gg.length=g.length+cs.length
 at_:∀i,i<cs.length->gg[g.length+i]? = cs[i]?
 old:∀j,j≠n->j<g.length->gg[j]? = g[j]?
theorem df.none {g:G}{n:Nat}{B:Int}(h:Hd g n B):df g g n B []:=⟨h,h.lt,by simp,λi hi=>by simp at hi,λj _ _=>rfl⟩
theorem df.push {g gg:G}{n:Nat}{B:Int}{cs:List (List D)}(m:df g gg n B cs)(xs:List D):df g (gg ++ [xs]) n B (cs ++ [xs]):=by
 have hl:=m.len
 have h1:=m.lt
 obtain⟨a,b,c,h2,h3⟩:=m.hd
 refine⟨⟨a,b,c,by rw[ZL (by omega)];exact h2,h3⟩,h1,by simp[hl];omega,λi hi=>?_,λj hj j0=>by rw[ZL (by omega)];exact m.old j hj j0⟩
 by_cases e:i<cs.length
 . rw[ZL (by omega),ZL e];exact m.at_ i e
 . have:i=cs.length:=by simp at hi;omega
   subst this
   rw[aas (by omega),aas (by omega)]
   simp[hl]
theorem df.step {g gg g':G}{n:Nat}{B B':Int}{cs:List (List D)}(m:df g gg n B cs)(h:Hd g' n B')(f:Fr n gg g'):df g g' n B' cs:=by
 have:=m.lt
 exact⟨h,m.lt,by rw[f.1];exact m.len,λi hi=>by rw[f.2 _ (by omega)];exact m.at_ i hi,λj hj hl=>by rw[f.2 j hj];exact m.old j hj hl⟩
theorem df.put {g gg:G}{n:Nat}{B:Int}{cs:List (List D)}(m:df g gg n B cs)(i:Nat)(ys:List D):df g (gg.set (g.length+i) ys) n B (cs.set i ys):=by
 have h1:=m.lt
 have h2:=m.len
 obtain⟨a,b,c,h3,h4⟩:=m.hd
 refine⟨⟨a,b,c,by rw[Z6 (by omega)];exact h3,h4⟩,h1,by simp[h2],λj hj=>?_,λj hj hl=>by rw[Z6 (by omega)];exact m.old j hj hl⟩
 by_cases e:i=j
 . subst e
   simp at hj
   rw[aay (by omega),aay hj]
 . rw[Z6 (by omega),Z6 e];exact m.at_ j (by simpa using hj)
theorem df.mono {g gg:G}{n:Nat}{B B':Int}{cs:List (List D)}(m:df g gg n B cs)(h:B<=B'):df g gg n B' cs:=⟨m.hd.mono h,m.lt,m.len,m.at_,m.old⟩
theorem df.fin {g gg:G}{n:Nat}{B:Int}{cs:List (List D)}(m:df g gg n B cs):Hd (gg.take g.length) n B/\Fr n g (gg.take g.length):=by
 have h1:=m.lt
 have h2:=m.len
 obtain⟨a,b,c,h3,h4⟩:=m.hd
 refine⟨⟨a,b,c,by rw[Z4 h1];exact h3,h4⟩,by simp[h2],λj hj=>?_⟩
 by_cases hl:j<g.length
 . rw[Z4 hl];exact m.old j hj hl
 . rw[Z3 (by simp;omega),Z3 (by omega)]
theorem df.clean {g gg:G}{n:Nat}{B:Int}{cs:List (List D)}(m:df g gg n B cs)(hc:Clean g):(gg.take g.length).all (aY g.length)=true:=by
 obtain⟨h,f⟩:=m.fin
 exact(hc.fr f h).all _
inductive gh:List D->Prop
 |nil:gh []
 |cons (k:Int) (v:D) {r:List D}:gh r->gh (.int k::v::r)
theorem eV {a b:Int}:aH (.int a) (.int b)=decide (a=b):=by
 by_cases h:a=b<;>simp[aH,h]
theorem gh.put {xs:List D}(h:gh xs)(k:Int)(v:D):gh (bU xs (.int k) v):=by
 induction h with
 |nil=>exact .cons k v .nil
 |cons j w h ih =>
  simp only[bU,eV]
  split
  . exact .cons j v h
  . exact .cons j w ih
theorem gh.get {xs:List D}(h:gh xs)(k j:Int)(v:D):aW (bU xs (.int k) v) (.int j)=if k=j then some v else aW xs (.int j):=by
 induction h with
 |nil=>simp[bU,aW,eV]
 |cons i w h ih =>
  simp only[bU,eV]
  by_cases e:i=k
  . subst e
    simp[aW,eV]
    split<;>rfl
  . simp[e,aW,eV,ih]
    by_cases e2:i=j
    . subst e2
      have:¬k=i:=λz=>e z.symm
      simp[this]
    . simp[e2]
theorem gh.len {xs:List D}(h:gh xs)(k:Int)(v:D):(bU xs (.int k) v).length<=xs.length+2:=by
 induction h with
 |nil=>simp[bU]
 |cons i w h ih =>
  simp only[bU,eV]
  split
  . simp
  . simp;omega
theorem ql {xs:List D}(h:xs.length<=1000):j6 xs=true:=aK (by omega)
theorem gh.bz {xs:List D}(h:gh xs){n:Nat}(hv:aY n xs=true)(k:Int)(v:D)(hn:L3.bz n v=true):aY n (bU xs (.int k) v)=true:=by
 induction h with
 |nil=>simp[bU,aY,L3.bz,hn]
 |cons i w h ih =>
  simp only[aY,Zn]at hv
  simp only[bU]
  split
  . simp[aY,hn,hv.1,hv.2.2]
  . simp[aY,hv.1,hv.2.1,ih hv.2.2]
theorem qm {xs:List D}(h:∀d∈xs,∃j:Int,d = .int j):aX xs=true/\bS xs=0:=by
 induction xs with
 |nil=>exact⟨rfl,rfl⟩
 |cons x xs ih =>
  obtain⟨j,rfl⟩:=h x (by simp)
  obtain⟨h1,h2⟩:=ih λd hd=>h d (by simp[hd])
  exact⟨by simp[aX,flat,h1],by simp[bS,dep,h2]⟩
noncomputable def DY:FS:=da (bX isRef cw (aa 3) (af (aO aJ (af (aa 11) (af (aa 8) (af (aO aJ (af (aa 10) (af (aa 12) (af (aa 4) (af (oK (aF (aj hG (aa 10) (aa 5))) (fC .az) (aj ax (aa 6) (aa 10))) ag))))) ag)))) ag))
noncomputable def DZ (take:Fn):FS:=av (bq (aF (aj oEq (aq take (af (aa 0) (af (fC (.int 8)) ag))) (fC (.int 0)))) (aA (fC (.bl true)) (eR (aa 5) (aa 10))) aL) DY
noncomputable def vV (take val:Fn):FS:=av (aA (aO aJ (af (fC (.str "look")) ag)) (gN 12)) (av (bq (aF (aj oLt (aq take (af (aa 0) (af (fC (.int 5)) ag))) (fC (.int 3)))) (aA (aO aJ (af (fC (.str "put")) (af (aq take (af (aa 0) (af (aa 1) ag))) (af (aq val (af (aa 0) ag)) ag)))) (gN 12)) aL) (DZ take))
noncomputable def zw (take pick val:Fn):FS:=av (aA (aq pick (af (aa 0) (af (aa 9) ag))) (gN 10)) (av (aA (aj aR (aj aR (aa 4) (fC (.int 1))) (aq pick (af (aa 0) (af (aO c_ (af (fC (.int 0)) (af (fC (.int 1)) (af (fC (.int 2)) (af (fC (.int 4)) (af (fC (.int 9)) ag)))))) ag)))) (eR (aa 6) (aa 10))) (av (aA (aj aR (aj aR (aj b8 (fC (.int 4)) (aa 4)) (fC (.int 1))) (aq take (af (aa 0) (af (aj (aP a_ (· - ·)) (aj b8 (fC (.int 4)) (aj (aP a_ (· - ·)) (aj ax (aa 6) (aa 10)) (aa 4))) (fC (.int 1))) ag)))) (gN 11)) (vV take val)))
noncomputable def vW (take pick val:Fn):FS:=av (aA (aj aR (aa 4) (aq pick (af (aa 0) (af (aO c_ (af (fC (.int 0)) (af (fC (.int 1)) (af (fC (.int 1)) (af (fC (.int 2)) (af (fC (.int 5)) ag)))))) ag)))) (gN 4)) (av (aA (aU aV (fS (af (aa 7) ag)) [none,none,some 4,some 6,some 5] (gN 1) (fX (aF (aj gO (aa 1) (aa 4))) (aF (aj oLe (bX fg i6 (aa 3) (af (aa 1) (af (fC (.int 0)) ag))) (aa 2)))) (aa 1)) (gN 9)) (bq (aF (aj fF (aa 9) (aO c_ ag))) (zw take pick val) aL))
noncomputable def vX (take pick val:Fn):FS:=av (aA (aO aJ (af (aO mkRef ag) (af (fC (.int 0)) (af hJ (af hJ ag))))) (gT 4 (au (gN 3) (au (gN 4) (au (gN 5) (au (gN 6) aM)))))) (av (aA (aq pick (af (aa 0) (af (aO c_ (af (fC (.int 1)) (af (fC (.int 2)) (af (fC (.int 3)) (af (fC (.int 3)) (af (fC (.int 4)) (af (fC (.int 5)) ag))))))) ag))) (gN 7)) (av (cj (fS (af (aq take (af (aa 0) (af (aj aR (aa 2) (fC (.int 1))) ag))) ag)) (gN 8) (vW take pick val)) (aG (aa 3))))
noncomputable def BD (pick:Fn):FS:=aG (aq pick (af (aa 0) (af (aO c_ (af (fC (.int 1)) (af (fC (.int 1)) (af (fC (.int 2)) (af (fC (.int 3)) (af (fC (.int 0)) (af (aO aJ ag) (af (aO aJ (af (fC (.int 1)) (af (fC (.int 2)) ag))) (af (uG oP (fC (.int 5))) ag))))))))) ag)))
structure Row where
 pt:Int
 k:Int
 h:Int
 dd:D
 b:Int
 e:Option Int
noncomputable def Row.ls (r:Row):List D:=[.int r.h,r.dd,.int r.b,eD r.e]
noncomputable def Row.d (r:Row):D:=.tup [.int r.pt,.int r.k,.tup r.ls]
noncomputable def vals:List D:=[.int 1,.int 1,.int 2,.int 3,.int 0,.tup [],.tup [.int 1,.int 2],.int (-5)]
def Vl (v:D):Prop:=v∈vals \/ ∃n:Nat,n<=1000/\v = .tup [.int n,.int 7]
def eJ (p:Int)(dd:D):Prop:=dd = .tup [.str "look"] \/ ∃q v,dd = .tup [.str "put",.int q,v]/\0<=q/\q<p/\Vl v
theorem qo (h:v∈vals):v = .int 1\/v = .int 2\/v = .int 3\/v = .int 0\/v = .tup []\/v = .tup [.int 1,.int 2]\/v = .int (-5):=by
 simpa[vals]using h
theorem jz (h:Vl v):isVal 3 v=true:=by
 rcases h with h|⟨n,hn,rfl⟩
 . rcases qo h with rfl|rfl|rfl|rfl|rfl|rfl|rfl<;>decide
 . have:j_ (.int (n:Int))=true:=by simp[j_,within];omega
   have h7:j_ (.int 7)=true:=by decide
   simp[isVal,this,h7]
theorem eJ.told {p dd}(h:eJ p dd):tX p dd=true:=by
 rcases h with rfl|⟨q,v,rfl,h0,h1,hv⟩
 . rfl
 . have:=jz hv
   simp[tX,within,this];omega
theorem eJ.nf {p dd}(h:eJ p dd):nf dd=true:=by
 rcases h with rfl|⟨q,v,rfl,h0,h1,hv⟩
 . rfl
 . rcases hv with hv|⟨n,hn,rfl⟩
   . rcases qo hv with rfl|rfl|rfl|rfl|rfl|rfl|rfl<;>rfl
   . rfl
theorem eJ.flat {p dd}(h:eJ p dd):L3.flat dd=true/\dep dd<=3:=by
 rcases h with rfl|⟨q,v,rfl,h0,h1,hv⟩
 . simp[L3.flat,aX,dep,bS]
 . rcases hv with hv|⟨n,hn,rfl⟩
   . rcases qo hv with rfl|rfl|rfl|rfl|rfl|rfl|rfl<;>simp[L3.flat,aX,dep,bS]
   . simp[L3.flat,aX,dep,bS]
theorem eJ.bz {p dd}(h:eJ p dd)(n:Nat):L3.bz n dd=true:=by
 rcases h with rfl|⟨q,v,rfl,h0,h1,hv⟩
 . simp[L3.bz,aY]
 . rcases hv with hv|⟨n,hn,rfl⟩
   . rcases qo hv with rfl|rfl|rfl|rfl|rfl|rfl|rfl<;>simp[L3.bz,aY]
   . simp[L3.bz,aY]
structure mR (p:Int)(r:Row):Prop where
 h0:0<=r.h
 h9:r.h<=9
 dd:eJ p r.dd
 b0:0<=r.b
 eb:∀x,r.e=some x->r.b<x
 pa:4*r.b<r.pt
 pb:∀x,r.e=some x->r.pt<4*x
def After (r s:Row):Prop:=r.k<s.k/\r.b<=s.b/\(r.h=s.h->∃x,r.e=some x/\x<=s.b)
structure mS (p:Int)(i:Nat)(bg:Int)(rws:List Row)(op en:List D):Prop where
 g:∀r∈rws,mR p r
 kk:∀r∈rws,0<=r.k/\r.k<i
 bb:∀r∈rws,r.b<=bg
 pw:rws.Pairwise After
 len:rws.length<=i
 io:gh op
 ie:gh en
 lo:op.length<=2*i
 le:en.length<=2*i
 ev:∀j d,aW en (.int j)=some d->∃x,d = .int x
 Ms:∀r∈rws,r.e=none->(aW op (.int r.h)).isSome=true
 cl:∀r∈rws,∀x,r.e=some x->∃y,aW en (.int r.h)=some (.int y)/\x<=y
 Fx:0<=bg
 Mt:bg<=5*i
 h5:∀r∈rws,r.h<=4
theorem mS.skip {p i bg ik rws op en}(h:mS p i bg rws op en)(h1:bg<=ik)(h2:ik<=bg+5):mS p (i+1) ik rws op en:=by
 have:=h.len;have:=h.lo;have:=h.le;have:=h.Fx;have:=h.Mt
 exact⟨h.g,λr hr=>⟨(h.kk r hr).1,by have:=(h.kk r hr).2;omega⟩,λr hr=>aeb (h.bb r hr) h1,h.pw,by omega,h.io,h.ie,by omega,by omega,h.ev,h.Ms,h.cl,by omega,by omega,h.h5⟩
noncomputable def BE (en:List D)(j:Int):Int:=match(aW en (.int j)).getD (.int 0)with
 |.int y=>y
 |_=>0
theorem mS.en {p i bg rws op en}(h:mS p i bg rws op en)(j:Int):(aW en (.int j)).getD (.int 0)= .int (BE en j):=by
 unfold BE
 cases e:aW en (.int j)with
 |none=>rfl
 |some d=>obtain⟨x,rfl⟩:=h.ev j d e;rfl
theorem mS.step {p i bg ik rws op en}(h:mS p i bg rws op en)(h1:bg<=ik)(h2:ik<=bg+5)(o0:0<=one)(o9:one<=4)(ho:aW op (.int one)=none)(hy:BE en one<=ik)(hE:ik < E)(Xu:4*ik < pt)(Xv:pt<4*E)(hd:eJ p dd)(Mu:cv=op\/cv=bU op (.int one) (.bl true)):
   mS p (i+1) ik (rws ++ [⟨pt,i,one,dd,ik,if(aW cv (.int one)).isSome then none else some E⟩]) cv (bU en (.int one) (.int E)):=by
 have hl:=h.len;have sA:=h.lo;have hle:=h.le;have Zb:=h.Fx;have Zc:=h.Mt
 have mono:∀j,(aW op (.int j)).isSome=true->(aW cv (.int j)).isSome=true:=λj hj=>by
   rcases Mu with rfl|rfl
   . exact hj
   . rw[h.io.get];split
     . rfl
     . exact hj
 have old:∀r∈rws,r.h=one->∃x y,r.e=some x/\aW en (.int one)=some (.int y)/\x<=y/\y<=ik:=λr hr e=>by
   cases he:r.e with
   |none =>
     have:=h.Ms r hr he
     rw[e,ho]at this
     cases this
   |some x =>
     obtain⟨y,y1,y2⟩:=h.cl r hr x he
     rw[e]at y1
     refine⟨x,y,rfl,y1,y2,?_⟩
     simpa[BE,y1]using hy
 refine⟨λr hr=>?_,λr hr=>?_,λr hr=>?_,?_,by simp;omega,?_,h.ie.put _ _,?_,?_,λj d e=>?_,λr hr e=>?_,λr hr x e=>?_,by omega,by omega,λr hr=>?_⟩
 . rcases Zw.mp hr with hr|hr
   . exact h.g r hr
   . simp at hr
     subst hr
     exact⟨o0,aeb o9 (by decide),hd,by show 0<=ik;omega,λx e=>by
       dsimp only at e
       split at e
       . cases e
       . cases e;exact hE,Xu,λx e=>by
       dsimp only at e
       split at e
       . cases e
       . cases e;exact Xv⟩
 . rcases Zw.mp hr with hr|hr
   . have:=h.kk r hr;exact⟨this.1,by omega⟩
   . simp at hr
     subst hr
     exact⟨by show(0:Int)<=(i:Int);omega,by show(i:Int)<((i+1:Nat):Int);omega⟩
 . rcases Zw.mp hr with hr|hr
   . exact aeb (h.bb r hr) h1
   . simp at hr
     subst hr
     exact Int.le_refl _
 . rw[List.pairwise_append]
   refine⟨h.pw,by simp,λr hr s hs=>?_⟩
   simp at hs
   subst hs
   refine⟨(h.kk r hr).2,aeb (h.bb r hr) h1,λe=>?_⟩
   obtain⟨x,y,e1,_,e3,e4⟩:=old r hr e
   exact⟨x,e1,by show x<=ik;omega⟩
 . rcases Mu with rfl|rfl
   . exact h.io
   . exact h.io.put _ _
 . rcases Mu with rfl|rfl
   . omega
   . have:=h.io.len one (.bl true);omega
 . have:=h.ie.len one (.int E);omega
 . rw[h.ie.get]at e
   split at e
   . cases e;exact⟨_,rfl⟩
   . exact h.ev j d e
 . rcases Zw.mp hr with hr|hr
   . exact mono _ (h.Ms r hr e)
   . simp at hr
     subst hr
     dsimp only at e ⊢
     split at e
     . assumption
     . cases e
 . rw[h.ie.get]
   rcases Zw.mp hr with hr|hr
   . split
     . rename_i e1
       obtain⟨x',y,e1,_,e3,e4⟩:=old r hr e1.symm
       rw[e]at e1
       cases e1
       exact⟨E,rfl,by omega⟩
     . exact h.cl r hr x e
   . simp at hr
     subst hr
     dsimp only at e ⊢
     split at e
     . cases e
     . cases e
       simp
 . rcases Zw.mp hr with hr|hr
   . exact h.h5 r hr
   . simp at hr
     subst hr
     exact o9
def gy (f:Fn):Prop:=∀(n:Nat) (g:G) (B:Int),B<2 ^ 40->Hd g n B->∃d g',f [.ref n] g=some (d,g')/\d∈vals/\Hd g' n (B+1)/\Fr n g g'
theorem IE (hp:gw p):gy (aC false 1 1 (BD p)):=λn g B hB h=>by
 obtain⟨d,g',e,hd,h1,l1⟩:=hp n vals g B hB (by simp[vals]) (by simp[vals]) h
 refine⟨d,g',bQ (σ':=[some (.ref n)]) rfl ?_ l1.1,hd,h1,l1⟩
 unfold vals at e
 simp[BD,e]
theorem gy.w (h:gy f){Q:D×G->Prop}(hB:B<2 ^ 40)(hh:Hd g n B)(q:∀d g',d∈vals->Hd g' n (B+1)->Fr n g g'->Q (d,g')):wp (f [.ref n] g) Q:=by
 obtain⟨d,g',e,r0,h1,l1⟩:=h n g B hB hh
 exact⟨_,e,q d g' r0 h1 l1⟩
theorem df.a0 (m:df g gg n B (x::cs)):gg[g.length]? = some x:=m.at_ 0 (by simp)
theorem df.a1 (m:df g gg n B (x::y::cs)):gg[g.length+1]? = some y:=m.at_ 1 (by simp)
theorem df.a2 (m:df g gg n B (x::y::z::cs)):gg[g.length+2]? = some z:=m.at_ 2 (by simp)
set_option maxHeartbeats 4000000 in
theorem D0 (ht:dZ take)(hv:gy val){Q:F×Sg×G->Prop}(hB:B+10<2 ^ 40)(hp:0<p)(lW:p<=1000)(m:df g gg n B [rows,op,en])(he:aW en (.int one)=some (.int E))(hs:j6 op=true)(hz:rows.length+1<=1000)
   (q:∀dd cv g',eJ p dd->(cv=op\/cv=bU op (.int one) (.bl true))->df g g' n (B+4) [rows ++ [Row.d ⟨pt,k,one,dd,bg,if(aW cv (.int one)).isSome then none else some E⟩],cv,en]->Q (.nx,[some (.ref n),some (.int p),some (.int most),some (.ref g.length),some (.int bg),some (.aI (g.length+1)),some (.aI (g.length+2)),some (.int eh),some (.int k),o9,some (.int one),some (.int pt),some dd],g')):
   wp (vV take val [some (.ref n),some (.int p),some (.int most),some (.ref g.length),some (.int bg),some (.aI (g.length+1)),some (.aI (g.length+2)),some (.int eh),some (.int k),o9,some (.int one),some (.int pt),o12] gg) Q:=by
 have Fy:aD (rows.length+1)=true:=aK hz
 have fin:∀(dd:D) (cv:List D) (g':G) (B':Int),B'<=B+4->eJ p dd->(cv=op\/cv=bU op (.int one) (.bl true))->df g g' n B' [rows,cv,en]->wp (DY [some (.ref n),some (.int p),some (.int most),some (.ref g.length),some (.int bg),some (.aI (g.length+1)),some (.aI (g.length+2)),some (.int eh),some (.int k),o9,some (.int one),some (.int pt),some dd] g') Q:=by
   intro dd cv g' B' hb hd ho m'
   have a0:=m'.a0
   have a1:=m'.a1
   have a2:=m'.a2
   have z:=q dd cv _ hd ho ((m'.mono hb).put 0 (rows ++ [Row.d ⟨pt,k,one,dd,bg,if(aW cv (.int one)).isSome then none else some E⟩]))
   unfold DY
   cases hh:(aW cv (.int one)).isSome with
   |true =>
     simp[hh]at z
     simp[a0,a1,a2,hh,he,Fy]
     exact z
   |false =>
     simp[hh]at z
     simp[a0,a1,a2,hh,he,Fy]
     exact z
 have mid:∀(dd:D) (g':G) (B':Int),B'<=B+3->eJ p dd->df g g' n B' [rows,op,en]->wp (DZ take [some (.ref n),some (.int p),some (.int most),some (.ref g.length),some (.int bg),some (.aI (g.length+1)),some (.aI (g.length+2)),some (.int eh),some (.int k),o9,some (.int one),some (.int pt),some dd] g') Q:=by
   intro dd g' B' hb hd m'
   unfold DZ
   simp
   refine ht.w (by omega) (by decide) (by decide) m'.hd λr g2 r0 r1 h2 f2=>?_
   have m2:=m'.step h2 f2
   have a1:=m2.a1
   by_cases hr:r=0
   . simp[hr,a1,hs]
     exact fin dd _ _ (B'+1) (by omega) hd (.inr rfl) (m2.put 1 _)
   . simp[hr]
     exact fin dd _ _ (B'+1) (by omega) hd (.inl rfl) m2
 unfold vV
 simp
 refine ht.w (by omega) (by decide) (by decide) m.hd λr g2 r0 r1 h2 f2=>?_
 have m2:=m.step h2 f2
 by_cases hr:r<3
 . simp[hr]
   refine ht.w (by omega) (by omega) (by omega) m2.hd λc g3 c0 c1 h3 f3=>?_
   have m3:=m2.step h3 f3
   simp
   refine hv.w (by omega) m3.hd λv g4 v0 h4 f4=>?_
   have m4:=m3.step h4 f4
   simp
   exact mid _ _ _ (by omega) (.inr ⟨c,v,rfl,c0,c1,.inl v0⟩) m4
 . simp[hr]
   exact mid _ _ _ (by omega) (.inl rfl) m2
set_option maxHeartbeats 4000000 in
theorem IF (ht:dZ take)(hp:gw pick)(hv:gy val){Q:F×Sg×G->Prop}(hB:B+20<2 ^ 40)(p0:0<p)(lW:p<=1000)(Fx:0<=bg)(Zd:bg<=1000)(m:df g gg n B [rows,op,en])(hs:j6 op=true)(kr:j6 en=true)(Xw:gh en)(hz:rows.length+1<=1000)(hx:xs ≠ [])(EL:xs.length<=100)(sV:∀d∈xs,∃j:Int,d = .int j)
  (q:∀one pt E dd cv g',.int one∈xs->bg<E->4*bg<pt->pt<4*E->eJ p dd->(cv=op\/cv=bU op (.int one) (.bl true))->df g g' n (B+8) [rows ++ [Row.d ⟨pt,k,one,dd,bg,if(aW cv (.int one)).isSome then none else some E⟩],cv,bU en (.int one) (.int E)]->Q (.nx,[some (.ref n),some (.int p),some (.int most),some (.ref g.length),some (.int bg),some (.aI (g.length+1)),some (.aI (g.length+2)),some (.int eh),some (.int k),some (.lst xs),some (.int one),some (.int pt),some dd],g')):
  wp (zw take pick val [some (.ref n),some (.int p),some (.int most),some (.ref g.length),some (.int bg),some (.aI (g.length+1)),some (.aI (g.length+2)),some (.int eh),some (.int k),some (.lst xs),o10,o11,o12] gg) Q:=by
 unfold zw
 simp
 refine hp.w (by omega) hx (by omega) m.hd λd g2 hd h2 f2=>?_
 obtain⟨one,rfl⟩:=sV d hd
 have m2:=m.step h2 f2
 simp
 refine hp.w (by omega) (by simp) (by simp) m2.hd λc g3 hc h3 f3=>?_
 have m3:=m2.step h3 f3
 obtain⟨c,rfl,c0,c9⟩:∃i:Int,c = .int i/\0<=i/\i<=9:=by
  simp only[ZE,acm,or_false]at hc
  rcases hc with rfl|rfl|rfl|rfl|rfl<;>exact⟨_,rfl,by decide,by decide⟩
 have a2:=m3.a2
 have m4:=m3.put 2 (bU en (.int one) (.int (bg+1+c)))
 have b2:=m4.a2
 have gt:aW (bU en (.int one) (.int (bg+1+c))) (.int one)=some (.int (bg+1+c)):=by rw[Xw.get];simp
 have k1:cT 4 bg=true:=gP (by decide) (by decide)
 have k2:cT 4 (bg+1+c-bg)=true:=gP (by decide) (by decide)
 simp[a2,kr,b2,gt,k1,k2]
 refine ht.w (by omega) (by omega) (by omega) m4.hd λr g5 r0 r1 h5 f5=>?_
 have m5:=m4.step h5 f5
 simp
 refine D0 ht hv (by omega) p0 lW m5 gt hs hz λdd cv g' Jt ho m'=>?_
 exact q one _ _ dd cv g' hd (by omega) (by omega) (by omega) Jt ho (m'.mono (by omega))
noncomputable def may (op en:List D)(bg:Int):D->Bool
 |.int j=>!(aW op (.int j)).isSome&&decide (BE en j<=bg)
 |_=>false
theorem x8 (h:d∈cU 0 n):∃j:Nat,j<n/\d = .int j:=by
 obtain⟨i,hi⟩:=aaq.mp h
 obtain⟨h1,h2⟩:=lC hi
 exact⟨i,h1,h2⟩
set_option maxHeartbeats 4000000 in
theorem D1 (ht:dZ take)(hp:gw pick)(hv:gy val){Q:F×Sg×G->Prop}(hB:B+30<2 ^ 40)(p0:0<p)(lW:p<=1000)(Ze:1<=eh)(hh:eh<=5)(hi:i<=100)(m:df g gg n B [rws.map Row.d,op,en])(I:mS p i bg rws op en)
  (q:∀ik D2 cv Mv g' o9 o10 o11 o12,df g g' n (B+10) [D2.map Row.d,cv,Mv]->mS p (i+1) ik D2 cv Mv->Q (.nx,[some (.ref n),some (.int p),some (.int most),some (.ref g.length),some (.int ik),some (.aI (g.length+1)),some (.aI (g.length+2)),some (.int eh),some (.int i),o9,o10,o11,o12],g')):
  wp (vW take pick val [some (.ref n),some (.int p),some (.int most),some (.ref g.length),some (.int bg),some (.aI (g.length+1)),some (.aI (g.length+2)),some (.int eh),some (.int i),o9,o10,o11,o12] gg) Q:=by
 unfold vW
 simp
 refine hp.w (by omega) (by simp) (by simp) m.hd λc g2 hc h2 f2=>?_
 have m2:=m.step h2 f2
 obtain⟨c,rfl,c0,c5⟩:∃i:Int,c = .int i/\0<=i/\i<=5:=by
  simp only[ZE,acm,or_false]at hc
  rcases hc with rfl|rfl|rfl|rfl|rfl<;>exact⟨_,rfl,by decide,by decide⟩
 have YH:=I.Fx
 have YI:=I.Mt
 have hlen:=I.len
 have sA:=I.lo
 have hle:=I.le
 have a1:=m2.a1
 have a2:=m2.a2
 simp
 refine nJ ?_
 simp
 refine⟨by omega,by omega,?_⟩
 have hz:aD (cU 0 eh.toNat).length=true:=aK (by rw[gQ];omega)
 have cm:=vU (t:=gN 1) (c:=fX (aF (aj gO (aa 1) (aa 4))) (aF (aj oLe (bX fg i6 (aa 3) (af (aa 1) (af (fC (.int 0)) ag))) (aa 2)))) (e:=aa 1) (cB:=may op en (bg+c)) (h:=λd=>d) (λσ=>∃o,σ = [none,o,some (.int (bg+c)),some (.aI (g.length+2)),some (.aI (g.length+1))]) (cU 0 eh.toNat) [none,none,some (.int (bg+c)),some (.aI (g.length+2)),some (.aI (g.length+1))] g2 ⟨_,rfl⟩ (by
  rintro d hm σ ⟨o,rfl⟩
  obtain⟨j,hj,rfl⟩:=x8 hm
  refine⟨[none,some (.int j),some (.int (bg+c)),some (.aI (g.length+2)),some (.aI (g.length+1))],by simp,?_,λ_=>by simp,⟨_,rfl⟩⟩
  have e:=I.en j
  cases ho:(aW op (.int j)).isSome with
  |true=>simp[a1,a2,ho,may]
  |false=>simp[a1,a2,ho,may,e])
 have sb:∀a b c0 c1 c2 c3 c4 c5 c6 c7 c8 c9 Mw:Option D,bH [none,none,some 4,some 6,some 5] [c0,c1,c2,c3,a,b,c4,c5,c6,c7,c8,c9,Mw]= [none,none,a,c4,b]:=λ_ _ _ _ _ _ _ _ _ _ _ _ _=>rfl
 have sF:∀d∈(cU 0 eh.toNat).filter (may op en (bg+c)),(∃j:Nat,(j:Int)<eh/\d = .int j)/\may op en (bg+c) d=true:=λd hd=>by
  obtain⟨h1,h2⟩:=ZU.mp hd
  obtain⟨j,h3,rfl⟩:=x8 h1
  exact⟨⟨j,by omega,rfl⟩,h2⟩
 have Xx:((cU 0 eh.toNat).filter (may op en (bg+c))).length<=10:=by
  have:=aaC (may op en (bg+c)) (cU 0 eh.toNat)
  rw[gQ]at this
  omega
 rw[List.map_id']at cm
 generalize (cU 0 eh.toNat).filter (may op en (bg+c))=xs at *
 have sV:∀d∈xs,∃j:Int,d = .int j:=λd hd=>let⟨⟨j,_,e⟩,_⟩:=sF d hd;⟨_,e⟩
 obtain⟨fl,dl⟩:=qm sV
 have Mx:flat (.lst xs)=true:=by simpa[flat]using fl
 have Xy:dep (.lst xs)=1:=by simp[dep,dl]
 have el:aH (.lst xs) (.lst [])=xs.isEmpty:=by cases xs<;>simp[aH,de]
 have fn:flat (.lst [])=true:=by simp[flat,aX]
 simp[sb,cm,hz,Mx,Xy,el,fn]
 cases xs with
 |nil =>
  simp
  exact q _ _ _ _ _ _ _ _ _ (m2.mono (by omega)) (I.skip (by omega) (by omega))
 |cons x xs =>
  simp
  refine IF ht hp hv (by omega) p0 lW (by omega) (by omega) m2 (ql (by omega)) (ql (by omega)) I.ie (by simp;omega) (by simp) (by omega) sV λone pt E dd cv g' h1 h3 Xz XA h4 h5 m'=>?_
  obtain⟨⟨j,j1,j2⟩,hm⟩:=sF _ h1
  cases j2
  simp only[may,Zn,Z2,decide_eq_true_eq]at hm
  have ho:aW op (.int j)=none:=by
   cases e:aW op (.int (j:Int))with
   |none=>rfl
   |some d=>rw[e]at hm;cases hm.1
  refine q _ (rws ++ [⟨pt,i,j,dd,bg+c,if(aW cv (.int j)).isSome then none else some E⟩]) _ _ _ _ _ _ _ ?_ (I.step (by omega) (by omega) (by omega) (by omega) ho hm.2 h3 Xz XA h4 h5)
  rw[aaL]
  exact m'.mono (by omega)
structure Rows (p:Int)(most:Nat)(rws:List Row):Prop where
 g:∀r∈rws,mR p r
 pw:rws.Pairwise After
 len:rws.length<=most
 kk:∀r∈rws,0<=r.k/\r.k<1000
 h5:∀r∈rws,r.h<=4
theorem Row.bz (h:mR p r)(n:Nat):L3.bz n r.d=true:=by
 have:=h.dd.bz n
 obtain⟨pt,k,hh,dd,b,e⟩:=r
 cases e<;>simp[Row.d,Row.ls,L3.bz,aY,eD,this]
def PX (n:Nat)(p:Int)(most:Nat)(c B:Int)(g:G)(R i:Nat)(σ:Sg)(gg:G):Prop:=i<=R->∃bg rws op en o8 o9 o10 o11 o12,σ = [some (.ref n),some (.int p),some (.int most),some (.ref g.length),some (.int bg),some (.aI (g.length+1)),some (.aI (g.length+2)),some (.int c),o8,o9,o10,o11,o12]/\df g gg n (B+2+10*i) [rws.map Row.d,op,en]/\mS p i bg rws op en
set_option maxHeartbeats 4000000 in
theorem My (ht:dZ take)(hp:gw pick)(hv:gy val){Q:D×G->Prop}(hB:B+2000<2 ^ 40)(p0:0<p)(lW:p<=1000)(hm:most<=50)(hd:Hd g n B)(hc:Clean g)
   (q:∀rws g',Rows p most rws->Hd g' n (B+1000)->Fr n g g'->Q (.lst (rws.map Row.d),g')):
   wp (aC false 13 3 (vX take pick val) [.ref n,.int p,.int most] g) Q:=by
 refine rG rfl ?_
 unfold vX
 simp
 have m0:df g (g ++ [[],[],[]]) n B [[],[],[]]:=by simpa using (((df.none hd).push []).push []).push []
 refine hp.w (B:=B) (by omega) (by simp) (by simp) m0.hd λc g2 r6 h2 f2=>?_
 have m2:=m0.step h2 f2
 obtain⟨c,rfl,c0,Mw⟩:∃i:Int,c = .int i/\1<=i/\i<=5:=by
   simp only[ZE,acm,or_false]at r6
   rcases r6 with rfl|rfl|rfl|rfl|rfl|rfl<;>exact⟨_,rfl,by decide,by decide⟩
 refine nJ ?_
 simp
 refine ht.w (by omega) (by omega) (by omega) m2.hd λr g3 r0 r1 h3 f3=>?_
 have m3:=m2.step h3 f3
 simp
 refine⟨by omega,by omega,?_⟩
 refine iz (λi σ gg=>PX n p most c B g r.toNat i σ gg) _ 0 _ _ (λ_=>⟨0,[],[],[],none,none,none,none,none,rfl,m3.mono (by omega),⟨by simp,by simp,by simp,.nil,by simp,.nil,.nil,by simp,by simp,(λj d e=>by cases e),by simp,by simp,by omega,by omega,by simp⟩⟩) ?_ ?_
 . intro j d σ gg sR hI
   obtain⟨hj,rfl⟩:=lC sR
   obtain⟨bg,rws,op,en,o8,o9,o10,o11,o12,rfl,m,I⟩:=hI (by omega)
   rw[abq]at *
   simp
   refine D1 ht hp hv (by omega) p0 lW c0 Mw (by omega) m I λik D2 cv Mv g' o9 o10 o11 o12 m' I'=>?_
   exact λ_=>⟨_,_,_,_,_,_,_,_,_,rfl,m'.mono (by omega),I'⟩
 . intro σ gg hI
   rw[gQ]at hI
   obtain⟨bg,rws,op,en,o8,o9,o10,o11,o12,rfl,m,I⟩:=hI (by omega)
   have a0:=m.a0
   have hl:=I.len
   simp[a0]
   obtain⟨f1,f2⟩:=m.fin
   have cl:=m.clean hc
   exact⟨cF λx hx=>by
    obtain⟨r,hr,rfl⟩:=Zu.mp hx
    exact Row.bz (I.g r hr) _,λx hx=>ZH.mp cl x hx,q rws _ ⟨I.g,I.pw,by omega,(λr hr=>by have:=I.kk r hr;omega),I.h5⟩ (f1.mono (by omega)) f2⟩
noncomputable def Fz:FS:=bq (aF (aj oEq (aj ax (aa 8) (fC (.int 0))) (fC (.str "put")))) (aA (aj aR (aj aR (cR (aa 2) cQ (cA (aj ax (aa 8) (fC (.int 1))))) (aO aJ (af (aj ax (aa 8) (fC (.int 2))) ag))) (cR (aa 2) (cA (aj aR (aj ax (aa 8) (fC (.int 1))) (fC (.int 1)))) cQ)) (gN 2)) aL
noncomputable def FC:FS:=bq (gW (aF (aj oEq (aj ax (aa 8) (fC (.int 0))) (fC (.str "put")))) (aF (aj cD (aa 10) (fC .az)))) (da (bX isRef cw (aa 4) (af (aa 6) ag))) aL
noncomputable def FD:FS:=bq (fX (aF (aj oEq (aj ax (aa 8) (fC (.int 0))) (fC (.str "look")))) (aF (aj cD (aa 10) (fC .az)))) (aA (aa 2) (eR (aa 3) (aa 6))) aL
noncomputable def mT:FS:=av Fz (av FC FD)
noncomputable def Q8:FG:=gT 3 (au (gN 5) (au (gN 6) (au (gT 4 (au (gN 7) (au (gN 8) (au (gN 9) (au (gN 10) aM))))) aM)))
noncomputable def nums:FE:=aU aV (bu (aa 1)) [none,none,none,none] (gT 3 (au (gN 1) (au (gN 2) (au (gN 3) aM)))) aN (aa 2)
noncomputable def D3:FE:=aU aV (bu (aa 1)) [none,none,none,none,some 3] (gT 3 (au (gN 1) (au (gN 2) (au (gN 3) aM)))) aN (aj aR (aa 3) (aO aJ (af (bX fg i6 (aa 4) (af (aa 2) ag)) ag)))
noncomputable def D4:FE:=fH aV (mJ (aa 4)) [none,none,some 11] (gN 1) aN (bX dB cP (aa 2) (af (aa 1) ag))
noncomputable def vY:FS:=av (aA (aO aJ (af (aj b8 (aO aJ (af (fC (.int 0)) ag)) (aa 0)) (af hJ (af (aO mkRef ag) ag)))) (gT 3 (au (gN 2) (au (gN 3) (au (gN 4) aM))))) (av (cj (bu (aq gv (af (aa 1) ag))) Q8 mT) (av (aA nums (gN 11)) (aG (aO aJ (af (aq cO (af D3 ag)) (af (aq cO (af D4 ag)) ag))))))
theorem lF:∀(n:Nat) (d:D),isVal n d=true->nf d=true /\ ∀m,bz m d=true
 | 0,d,h=>by
  unfold isVal j_ within at h
  split at h
  . exact⟨rfl,λ_=>rfl⟩
  . cases h
 |n+1,d,h=>by
  cases d with
  |tup xs =>
    simp only[isVal,Zn,ZH]at h
    have:∀ys:List D,(∀y∈ys,isVal n y=true)->qd ys=true /\ ∀m,aY m ys=true:=λys=>by
     induction ys with
     |nil=>intro _;exact⟨rfl,λ_=>rfl⟩
     |cons y ys ih =>
      intro hy
      obtain⟨h1,h2⟩:=lF n y (hy y (by simp))
      obtain⟨h3,h4⟩:=ih λz hz=>hy z (by simp[hz])
      exact⟨by simp[qd,h1,h3],λm=>by simp[aY,h2 m,h4 m]⟩
    obtain⟨h1,h2⟩:=this xs h.2
    exact⟨by simpa[nf]using h1,λm=>by simpa[bz]using h2 m⟩
  |_=>first|exact⟨rfl,λ_=>rfl⟩| (simp[isVal,j_,within]at h)
theorem BF {xs:List D}(h:∀x∈xs,nf x=true):qd xs=true:=by
 induction xs with
 |nil=>rfl
 |cons x xs ih=>simp[qd,h x (by simp),ih λy hy=>h y (by simp[hy])]
theorem qp {p:Int}{d:D}(h:jl p d=true):nf d=true /\ ∀m,bz m d=true:=by
 unfold jl at h
 split at h
 . rename_i xs
   simp only[Zn,ZH]at h
   exact⟨by simpa[nf]using BF λx hx=>(lF 3 x (h.2 x hx)).1,λm=>by simpa[bz]using cF λx hx=>(lF 3 x (h.2 x hx)).2 m⟩
 . cases h
def St (p:Int)(st:List D):Prop:=(st.length:Int)=p /\ ∀x∈st,isVal 3 x=true
theorem St.B {p st}(h:St p st):jl p (.tup st)=true:=by
 simp only[jl,Zn,decide_eq_true_eq,ZH]
 exact h
structure TI (p:Int)(done:List Row)(st tl:List D)(ks:List Int):Prop where
 st:St p st
 it:gh tl
 Mz:tl.length<=2*done.length
 t1:∀j d,aW tl (.int j)=some d->jl p d=true /\ ∃r∈done,r.k=j/\bJ r.dd=true/\r.e.isSome=true
 t2:∀r∈done,bJ r.dd=true->r.e.isSome=true->(aW tl (.int r.k)).isSome=true
 MA:ks.length<=done.length
 ue:∀k∈ks,∃r∈done,r.k=k
noncomputable def dg (st:List D):D->List D
 |.tup [.str _,.int c,v]=>st.take c.toNat++v::st.drop (c.toNat+1)
 |_=>st
theorem FF {g:G}{a b:List D}:(g ++ [a,b])[g.length]? = some a:=by simp
theorem BG {g:G}{a b:List D}:(g ++ [a,b])[g.length+1]? = some b:=by simp
theorem Q9 {g:G}{a b c:List D}:(g ++ [a,b]).set g.length c=g ++ [c,b]:=by simp
theorem Q_ {g:G}{a b c:List D}:(g ++ [a,b]).set (g.length+1) c=g ++ [a,c]:=by
 rw[List.set_append_right _ _ (by omega)];simp
theorem qq {rws:List Row}(h:rws.Pairwise After):∀r∈rws,∀s∈rws,r.k=s.k->r=s:=by
 induction rws with
 |nil=>intro r hr;simp at hr
 |cons x xs ih =>
  rw[adC]at h
  intro r hr s hs e
  rcases ZE.mp hr with h1|h1<;>rcases ZE.mp hs with h2|h2
  . rw[h1,h2]
  . subst h1;have:=(h.1 s h2).1;omega
  . subst h2;have:=(h.1 r h1).1;omega
  . exact ih h.2 r h1 s h2 e
set_option maxHeartbeats 4000000 in
theorem D5 {p:Int}{g:G}{done:List Row}{st tl rows:List D}{ks:List Int}{r:Row}{o11:Option D}{Q:F×Sg×G->Prop}(hp:p<=100)(I:TI p done st tl ks)(hr:mR p r)(hl:done.length<=100)
   (q:∀dH Fw sW,TI p (done ++ [r]) dH Fw sW->Q (.nx,[some (.int p),some (.lst rows),some (.tup dH),some (.aI g.length),some (.ref (g.length+1)),some (.int r.pt),some (.int r.k),some (.int r.h),some r.dd,some (.int r.b),some (eD r.e),o11],g ++ [Fw,sW.map D.int])):
   wp (mT [some (.int p),some (.lst rows),some (.tup st),some (.aI g.length),some (.ref (g.length+1)),some (.int r.pt),some (.int r.k),some (.int r.h),some r.dd,some (.int r.b),some (eD r.e),o11] (g ++ [tl,ks.map D.int])) Q:=by
 have kl:=I.MA
 have Mz:=I.Mz
 have hz:aD (ks.length+1)=true:=aK (by omega)
 have hs:j6 tl=true:=ql (by omega)
 have vZ:¬(ZW "put" = ZW "look"):=by decide
 have sX:¬(ZW "look" = ZW "put"):=by decide
 have ka:∀k∈ks ++ [r.k],∃s∈done ++ [r],s.k=k:=λk hk=>by
   rcases Zw.mp hk with hk|hk
   . obtain⟨s,h1,h2⟩:=I.ue k hk
     exact⟨s,by simp[h1],h2⟩
   . simp at hk
     exact⟨r,by simp,hk.symm⟩
 have kb:∀k∈ks,∃s∈done ++ [r],s.k=k:=λk hk=>by
   obtain⟨s,h1,h2⟩:=I.ue k hk
   exact⟨s,by simp[h1],h2⟩
 have same:∀dH sW,St p dH->sW.length<=done.length+1->(∀k∈sW,∃s∈done ++ [r],s.k=k)->¬(bJ r.dd=true/\r.e.isSome=true)->TI p (done ++ [r]) dH tl sW:=λdH sW h1 h2 h3 h4=>by
   refine⟨h1,I.it,by simp;omega,λj d e=>?_,λs eA e1 e2=>?_,by simpa using h2,h3⟩
   . obtain⟨z1,s,z2,z3⟩:=I.t1 j d e
     exact⟨z1,s,by simp[z2],z3⟩
   . rcases Zw.mp eA with eA|eA
     . exact I.t2 s eA e1 e2
     . simp at eA
       subst eA
       exact absurd ⟨e1,e2⟩ h4
 rcases hr.dd with hd|⟨c,v,hd,c0,c1,hv⟩
 . have lk:bJ r.dd=true:=by rw[hd];rfl
   cases he:r.e with
   |none =>
     have z:=q st tl ks (same st ks I.st (by omega) kb (by simp[he]))
     rw[he,hd]at z
     simp[mT,Fz,FC,FD,hd,dF,eq_str,flat,dep,sX,eD,isLit,cK]
     exact z
   |some x =>
     have z:=q st (bU tl (.int r.k) (.tup st)) (ks ++ [r.k]) ⟨I.st,I.it.put _ _,by have:=I.it.len r.k (.tup st);simp;omega,λj d e=>by
         rw[I.it.get]at e
         split at e
         . rename_i e1
           cases e
           exact⟨I.st.B,r,by simp,e1,lk,by simp[he]⟩
         . obtain⟨z1,s,z2,z3⟩:=I.t1 j d e
           exact⟨z1,s,by simp[z2],z3⟩,λs eA e1 e2=>by
         rw[I.it.get]
         split
         . rfl
         . rename_i e3
           rcases Zw.mp eA with eA|eA
           . exact I.t2 s eA e1 e2
           . simp at eA
             subst eA
             exact absurd rfl e3,by simp;omega,ka⟩
     rw[he,hd]at z
     simp[mT,Fz,FC,FD,hd,dF,eq_str,flat,dep,sX,eD,isLit,cK,FF,BG,Q9,Q_,hz,hs]
     simpa[eD]using z
 . have lk:bJ r.dd=false:=by rw[hd];simp[bJ,vZ]
   have Ra:=I.st.1
   obtain⟨cn,rfl⟩:∃cn:Nat,c=cn:=⟨c.toNat,by omega⟩
   have dU:cn<st.length:=by omega
   have s1:eQ (.tup st) none (some (cn:Int)) (g ++ [tl,ks.map D.int])=some (.tup (st.take cn),g ++ [tl,ks.map D.int]):=jN (tP dU)
   have s2:eQ (.tup st) (some ((cn:Int)+1)) none (g ++ [tl,ks.map D.int])=some (.tup (st.drop (cn+1)),g ++ [tl,ks.map D.int]):=jN (qU dU)
   have z:=q (st.take cn++v::st.drop (cn+1)) tl (ks ++ [r.k]) (same _ _ ⟨by simp;omega,λx hx=>by
     rcases Zw.mp hx with hx|hx
     . exact I.st.2 x (aaP hx)
     . rcases ZE.mp hx with rfl|hx
       . exact jz hv
       . exact I.st.2 x (acp hx)⟩ (by simp;omega) ka (by simp[lk]))
   rw[hd]at z
   have y1:aD (min cn st.length+1)=true:=aK (by omega)
   have y2:aD (min cn st.length+1+(st.length-(cn+1)))=true:=aK (by omega)
   simp[mT,Fz,FC,FD,hd,dF,fJ,pf,eq_str,flat,dep,vZ,s1,s2,y1,y2,FF,BG,Q9,Q_,hz,hs]
   simpa using z
theorem Row.flat {p:Int}{r:Row}(h:mR p r):L3.flat r.d=true/\dep r.d<=6:=by
 obtain⟨h1,h2⟩:=h.dd.flat
 have he:L3.flat (eD r.e)=true/\dep (eD r.e)=0:=by cases r.e<;>exact⟨rfl,rfl⟩
 constructor
 . simp[Row.d,Row.ls,L3.flat,aX,h1,he.1]
 . simp[Row.d,Row.ls,dep,bS,he.2];omega
theorem Row.aX {p:Int}{rws:List Row}(h:∀r∈rws,mR p r):L3.aX (rws.map Row.d)=true/\bS (rws.map Row.d)<=6:=by
 induction rws with
 |nil=>exact⟨rfl,by simp[bS]⟩
 |cons r rs ih =>
  obtain⟨h1,h2⟩:=Row.flat (h r (by simp))
  obtain⟨h3,h4⟩:=ih λs hs=>h s (by simp[hs])
  exact⟨by simp[L3.aX,h1,h3],by simp[bS];omega⟩
theorem Row.lt {p:Int}{r s:Row}(hr:mR p r)(h:r.k=s.k->r=s):(ltN r.d s.d).isSome=true:=by
 by_cases e1:r.pt=s.pt
 . by_cases e2:r.k=s.k
   . have:=h e2
     subst this
     have fl:=(Row.flat hr).1
     have Rb:L3.flat (.tup r.ls)=true:=by
      simp[Row.d,L3.flat,L3.aX]at fl
      simpa[L3.flat]using fl
     have:=iw _ Rb
     simp[Row.d,ltN,fZ,eV,this]
   . simp[Row.d,ltN,fZ,eV,e1,e2]
 . simp[Row.d,ltN,fZ,eV,e1]
theorem D6 {p:Int}{most:Nat}{rws:List Row}(h:Rows p most rws)(hm:most<=50):xW (rws.map Row.d)=true:=by
 have hl:=h.len
 obtain⟨h1,h2⟩:=Row.aX h.g
 simp only[xW,Zn,aag,decide_eq_true_eq,ZH]
 refine⟨⟨⟨⟨by simp;omega,h1⟩,by omega⟩,.inr (.inl λx hx=>?_)⟩,λx hx y hy=>?_⟩
 . obtain⟨r,_,rfl⟩:=Zu.mp hx
   rfl
 . obtain⟨r,hr,rfl⟩:=Zu.mp hx
   obtain⟨s,hs,rfl⟩:=Zu.mp hy
   exact Row.lt (h.g r hr) (qq h.pw r hr s hs)
theorem ph {α β:Type}{f:α->β}:∀(rs:List α) (l:List β),l.Perm (rs.map f)->∃ss:List α,ss.Perm rs/\l=ss.map f
 | [],l,h=>⟨[],.refl _,by simpa using h⟩
 |r::rs,l,h=>by
  have hm:f r∈l:=h.mem_iff.mpr (by simp)
  obtain⟨a,b,rfl⟩:=acH hm
  have h2:(a++b).Perm (rs.map f):=by
   have:=(af_ (a:=f r) (l₁:=a) (l₂:=b)).symm.trans h
   rw[ZT]at this
   exact List.Perm.cons_inv this
  obtain⟨ss,h3,h4⟩:=ph rs _ h2
  obtain⟨s1,s2,rfl,h5,h6⟩:=List.map_eq_append_iff.mp h4.symm
  exact⟨s1++r::s2,af_.trans (h3.cons r),by simp[h5,h6]⟩
structure Told (p:Int)(rws:List Row)(h_:Row->D):Prop where
 t:∀r∈rws,if bJ r.dd&&r.e.isSome then jl p (h_ r)=true else h_ r = .az
noncomputable def rJ (h_:Row->D)(r:Row):D:=.tup (r.ls ++ [h_ r])
def XB (p:Int)(rows:List D)(g:G)(ss:List Row)(i:Nat)(σ:Sg)(gg:G):Prop:=i<=ss.length->∃st tl ks o5 o6 o7 o8 o9 o10 o11,σ = [some (.int p),some (.lst rows),some (.tup st),some (.aI g.length),some (.ref (g.length+1)),o5,o6,o7,o8,o9,o10,o11]/\gg=g ++ [tl,ks.map D.int]/\TI p (ss.take i) st tl ks
theorem IG {rws:List Row}{σ:Sg}{gg:G}(h:σ[1]? = some (some (.lst (rws.map Row.d))))(hl:rws.length<=100):nums σ gg=some (.lst (rws.map λr=>.int r.k),gg):=by
 have hz:aD (rws.map Row.d).length=true:=aK (by simp;omega)
 have c:=eO (t:=gT 3 (au (gN 1) (au (gN 2) (au (gN 3) aM)))) (c:=aN) (e:=aa 2) (h:=λd=>match d with|.tup [_,k,_]=>k|_=>.az) (λσ=>∃a b c,σ = [none,a,b,c]) (rws.map Row.d) [none,none,none,none] gg ⟨_,_,_,rfl⟩ (by
  rintro d hm σ ⟨a,b,c,rfl⟩
  obtain⟨r,hr,rfl⟩:=Zu.mp hm
  exact⟨[none,some (.int r.pt),some (.int r.k),some (.tup r.ls)],by simp[Row.d],by simp,by simp[Row.d],⟨_,_,_,rfl⟩⟩)
 have sb:bH [none,none,none,none] σ = [none,none,none,none]:=rfl
 rw[Z0]at c
 have e2:((λd:D=>match d with|.tup [_,k,_]=>k|_=>D.az) ∘ Row.d)=λr=>D.int r.k:=rfl
 rw[e2]at c
 simp[nums,h,sb,c]
 simpa using hz
noncomputable def ju (tl:List D)(r:Row):D:=(aW tl (.int r.k)).getD .az
theorem IH {rws:List Row}{σ:Sg}{gg:G}{n:Nat}{tl:List D}(h:σ[1]? = some (some (.lst (rws.map Row.d))))(h3:σ[3]? = some (some (.aI n)))(ha:gg[n]? = some tl)(hl:rws.length<=100):D3 σ gg=some (.lst (rws.map (rJ (ju tl))),gg):=by
 have hz:aD (rws.map Row.d).length=true:=aK (by simp;omega)
 have z5:aD 5=true:=aK (by omega)
 have c:=eO (t:=gT 3 (au (gN 1) (au (gN 2) (au (gN 3) aM)))) (c:=aN) (e:=aj aR (aa 3) (aO aJ (af (bX fg i6 (aa 4) (af (aa 2) ag)) ag))) (h:=λd=>match d with|.tup [_,k,.tup ls]=>.tup (ls ++ [(aW tl k).getD .az])|_=>.az) (λσ=>∃a b c,σ = [none,a,b,c,some (.aI n)]) (rws.map Row.d) [none,none,none,none,some (.aI n)] gg ⟨_,_,_,rfl⟩ (by
  rintro d hm σ ⟨a,b,c,rfl⟩
  obtain⟨r,hr,rfl⟩:=Zu.mp hm
  exact⟨[none,some (.int r.pt),some (.int r.k),some (.tup r.ls),some (.aI n)],by simp[Row.d],by simp,by simp[Row.d,ha,Row.ls],⟨_,_,_,rfl⟩⟩)
 have sb:bH [none,none,none,none,some 3] σ = [none,none,none,none,some (.aI n)]:=by simp[bH,h3]
 rw[Z0]at c
 have e2:((λd:D=>match d with|.tup [_,k,.tup ls]=>.tup (ls ++ [(aW tl k).getD .az])|_=>.az) ∘ Row.d)=rJ (ju tl):=rfl
 rw[e2]at c
 simp[D3,h,sb,c]
 simpa using hz
theorem II {rws:List Row}{σ:Sg}{gg:G}{n:Nat}{ks:List Int}(h4:σ[4]? = some (some (.ref n)))(MB:σ[11]? = some (some (.lst (rws.map λr=>.int r.k))))(ha:gg[n]? = some (ks.map D.int))(hk:∀k∈ks,∃r∈rws,r.k=k)(hl:ks.length<=100):
  ∃sY:List Int,D4 σ gg=some (.lst (sY.map D.int),gg)/\sY.length=ks.length:=by
 have hz:aD ks.length=true:=aK (by omega)
 have hf:(rws.map λr=>D.int r.k).all dw=true:=ZH.mpr λx hx=>by
  obtain⟨r,_,rfl⟩:=Zu.mp hx
  rfl
 have c:=eO (t:=gN 1) (c:=aN) (e:=bX dB cP (aa 2) (af (aa 1) ag)) (h:=λd=>.int (((iA (rws.map λr=>D.int r.k) d).getD 0:Nat):Int)) (λσ=>∃a,σ = [none,a,some (.lst (rws.map λr=>.int r.k))]) (ks.map D.int) [none,none,some (.lst (rws.map λr=>.int r.k))] gg ⟨_,rfl⟩ (by
  rintro d hm σ ⟨a,rfl⟩
  obtain⟨k,uX,rfl⟩:=Zu.mp hm
  refine⟨[none,some (.int k),some (.lst (rws.map λr=>.int r.k))],by simp,by simp,?_,⟨_,rfl⟩⟩
  obtain⟨r,hr,e⟩:=hk k uX
  obtain⟨j,hj⟩:∃j,iA (rws.map λr=>D.int r.k) (.int k)=some j:=by
   unfold iA
   have:(((rws.map λr=>D.int r.k).findIdx? λy=>aH y (.int k))).isSome=true:=by
     rw[List.findIdx?_isSome,aaW]
     exact⟨.int r.k,Zu.mpr ⟨r,hr,rfl⟩,by simp[eV,e]⟩
   exact abm.mp this
  have fk:dw (.int k)=true:=rfl
  simp[cP,hf,hj,fk]
  simpa using hf)
 have c2:=mK (t:=gN 1) (c:=aN) (e:=bX dB cP (aa 2) (af (aa 1) ag)) ha (ks.map D.int).length [none,none,some (.lst (rws.map λr=>.int r.k))] _ (Zy _) (λσ d q h=>ID h) (λσ q h=>by cases h;rfl) (λσ q h=>by
   rw[xY]at h
   obtain⟨q1,h1,h⟩:=bind_some h
   have e1:q1.2=gg:=by
     rw[gL]at h1
     split at h1
     . cases h1;rfl
     . cases h1
   split at h
   . obtain⟨q2,h2,h⟩:=bind_some h
     have e2:q2.2=gg:=by
       rw[jM]at h2
       obtain⟨q3,h3,h2⟩:=bind_some h2
       rw[gL]at h3
       split at h3
       . cases h3;cases h2;exact e1
       . cases h3
     unfold cP at h
     split at h
     . split at h
       . obtain⟨j,_,h⟩:=ZF.mp h
         cases h;exact e2
       . cases h
     . cases h
   . cases h) (by rw[abW,abR];exact c)
 have sb:bH [none,none,some 11] σ = [none,none,some (.lst (rws.map λr=>.int r.k))]:=by simp[bH,MB]
 refine⟨ks.map λk=>(((iA (rws.map λr=>D.int r.k) (.int k)).getD 0:Nat):Int),?_,by simp⟩
 rw[ZN]at c2
 simp[D4,h4,ha,sb,c2,hz]
set_option maxHeartbeats 4000000 in
theorem MC {p:Int}{most:Nat}{rws:List Row}{g:G}{Q:D×G->Prop}(p0:0<p)(hp:p<=100)(hm:most<=50)(R:Rows p most rws)(hc:Clean g)
   (q:∀h_ sY,Told p rws h_->Q (.tup [.tup (rws.map (rJ h_)),.tup sY],g)):
   wp (aC false 12 2 vY [.int p,.lst (rws.map Row.d)] g) Q:=by
 have hlen:=R.len
 refine fN rfl ?_
 unfold vY
 have mz:b8 (.tup [.int 0]) (.int p) g=some (.tup (ZR p.toNat (D.int 0)),g):=by
   rw[Ls (by omega) (by omega) (by simp)]
   simp
 have so:=D6 R hm
 obtain⟨ss,eA,kr⟩:=ph rws _ (p_ (rws.map Row.d))
 have sx:∀g,gv [.lst (rws.map Row.d)] g=some (.lst (lx (rws.map Row.d)),g):=λg=>by
   show(match jQ [.lst (rws.map Row.d)] g with|some r=>some r|none=>jy [.lst (rws.map Row.d)] g)=_
   simp[jQ,ff,so]
 simp[mz,sx]
 rw[kr]
 have h0:St p (ZR p.toNat (D.int 0)):=⟨by simp;omega,λx hx=>by
   obtain⟨_,rfl⟩:=acI.mp hx
   decide⟩
 have sl:ss.length=rws.length:=eA.length_eq
 refine iz (XB p (rws.map Row.d) g ss) _ 0 _ _ (λ_=>⟨_,[],[],none,none,none,none,none,none,none,rfl,rfl,⟨h0,.nil,by simp,(λj d e=>by cases e),by simp,by simp,by simp⟩⟩) ?_ ?_
 . intro j d σ gg sR hI
   rw[abq]at *
   rw[Z1]at sR
   obtain⟨r,hr,rfl⟩:=ZF.mp sR
   have j0:j<ss.length:=(Zs.mp hr).1
   obtain⟨st,tl,ks,o5,o6,o7,o8,o9,o10,o11,rfl,rfl,I⟩:=hI (by omega)
   have tk:ss.take (j+1)=ss.take j ++ [r]:=by rw[List.take_succ,hr];rfl
   have ke:r∈rws:=eA.mem_iff.mp (Z_ hr)
   unfold Q8 Row.d Row.ls
   simp
   refine D5 hp I (R.g r ke) (by simp;omega) λdH Fw sW I'=>?_
   exact λ_=>⟨_,_,_,_,_,_,_,_,_,_,rfl,rfl,by rw[tk];exact I'⟩
 . intro σ gg hI
   rw[ZN,abq]at hI
   obtain⟨st,tl,ks,o5,o6,o7,o8,o9,o10,o11,rfl,rfl,I⟩:=hI (by omega)
   rw[List.take_length]at I
   have Bx:rws.length<=100:=by omega
   have kl:=I.MA
   have e1:∀gg,nums [some (.int p),some (.lst (rws.map Row.d)),some (.tup st),some (.aI g.length),some (.ref (g.length+1)),o5,o6,o7,o8,o9,o10,o11] gg=_:=λgg=>IG (rws:=rws) rfl Bx
   have e2:=IH (rws:=rws) (σ:=[some (.int p),some (.lst (rws.map Row.d)),some (.tup st),some (.aI g.length),some (.ref (g.length+1)),o5,o6,o7,o8,o9,o10,some (.lst (rws.map λr=>.int r.k))]) (gg:=g ++ [tl,ks.map D.int]) (n:=g.length) rfl rfl FF Bx
   obtain⟨sY,e3,e4⟩:=II (rws:=rws) (σ:=[some (.int p),some (.lst (rws.map Row.d)),some (.tup st),some (.aI g.length),some (.ref (g.length+1)),o5,o6,o7,o8,o9,o10,some (.lst (rws.map λr=>.int r.k))]) (gg:=g ++ [tl,ks.map D.int]) (n:=g.length+1) rfl rfl BG (λk hk=>by
     obtain⟨r,h1,h2⟩:=I.ue k hk
     exact⟨r,eA.mem_iff.mp h1,h2⟩) (by omega)
   have y1:aD rws.length=true:=aK (by omega)
   have y2:aD sY.length=true:=aK (by omega)
   have tn:∀r∈rws,∀m,bz m (ju tl r)=true:=λr hr m=>by
     unfold ju
     cases e:aW tl (.int r.k)with
     |none=>rfl
     |some d=>exact(qp (I.t1 _ _ e).1).2 m
   simp[e1,e2,e3,y1,y2]
   have tk:(g ++ [tl,ks.map D.int]).take g.length=g:=by simp
   refine⟨?_,λx hx=>hc x hx _,q (ju tl) _ ⟨λr hr=>?_⟩⟩
   . have a1:aY g.length (rws.map (rJ (ju tl)))=true:=cF λx hx=>by
       obtain⟨r,hr,rfl⟩:=Zu.mp hx
       have b1:=(R.g r hr).dd.bz g.length
       have b2:=tn r hr g.length
       have b3:bz g.length (eD r.e)=true:=by cases r.e<;>rfl
       simp[rJ,Row.ls,bz,aY,b1,b2,b3]
     have a2:=DV (n:=g.length) sY
     simp[bz,aY,a1,a2]
   . split
     . rename_i v5
       rw[Zn]at v5
       obtain⟨d,e⟩:=abm.mp (I.t2 r (eA.mem_iff.mpr hr) v5.1 v5.2)
       have:ju tl r=d:=by simp[ju,e]
       rw[this]
       exact(I.t1 _ _ e).1
     . rename_i v5
       cases e:aW tl (.int r.k)with
       |none=>simp[ju,e]
       |some d =>
        obtain⟨_,s,s1,s2,s3,s4⟩:=I.t1 _ _ e
        have:=qq R.pw s (eA.mem_iff.mp s1) r hr s2
        subst this
        exact absurd (by rw[s3,s4];rfl) v5
noncomputable def rt (x:Row×D):D:=.tup [.int x.1.h,x.1.dd,.int x.1.b,eD x.1.e,x.2]
structure aS (p:Int)(x:Row×D):Prop where
 r:mR p x.1
 t:if bJ x.1.dd&&x.1.e.isSome then jl p x.2=true else x.2 = .az
def XC (x y:Row×D):Prop:=x.1.b<=y.1.b/\(x.1.h=y.1.h->∃e,x.1.e=some e/\e<=y.1.b)
theorem aS.row (h:aS p x):rH p (rt x)=true:=by
 have h1:=h.r.dd.told
 have h2:=h.r.h0
 have h3:=h.r.h9
 have h4:=h.r.b0
 have h5:=h.t
 have tm:mQ (.int x.1.b) (eD x.1.e)=true:=by
   have:=h.r.eb
   cases e:x.1.e with
   |none=>simp[mQ,eD,h4]
   |some y=>have:=this y e;simp[mQ,eD,h4,this]
 have nn:iZ (eD x.1.e)= !x.1.e.isSome:=by cases x.1.e<;>rfl
 simp only[rt,rH,within,h1,tm,nn,Bool.not_not,h2,h3,decide_true,Bool.and_self,adL]
 split
 . rename_i z;rw[if_pos z]at h5;exact h5
 . rename_i z;rw[if_neg z]at h5;rw[h5];rfl
theorem aS.nf (h:aS p x):Pd.nf (rt x)=true:=by
 have h1:=h.r.dd.nf
 have h5:=h.t
 have h2:Pd.nf (eD x.1.e)=true:=by cases x.1.e<;>rfl
 have h3:Pd.nf x.2=true:=by
  split at h5
  . exact(qp h5).1
  . rw[h5];rfl
 simp[rt,Pd.nf,qd,h1,h2,h3]
theorem IJ (R:Rows p most rws)(T:Told p rws h_):rws.map (rJ h_)=(rws.map λr=>(r,h_ r)).map rt/\(∀x∈rws.map λr=>(r,h_ r),aS p x)/\(rws.map λr=>(r,h_ r)).Pairwise XC:=by
 refine⟨by rw[Z0];rfl,λx hx=>?_,?_⟩
 . obtain⟨r,hr,rfl⟩:=Zu.mp hx
   exact⟨R.g r hr,T.t r hr⟩
 . rw[ab_]
   exact R.pw.imp λh=>⟨h.2.1,h.2.2⟩
theorem cE {α:Type}{f h:α->D}{t:FG}{c:FT}{e:FE}(I:Sg->Prop):∀(xs:List α) (σ:Sg) (g:G),I σ->(∀x∈xs,∀σ,I σ->∃σ1,t (f x) σ g=some (σ1,g)/\c σ1 g=some (true,g)/\e σ1 g=some (h x,g)/\I σ1)->b6 t c e (xs.map f) σ g=some (xs.map h,g)
 | [],_,_,_,_=>rfl
 |x::xs,σ,g,hi,hh=>by
  obtain⟨σ1,h1,h2,h3,h4⟩:=hh x ZO σ hi
  have ih:=cE I xs σ1 g h4 λx hx=>hh x (ZQ _ hx)
  simp only[ZT,b6,h1,h2,h3,Zv,if_true,ih]
end Pd
namespace Od
open PySem L3 L2 RI Pd
noncomputable def x9:FS:=aG (aj b8 (aO aJ (af (fC (.int 0)) ag)) (aa 0))
noncomputable def v7:FS:=aG (mw (aj oEq (aj ax (aj ax (aa 0) (fC (.int 1))) (fC (.int 0))) (fC (.str "put"))) (aj oEq (aj ax (aa 0) (fC (.int 4))) (aa 1)))
noncomputable def pv:FS:=av (aA (aj ax (aa 0) (fC (.int 1))) (gN 2)) (av (bq (aF (aj oEq (aj ax (aa 2) (fC (.int 0))) (fC (.str "look")))) (aG (aa 1)) aL) (aG (aj aR (aj aR (cR (aa 1) cQ (cA (aj ax (aa 2) (fC (.int 1))))) (aO aJ (af (aj ax (aa 2) (fC (.int 2))) ag))) (cR (aa 1) (cA (aj aR (aj ax (aa 2) (fC (.int 1))) (fC (.int 1)))) cQ))))
noncomputable def FH (within:Fn):FS:=aG (aq eZ (af (aU aV (bu (aa 1)) [none,none,some 0] (gN 1) aN (aq within (af (aa 1) (af (fC (.int 0)) (af (aj (aP a_ (· - ·)) (aq cu (af (aa 2) ag)) (fC (.int 1))) ag))))) ag))
noncomputable def x_:FS:=aG (aq eZ (af (aU aV (dY (aa 0)) [none,none,none,some 1] (gT 2 (au (gN 1) (au (gN 2) aM))) (aF (aj cD (aj ax (aa 2) (fC (.int 3))) (fC .az))) (aj hG (aa 1) (aa 3))) ag))
noncomputable def qr (ahead:Fn):FS:=bq (bN (aq js (af (aU aV (bu (cR (aa 1) cQ (cA (aa 2)))) [none,none,some 3,some 0] (gN 1) aN (aq ahead (af (aj ax (aa 3) (aa 2)) (af (aj ax (aa 3) (aa 1)) ag)))) ag))) (aG (fC (.bl false))) aL
noncomputable def rK (ahead:Fn):FS:=av (cj (dY (aa 1)) (gT 2 (au (gN 2) (au (gN 3) aM))) (qr ahead)) (aG (fC (.bl true)))
noncomputable def tY (fits behind:Fn):FS:=av (bq (b5 (bN (aq fits (af (aa 3) (af (aa 2) ag))))) (aG (fC (.bl false))) aL) (aA (aq behind (af (aa 3) (af (aa 2) ag))) (gN 2))
noncomputable def mU (zeros fits behind:Fn):FS:=av (aA (aq zeros (af (aa 0) ag)) (gN 2)) (av (cj (bu (aa 1)) (gN 3) (tY fits behind)) (aG (fC (.bl true))))
noncomputable def gR (tupleOf are ended turns IK:Fn):FS:=av (bq (gW (b5 (bN (aq tupleOf (af (aa 2) (af (fC (.int 0)) (af (aq cu (af (aa 1) ag)) ag)))))) (b5 (bN (aq are (af (aa 1) (af (aa 2) ag)))))) (aG (fC (.bl false))) aL) (av (bq (gW (aF (aj oLt (iD (aa 2)) (aq cu (af (aa 2) ag)))) (b5 (bN (aq ended (af (aa 1) (af (aa 2) ag)))))) (aG (fC (.bl false))) aL) (aG (dS (aq turns (af (aa 1) (af (aa 2) ag))) (aq IK (af (aa 0) (af (aU aV (bu (aa 2)) [none,none,some 1] (gN 1) aN (aj ax (aa 2) (aa 1))) ag))))))
abbrev Rt:=Row×D
noncomputable def zs (p:Int):List D:=ZR p.toNat (.int 0)
noncomputable def x0:Rt:=⟨⟨0,0,0,.az,0,none⟩,.az⟩
noncomputable def ay (xs:List Rt)(k:Nat):Rt:=xs.getD k x0
noncomputable def kD (ks:List Nat):List D:=ks.map λ(k:Nat)=>D.int k
theorem qs:∀(n:Nat) (d:D),isVal n d=true->flat d=true/\dep d<=n
 | 0,d,h=>by
  unfold isVal j_ within at h
  split at h
  . exact⟨rfl,Zy _⟩
  . cases h
 |n+1,d,h=>by
  cases d with
  |tup xs =>
    simp only[isVal,Zn,ZH]at h
    have:∀ys:List D,(∀y∈ys,isVal n y=true)->aX ys=true/\bS ys<=n:=λys=>by
     induction ys with
     |nil=>intro _;exact⟨rfl,by simp[bS]⟩
     |cons y ys ih =>
      intro hy
      obtain⟨h1,h2⟩:=qs n y (hy y (by simp))
      obtain⟨h3,h4⟩:=ih λz hz=>hy z (by simp[hz])
      exact⟨by simp[aX,h1,h3],by simp[bS];omega⟩
    obtain⟨h1,h2⟩:=this xs h.2
    exact⟨by simpa[flat]using h1,by simp[dep];omega⟩
  |_=>first|exact⟨rfl,by simp[dep]⟩| (simp[isVal,j_,within]at h)
theorem lG (h:∀x∈xs,flat x=true/\dep x<=n):aX xs=true/\bS xs<=n:=by
 induction xs with
 |nil=>exact⟨rfl,by simp[bS]⟩
 |cons y ys ih =>
  obtain⟨h1,h2⟩:=h y (by simp)
  obtain⟨h3,h4⟩:=ih λz hz=>h z (by simp[hz])
  exact⟨by simp[aX,h1,h3],by simp[bS];omega⟩
theorem St.flat (h:St p st):L3.flat (.tup st)=true/\dep (.tup st)<=4:=by
 obtain⟨h1,h2⟩:=lG λx hx=>qs 3 x (h.2 x hx)
 exact⟨by simpa[L3.flat]using h1,by simp[dep];omega⟩
theorem D7 (h:jl p d=true):L3.flat d=true/\dep d<=4:=by
 unfold jl at h
 split at h
 . simp only[Zn,decide_eq_true_eq,ZH]at h
   exact St.flat (p:=p) h
 . cases h
theorem aS.zx (h:aS p x):L3.flat x.2=true/\dep x.2<=4:=by
 have:=h.t
 split at this
 . exact D7 this
 . rw[this];exact⟨rfl,by simp[dep]⟩
theorem St.zs (h:0<=p):St p (zs p):=⟨by simp[Od.zs];omega,λx hx=>by
 obtain⟨_,rfl⟩:=acI.mp hx
 decide⟩
theorem St.put (h:St p st)(hd:eJ p dd):St p (dg st dd):=by
 rcases hd with rfl|⟨c,v,rfl,c0,c1,hv⟩
 . exact h
 . have hl:=h.1
   refine⟨by simp[dg];omega,λx hx=>?_⟩
   simp only[dg]at hx
   rcases Zw.mp hx with hx|hx
   . exact h.2 x (aaP hx)
   . rcases ZE.mp hx with rfl|hx
     . exact jz hv
     . exact h.2 x (acp hx)
def kM (p:Int)(f:Fn):Prop:=∀g,f [.int p] g=some (.tup (zs p),g)
theorem D8 (h0:0<=p)(h1:p<=100):kM p (aC false 1 1 x9):=λg=>by
 refine bQ (σ':=[some (.int p)]) rfl ?_ rfl
 have mz:b8 (.tup [.int 0]) (.int p) g=some (.tup (zs p),g):=by
  rw[Ls (by omega) (by omega) (by simp)]
  simp[zs]
 simp[x9,mz]
noncomputable def lX (x:Rt)(st:List D):Bool:=!(bJ x.1.dd)||aH x.2 (.tup st)
theorem vZ:¬(ZW "put" = ZW "look"):=by decide
theorem sX:¬(ZW "look" = ZW "put"):=by decide
def jS (p:Int)(f:Fn):Prop:=∀x st g,aS p x->St p st->f [rt x,.tup st] g=some (.bl (lX x st),g)
theorem IL:jS p (aC false 2 2 v7):=λx st g hx hs=>by
 refine bQ (σ':=[some (rt x),some (.tup st)]) rfl ?_ rfl
 obtain⟨f1,f2⟩:=aS.zx hx
 obtain⟨f3,f4⟩:=St.flat hs
 have Rc:dep x.2<=60:=by omega
 have oe:oEq x.2 (.tup st) g=some (.bl (aH x.2 (.tup st)),g):=by unfold oEq;simp[f1,f3,Rc]
 unfold lX
 rcases hx.r.dd with hd|⟨c,v,hd,c0,c1,hv⟩
 . simp[v7,rt,hd,dF,fJ,lD,eq_str,flat,dep,sX,bJ,oe,f1,f3,Rc]
 . simp[v7,rt,hd,dF,fJ,lD,eq_str,flat,dep,vZ,bJ]
def iH (p:Int)(f:Fn):Prop:=∀x st g,aS p x->St p st->f [rt x,.tup st] g=some (.tup (dg st x.1.dd),g)
theorem BH (hp:p<=100):iH p (aC false 3 2 pv):=λx st g hx hs=>by
 refine bQ (σ':=[some (rt x),some (.tup st),some x.1.dd]) rfl ?_ rfl
 have Ra:=hs.1
 rcases hx.r.dd with hd|⟨c,v,hd,c0,c1,hv⟩
 . simp[pv,rt,hd,dF,fJ,eq_str,flat,dep,dg]
 . obtain⟨cn,rfl⟩:∃cn:Nat,c=cn:=⟨c.toNat,by omega⟩
   have dU:cn<st.length:=by omega
   have s1:eQ (.tup st) none (some (cn:Int)) g=some (.tup (st.take cn),g):=jN (tP dU)
   have s2:eQ (.tup st) (some ((cn:Int)+1)) none g=some (.tup (st.drop (cn+1)),g):=jN (qU dU)
   have y1:aD (min cn st.length+1)=true:=aK (by omega)
   have y2:aD (min cn st.length+1+(st.length-(cn+1)))=true:=aK (by omega)
   simp[pv,rt,hd,dF,fJ,pf,eq_str,flat,dep,vZ,dg,s1,s2,y1,y2]
noncomputable def cq:List D->List Rt->Bool
 |_,[]=>true
 |st,x::xs=>lX x st&&cq (dg st x.1.dd) xs
theorem MD (hf:jS p fi)(hb:iH p be):∀(xs:List Rt) (st:List D) (o3:Option D),(∀x∈xs,aS p x)->St p st->∃σ',forL (gN 3) (tY fi be) (xs.map rt) [some (.int p),L,some (.tup st),o3] g=some (if cq st xs then .nx else .rt (.bl false),σ',g)
 | [],st,o3,_,_=>⟨_,rfl⟩
 |x::xs,st,o3,h,hs=>by
  have h1:=hf x st g (h x (by simp)) hs
  have h2:=hb x st g (h x (by simp)) hs
  cases hk:lX x st with
  |false =>
   refine⟨[some (.int p),L,some (.tup st),some (rt x)],?_⟩
   simp[forL,tY,h1,hk,cq]
  |true =>
   obtain⟨σ',e⟩:=MD hf hb (L:=L) (g:=g) xs (dg st x.1.dd) (some (rt x)) (λy hy=>h y (by simp[hy])) (St.put hs (h x (by simp)).r.dd)
   refine⟨σ',?_⟩
   rw[show cq st (x::xs)=cq (dg st x.1.dd) xs by simp[cq,hk],<- e]
   simp[forL,tY,h1,h2,hk]
def mV (p:Int)(f:Fn):Prop:=∀xs g,(∀x∈xs,aS p x)->f [.int p,.lst (xs.map rt)] g=some (.bl (cq (zs p) xs),g)
theorem zy (h0:0<=p)(hz:kM p z)(hf:jS p fi)(hb:iH p be):mV p (aC false 4 2 (mU z fi be)):=λxs g hx=>by
 obtain⟨σ',e⟩:=MD hf hb (L:=some (.lst (xs.map rt))) (g:=g) xs (zs p) none hx (St.zs h0)
 cases hk:cq (zs p) xs with
 |true=>rw[hk]at e;exact bQ (σ':=σ') rfl (by simp[mU,hz g,e]) rfl
 |false=>rw[hk]at e;exact bQ (σ':=σ') rfl (by simp[mU,hz g,e]) rfl
noncomputable def kN (n:Nat)(d:D):Bool:=within d 0 ((n:Int)-1)
def tZ (f:Fn):Prop:=∀ss ts g,(∀t∈ts,isFn t=false)->ts.length<=1000->f [.tup ss,.tup ts] g=some (.bl (ts.all (kN ss.length)),g)
theorem ME (hw:lB w):tZ (aC false 2 2 (FH w)):=λss ts g ht hl=>by
 refine bQ (σ':=[some (.tup ss),some (.tup ts)]) rfl ?_ rfl
 have hz:aD ts.length=true:=aK (by omega)
 have c1:=eO (t:=gN 1) (c:=aN) (e:=aq w (af (aa 1) (af (fC (.int 0)) (af (aj (aP a_ (· - ·)) (aq cu (af (aa 2) ag)) (fC (.int 1))) ag)))) (h:=λo=>D.bl (kN ss.length o)) (λσ=>∃o,σ = [none,o,some (.tup ss)]) ts [none,none,some (.tup ss)] g ⟨_,rfl⟩ (by
  rintro d hm σ ⟨o,rfl⟩
  refine⟨[none,some d,some (.tup ss)],by simp,by simp,?_,⟨_,rfl⟩⟩
  simp[hw d _ _ g (ht d hm),kN])
 have sb:bH [none,none,some 0] [some (D.tup ss),some (D.tup ts)]= [none,none,some (D.tup ss)]:=rfl
 simp[FH,sb,c1,hz,dX]
theorem rL (ks:List Nat):aX (kD ks)=true/\bS (kD ks)=0:=qm λd hd=>by
 obtain⟨k,_,rfl⟩:=Zu.mp hd
 exact⟨_,rfl⟩
theorem PY (i:Nat)(ks:List Nat):((kD ks).any λy=>aH y (.int i))=ks.contains i:=by
 induction ks with
 |nil=>rfl
 |cons k ks ih =>
  simp only[kD,ZT,aaG,List.contains_cons]at ih ⊢
  rw[ih,eV]
  have:(decide ((k:Int)=(i:Int)))=(i == k):=by
   by_cases h:k=i
   . subst h;simp
   . have h':¬i=k:=λe=>h e.symm
     have h2:¬(k:Int)=(i:Int):=by omega
     simp[h2,h']
  rw[this]
theorem MF (i:Nat)(ks:List Nat)(g:G):ou (.int i) (.tup (kD ks)) g=some (ks.contains i):=by
 obtain⟨h1,h2⟩:=rL ks
 show AZ (.int i) (kD ks)=_
 unfold AZ
 rw[PY]
 simp[flat,h1,h2]
noncomputable def iI (xs:List Rt)(ks:List Nat):Bool:=xs.zipIdx.all λy=>y.1.1.e.isNone||ks.contains y.2
theorem jA (xs:List Rt):dD (xs.map rt)=xs.zipIdx.map λy=>.tup [.int (y.2:Nat),rt y.1]:=by
 simp[dD,aem,aaZ]
def rM (p:Int)(f:Fn):Prop:=∀xs ks g,(∀x∈xs,aS p x)->xs.length<=100->f [.tup (xs.map rt),.tup (kD ks)] g=some (.bl (iI xs ks),g)
theorem fK {α:Type}{f h:α->D}{t:FG}{c:FT}{e:FE}{cB:α->Bool}(I:Sg->Prop):∀(xs:List α) (σ:Sg) (g:G),I σ->(∀x∈xs,∀σ,I σ->∃σ1,t (f x) σ g=some (σ1,g)/\c σ1 g=some (cB x,g)/\(cB x=true->e σ1 g=some (h x,g))/\I σ1)->b6 t c e (xs.map f) σ g=some ((xs.filter cB).map h,g)
 | [],_,_,_,_=>rfl
 |d::ds,σ,g,hi,hh=>by
  obtain⟨σ1,h1,h2,h3,h4⟩:=hh d ZO σ hi
  have ih:=fK I ds σ1 g h4 λx hx=>hh x (ZQ _ hx)
  cases hc:cB d with
  |true =>
   rw[hc]at h2
   simp only[ZT,b6,h1,h2,h3 hc,Zv,if_true,ih,abd,hc]
  |false =>
   rw[hc]at h2
   simp only[ZT,b6,h1,h2,Zv,ZG,if_false,ih,abd,hc]
theorem D9 {p:Int}:rM p (aC false 2 2 x_):=λxs ks g hx hl=>by
 refine bQ (σ':=[some (.tup (xs.map rt)),some (.tup (kD ks))]) rfl ?_ rfl
 have hz:aD (dD (xs.map rt)).length=true:=aK (by simp[dD];omega)
 have c1:=fK (f:=λy:Rt×Nat=>.tup [.int (y.2:Nat),rt y.1]) (t:=gT 2 (au (gN 1) (au (gN 2) aM))) (c:=aF (aj cD (aj ax (aa 2) (fC (.int 3))) (fC .az))) (e:=aj hG (aa 1) (aa 3)) (cB:=λy=>y.1.1.e.isSome) (h:=λy=>D.bl (ks.contains y.2)) (λσ=>∃a b,σ = [none,a,b,some (.tup (kD ks))]) xs.zipIdx [none,none,none,some (.tup (kD ks))] g ⟨_,_,rfl⟩ (by
  rintro⟨y,i⟩ hm σ ⟨a,b,rfl⟩
  refine⟨[none,some (.int i),some (rt y),some (.tup (kD ks))],by simp,?_,λ_=>by simp[MF],⟨_,_,rfl⟩⟩
  cases he:y.1.e<;>simp[rt,vT,he,eD,isLit,cK])
 rw[<- jA]at c1
 have sb:bH [none,none,none,some 1] [some (D.tup (xs.map rt)),some (D.tup (kD ks))]= [none,none,none,some (D.tup (kD ks))]:=rfl
 have e2:((xs.zipIdx.filter λy=>y.1.1.e.isSome).map λy=>ks.contains y.2).all id=iI xs ks:=by
  unfold iI
  rw[acD,ago]
  congr 1
  funext y
  cases y.1.1.e<;>simp
 simp only[x_]
 simp[sb,c1,hz,dX]
 rw[<- e2]
 simp[acD,aaZ]
noncomputable def cM (x y:Rt):Bool:=Pd.qh (rt x) (rt y)
theorem jT (x y:Rt):cM x y=match x.1.e with|some e=>decide (e<=y.1.b)|none=>false:=by
 have e1:eI (rt x)=x.1.e:=by cases he:x.1.e<;>simp[rt,eI,he,eD]
 have e2:bI (rt y)=y.1.b:=rfl
 unfold cM Pd.qh
 rw[e1,e2]
 try (cases x.1.e<;>first|rfl| (exact decide_eq_decide.mpr Iff.rfl))
noncomputable def b9 (xs:List Rt):List Nat->List Nat->Bool
 |_,[]=>true
 |seen,k::ks=>!(seen.any λi=>cM (ay xs k) (ay xs i))&&b9 xs (seen ++ [k]) ks
theorem nK (h:k<xs.length):(xs.map rt)[k]? = some (rt (ay xs k)):=by
 simp[ay,h]
theorem cx (h:k<xs.length):ay xs k∈xs:=by simp[ay,h]
theorem FJ (ha:iG p ah)(hx:∀x∈xs,aS p x):∀(rest seen:List Nat) (o2 o3:Option D),(∀k∈seen,k<xs.length)->(∀k∈rest,k<xs.length)->(seen++rest).length<=1000 ->
  ∃σ',forL (gT 2 (au (gN 2) (au (gN 3) aM))) (qr ah) ((rest.zipIdx seen.length).map λy=>.tup [.int (y.2:Nat),.int (y.1:Nat)]) [some (.tup (xs.map rt)),some (.tup (kD (seen++rest))),o2,o3] g=some (if b9 xs seen rest then .nx else .rt (.bl false),σ',g)
 | [],seen,o2,o3,_,_,_=>⟨_,rfl⟩
 |k::rest,seen,o2,o3,h1,h2,hl=>by
  have hk:k<xs.length:=h2 k (by simp)
  have sl:eQ (.tup (kD (seen++k::rest))) none (some ((seen.length:Nat):Int)) g=some (.tup (kD seen),g):=by
   rw[jN (tP (by simp[kD]))]
   simp[kD,List.take_append]
  have Fq:seen.length<=1000:=by simp at hl;omega
  have hz:aD (kD seen).length=true:=aK (by simp[kD];omega)
  have gk:=eH (nK hk)
  have c1:=cE (f:=λ(i:Nat)=>D.int i) (t:=gN 1) (c:=aN) (e:=aq ah (af (aj ax (aa 3) (aa 2)) (af (aj ax (aa 3) (aa 1)) ag))) (h:=λi=>D.bl (cM (ay xs k) (ay xs i))) (λσ=>∃a,σ = [none,a,some (.int k),some (.tup (xs.map rt))]) seen [none,none,some (.int k),some (.tup (xs.map rt))] g ⟨_,rfl⟩ (by
   rintro i hm σ ⟨a,rfl⟩
   have gi:=eH (nK (h1 i hm))
   refine⟨[none,some (.int i),some (.int k),some (.tup (xs.map rt))],by simp,by simp,?_,⟨_,rfl⟩⟩
   have:=ha (rt (ay xs k)) (rt (ay xs i)) g (hx _ (cx hk)).row (hx _ (cx (h1 i hm))).row
   simp[gk,gi,this,cM])
  have sb:∀c:Option D,bH [none,none,some 3,some 0] [some (D.tup (xs.map rt)),c,some (.int (seen.length:Nat)),some (.int k)]= [none,none,some (.int k),some (D.tup (xs.map rt))]:=λ_=>rfl
  have c2:b6 (gN 1) aN (aq ah (af (aj ax (aa 3) (aa 2)) (af (aj ax (aa 3) (aa 1)) ag))) (kD seen) [none,none,some (.int k),some (.tup (xs.map rt))] g=_:=c1
  have bd:qr ah [some (.tup (xs.map rt)),some (.tup (kD (seen++k::rest))),some (.int (seen.length:Nat)),some (.int k)] g=some (if(seen.any λi=>cM (ay xs k) (ay xs i))then .rt (.bl false)else .nx,[some (.tup (xs.map rt)),some (.tup (kD (seen++k::rest))),some (.int (seen.length:Nat)),some (.int k)],g):=by
   cases hb:(seen.any λi=>cM (ay xs k) (ay xs i))<;>simp[qr,sl,sb,c2,hz,dX,js,ff,List.any_map,aaZ,hb]
  cases hb:(seen.any λi=>cM (ay xs k) (ay xs i))with
  |true =>
   rw[hb]at bd
   refine⟨[some (.tup (xs.map rt)),some (.tup (kD (seen++k::rest))),some (.int (seen.length:Nat)),some (.int k)],?_⟩
   simp only[b9,hb,ZI,aey,aga,ZT]
   simp[forL,bd]
  |false =>
   rw[hb]at bd
   obtain⟨σ',e⟩:=FJ ha (g:=g) hx rest (seen ++ [k]) (some (.int (seen.length:Nat))) (some (.int k)) (λi hi=>by
    rcases Zw.mp hi with hi|hi
    . exact h1 i hi
    . simp at hi;subst hi;exact hk) (λi hi=>h2 i (by simp[hi])) (by simpa using hl)
   refine⟨σ',?_⟩
   rw[show b9 xs seen (k::rest)=b9 xs (seen ++ [k]) rest by simp[b9,hb],<- e]
   rw[aaU,aeA,aaY,acW]
   simp only[aga,ZT]
   simp[forL,bd]
def rN (p:Int)(f:Fn):Prop:=∀xs ks g,(∀x∈xs,aS p x)->(∀k∈ks,k<xs.length)->ks.length<=1000->f [.tup (xs.map rt),.tup (kD ks)] g=some (.bl (b9 xs [] ks),g)
theorem D_ (ha:iG p ah):rN p (aC false 4 2 (rK ah)):=λxs ks g hx hk hl=>by
 obtain⟨σ',e⟩:=FJ ha (g:=g) hx ks [] none none (by simp) hk (by simpa using hl)
 have en:dD (kD ks)=(ks.zipIdx.map λy=>.tup [.int (y.2:Nat),.int (y.1:Nat)]):=by
  simp[dD,kD,aem,aaZ]
 rw[aaK,List.length_nil,<- en]at e
 cases hb:b9 xs [] ks with
 |true=>rw[hb]at e;exact bQ (σ':=σ') rfl (by simp[rK,e]) rfl
 |false=>rw[hb]at e;exact bQ (σ':=σ') rfl (by simp[rK,e]) rfl
end Od
namespace Od
open PySem L3 L2 RI Pd PyProof.Rows
theorem v9:∀(ns σ:List Int),σ.Nodup->(ns.foldl acq σ=σ++ns/\(σ++ns).Nodup)\/((ns.foldl acq σ).length < σ.length+ns.length /\ ¬(σ++ns).Nodup)
 | [],σ,h=>.inl ⟨by simp,by simpa using h⟩
 |v::ns,σ,h=>by
  rw[ac9]
  by_cases hv:v∈σ
  . have e:acq σ v=σ:=by unfold acq;rw[if_pos];rw[aaW];exact⟨v,hv,by simp⟩
    rw[e]
    refine .inr ⟨?_,λhn=>?_⟩
    . rcases v9 ns σ h with h1|h1
      . rw[h1.1];simp
      . simp;omega
    . rw[aaD]at hn
      exact hn.2.2 v hv v (by simp) rfl
  . have e:acq σ v=σ ++ [v]:=by
      unfold acq
      rw[if_neg]
      rw[aaW]
      rintro⟨x,hx,e⟩
      have:=eq_of_beq e
      subst this
      exact hv hx
    have h2:(σ ++ [v]).Nodup:=by
      rw[aaD]
      exact⟨h,by simp,λa ha b hb=>by simp at hb;subst hb;exact λz=>hv (z ▸ ha)⟩
    have ih:=v9 ns (σ ++ [v]) h2
    rw[e]
    simpa[Nat.add_assoc,afl 1]using ih
theorem BI (ns:List Int):unlike ns=(ns.foldl acq []).length:=by
 unfold unlike abO
 rw[p9]
theorem BJ (ns:List Int):decide ((unlike ns:Int)<ns.length)= !decide ns.Nodup:=by
 rw[BI]
 rcases v9 ns [] acK with h|h
 . rw[h.1]
   have:ns.Nodup:=by simpa using h.2
   simp[this]
 . have h1:¬ns.Nodup:=by simpa using h.2
   have h2:=h.1
   have h3:(((ns.foldl acq []).length:Nat):Int)<(ns.length:Int):=by simp at h2;omega
   simp[h1,h3]
noncomputable def toN:D->Nat
 |.int i=>i.toNat
 |_=>0
noncomputable def fL (p:Int)(xs:List Rt)(ks:List Nat):Bool:=decide ks.Nodup&&(iI xs ks&&(b9 xs [] ks&&cq (zs p) (ks.map (ay xs))))
noncomputable def RB (p:Int)(xs:List Rt):D->Bool
 |.tup ts=>ts.all (kN xs.length)&&fL p xs (ts.map toN)
 |_=>false
theorem FK (h:ts.all (kN n)=true):ts=kD (ts.map toN) /\ ∀k∈ts.map toN,k<n:=by
 rw[ZH]at h
 constructor
 . unfold kD
   rw[Z0]
   conv=>lhs;rw[<- List.map_id ts]
   refine aar λt ht=>?_
   have:=h t ht
   unfold kN within at this
   split at this
   . simp only[Zn,decide_eq_true_eq]at this
     show D.int _=D.int _
     congr 1
     simp[toN];omega
   . cases this
 . intro k hk
   obtain⟨t,ht,rfl⟩:=Zu.mp hk
   have:=h t ht
   unfold kN within at this
   split at this
   . simp only[Zn,decide_eq_true_eq]at this
     simp[toN];omega
   . cases this
theorem kf:∀{n:Nat} {ks:List Nat},ks.Nodup->(∀k∈ks,k<n)->ks.length<=n
 | 0,[],_,_=>Zy _
 | 0,k::_,_,h=>absurd (h k (by simp)) (by omega)
 |n+1,ks,hn,h=>by
  have h1:=kf (n:=n) (hn.erase n) λk hk=>by
   have h2:=(hn.mem_erase_iff).mp hk
   have:=h k h2.2
   omega
  rw[List.length_erase]at h1
  split at h1<;>omega
theorem Ea (ks:List Nat):dE (kD ks)=some (ks.map λ(k:Nat)=>(k:Int)):=by
 induction ks with
 |nil=>rfl
 |cons k ks ih=>simp only[kD,ZT]at ih ⊢;simp[dE,ih]
theorem IM (ks:List Nat):(ks.map λ(k:Nat)=>(k:Int)).Nodup ↔ ks.Nodup:=by
 rw[aeW,aeW,ab_]
 constructor
 . exact λh=>h.imp λh e=>h (by rw[e])
 . exact λh=>h.imp λh e=>h (by omega)
def kO (p:Int)(f:Fn):Prop:=∀xs d g,(∀x∈xs,aS p x)->xs.length<=100->nf d=true->f [.int p,.tup (xs.map rt),d] g=some (.bl (RB p xs d),g)
theorem Eb (ht:eK t)(ha:tZ a)(he:rM p e)(hu:rN p u)(hf:mV p f):kO p (aC false 3 3 (gR t a e u f)):=λxs d g hx hl hd=>by
 refine bQ (σ':=[some (.int p),some (.tup (xs.map rt)),some d]) rfl ?_ rfl
 have e1:=ht d 0 (xs.length:Nat) g (tW hd)
 cases d with
 |tup ts =>
  have uq:∀t∈ts,isFn t=false:=λt h=>tW (rE hd t h)
  by_cases h:ts.length<=xs.length
  . have tl:dC (.tup ts) 0 (xs.length:Nat)=true:=by
     simp only[dC,Zn,decide_eq_true_eq];omega
    rw[tl]at e1
    have e2:=ha (xs.map rt) ts g uq (by omega)
    rw[ZN]at e2
    cases h1:ts.all (kN xs.length)with
    |false =>
     rw[h1]at e2
     simp[gR,e1,e2,RB,h1]
    |true =>
     rw[h1]at e2
     obtain⟨t1,t2⟩:=FK h1
     simp only[RB,h1,adL]
     generalize Zf:ts.map toN=ks at *
     subst t1
     have MG:ks.length<=xs.length:=by simpa[kD]using h
     have e3:=he xs ks g hx hl
     have e4:=hu xs ks g hx t2 (by omega)
     have e5:=hf (ks.map (ay xs)) g λx BK=>by
      obtain⟨k,hk,rfl⟩:=Zu.mp BK
      exact hx _ (cx (t2 k hk))
     have c1:=cE (f:=λ(i:Nat)=>D.int i) (t:=gN 1) (c:=aN) (e:=aj ax (aa 2) (aa 1)) (h:=λi=>rt (ay xs i)) (λσ=>∃a,σ = [none,a,some (.tup (xs.map rt))]) ks [none,none,some (.tup (xs.map rt))] g ⟨_,rfl⟩ (by
      rintro i hm σ ⟨a,rfl⟩
      have gi:=eH (nK (t2 i hm))
      exact⟨[none,some (.int i),some (.tup (xs.map rt))],by simp,by simp,by simp[gi],⟨_,rfl⟩⟩)
     have c2:b6 (gN 1) aN (aj ax (aa 2) (aa 1)) (kD ks) [none,none,some (.tup (xs.map rt))] g=some ((ks.map (ay xs)).map rt,g):=by rw[Z0];exact c1
     have sb:∀c d:Option D,bH [none,none,some 1] [c,some (.tup (xs.map rt)),d]= [none,none,some (.tup (xs.map rt))]:=λ_ _=>rfl
     have hz:aD (kD ks).length=true:=aK (by simp[kD];omega)
     have ls:iD (aa 2) [some (.int p),some (.tup (xs.map rt)),some (.tup (kD ks))] g=some (.int (unlike (ks.map λ(k:Nat)=>(k:Int))),g):=by
      have:ks.length<=4000:=by omega
      simp[iD,Ea,this]
     have lt:=BJ (ks.map λ(k:Nat)=>(k:Int))
     rw[ZN,show decide (ks.map λ(k:Nat)=>(k:Int)).Nodup=decide ks.Nodup from decide_eq_decide.mpr (IM ks)]at lt
     have kl:(kD ks).length=ks.length:=by simp[kD]
     have sZ:aD ks.length=true:=by rw[<- kl];exact hz
     generalize unlike (ks.map λ(k:Nat)=>(k:Int))=un at *
     generalize xa:ks.map (ay xs)=cs at *
     unfold fL
     cases hn:decide ks.Nodup with
     |false =>
      rw[hn]at lt
      have lt':(un:Int)<(ks.length:Int):=by simpa using lt
      simp[gR,e1,e2,ls,kl,lt']
     |true =>
      rw[hn]at lt
      have lt':¬(un:Int)<(ks.length:Int):=by simpa using lt
      cases hE:iI xs ks with
      |false =>
       rw[hE]at e3
       simp[gR,e1,e2,ls,kl,lt',e3]
      |true =>
       rw[hE]at e3
       cases hT:b9 xs [] ks with
       |false =>
        rw[hT]at e4
        simp[gR,e1,e2,ls,kl,lt',e3,e4]
       |true =>
        rw[hT]at e4
        simp[gR,e1,e2,ls,kl,lt',e3,e4,sb,c2,sZ,e5,xa]
  . have tl:dC (.tup ts) 0 (xs.length:Nat)=false:=by
     simp only[dC,aeJ,decide_eq_false_iff_not];omega
    rw[tl]at e1
    have rb:RB p xs (.tup ts)=false:=by
     simp only[RB]
     cases h1:ts.all (kN xs.length)with
     |false=>rfl
     |true =>
      obtain⟨t1,t2⟩:=FK h1
      have:¬(ts.map toN).Nodup:=λhn=>by
       have:=kf hn t2
       simp at this
       omega
      simp[fL,this]
    rw[rb]
    simp[gR,e1]
 |fn x=>cases hd
 |_=>simp[gR,e1,dC,RB]
theorem s_ (ds:List Int):dE (ds.map D.int)=some ds:=by
 induction ds with
 |nil=>rfl
 |cons d ds ih=>simp[dE,ih]
end Od
namespace Od
open PySem L3 L2 RI Pd
theorem qt {α:Type}{f h:α->D}{t:FG}{c:FT}{e:FE}{cB:α->Bool}{nn:Nat}{g:G}{xs:List α}(hg:g[nn]? = some (xs.map f))(I:Sg->Prop)(hh:∀x∈xs,∀σ,I σ->∃σ1,t (f x) σ g=some (σ1,g)/\c σ1 g=some (cB x,g)/\(cB x=true->e σ1 g=some (h x,g))/\I σ1):
  ∀(k:Nat) (σ:Sg),k<=xs.length->I σ->eC nn xs.length t c e k σ g=some (((xs.drop (xs.length-k)).filter cB).map h,g)
 | 0,σ,_,_=>by simp[eC,hg]
 |k+1,σ,hk,hi=>by
  have bf:xs.length-(k+1)<xs.length:=by omega
  obtain⟨σ1,h1,h2,h3,h4⟩:=hh (xs[xs.length-(k+1)]) (aau bf) σ hi
  have ih:=qt hg I hh k σ1 (by omega) h4
  rw[aaT bf,show xs.length-(k+1)+1=xs.length-k by omega]
  have rO:(xs.map f)[xs.length-(k+1)]? = some (f xs[xs.length-(k+1)]):=by simp[bf]
  simp only[eC,hg,Zv,ZN,if_true,rO,h1,h2]
  cases hc:cB xs[xs.length-(k+1)]with
  |true=>simp only[if_true,h3 hc,Zv,ih,abd,hc,ZT]
  |false=>simp only[ZG,if_false,ih,abd,hc]
noncomputable def Ff:FS:=Lv 5 6 (af (aj b8 (aO aJ (af (fC (.int 0)) ag)) (aa 0)) (af (aO mkRef ag) ag))
theorem v_:∀(ks seen:List Nat),(∀i∈seen,∀k∈ks,cM (ay xs k) (ay xs i)=false)->ks.Pairwise (λi k=>cM (ay xs k) (ay xs i)=false)->b9 xs seen ks=true
 | [],_,_,_=>rfl
 |k::ks,seen,h,hp=>by
  rw[adC]at hp
  simp only[b9,Zn,Z2,adQ]
  refine⟨λi hi=>by rw[h i hi k (by simp)];simp,v_ ks _ (λi hi k' pM=>?_) hp.2⟩
  rcases Zw.mp hi with hi|hi
  . exact h i hi k' (by simp[pM])
  . simp at hi;subst hi;exact hp.1 k' pM
theorem MH (ks:List Nat):(kD ks).map toN=ks:=by
 unfold kD
 rw[Z0]
 conv=>rhs;rw[<- List.map_id ks]
 exact aar λk _=>by simp[toN]
theorem PZ (h:∀k∈ks,k<n):(kD ks).all (kN n)=true:=by
 rw[ZH]
 intro d hd
 obtain⟨k,hk,rfl⟩:=Zu.mp hd
 have:=h k hk
 simp only[kN,within,Zn,decide_eq_true_eq]
 omega
theorem fq {Q:F×Sg×G->Prop}(h:wp (f1 σ g) λr=>r.1 = .nx/\wp (f2 r.2.1 r.2.2) Q):wp (av f1 f2 σ g) Q:=by
 obtain⟨⟨r,σ1,g1⟩,e,h1,h2⟩:=h
 dsimp only at h1 h2
 subst h1
 rw[bV,e]
 exact h2
theorem IP (h:k<n):kB n (k:Int)=some k:=by
 unfold kB
 have h1:(0:Int)<=(k:Int):=by omega
 have h2:(k:Int)<(n:Int):=by omega
 simp[h1,h2]
theorem MI {g:G}{m k:Nat}{xs:List D}{v:D}(hm:g[m]? = some xs)(hk:k<xs.length):putD (.ref m) (.int k) v g=some (g.set m (xs.set k v)):=by
 unfold putD
 simp only[hm,IP hk]
noncomputable def Rf (take:Fn):FS:=aA (aq take (af (aa 0) (af (aq cu (af (aa 3) ag)) ag))) (gN 5)
noncomputable def MJ:FS:=aA (aj ax (aa 3) (aa 5)) (gT 5 (au (gN 6) (au (gN 7) (au (gN 8) (au (gN 9) (au (gN 10) aM))))))
noncomputable def Rg (take:Fn):FS:=aA (aq take (af (aa 0) (af (aa 1) ag))) (gN 11)
noncomputable def MK:FE:=fH aV (mJ (aa 3)) [none,none] (gN 1) (aF (aj cD (aj ax (aa 1) (fC (.int 4))) (fC .az))) (aj ax (aa 1) (fC (.int 4)))
noncomputable def Rh (val:Fn):FS:=aA (aj aR (aj aR (cR (aa 10) cQ (cA (aa 11))) (aO aJ (af (aq val (af (aa 0) ag)) ag))) (cR (aa 10) (cA (aj aR (aa 11) (fC (.int 1)))) cQ)) (gN 13)
noncomputable def Ri (pick:Fn):FS:=aA (aO aJ (af (aa 6) (af (aa 7) (af (aa 8) (af (aa 9) (af (aq pick (af (aa 0) (af (aO c_ (af (aa 13) (af (aq pick (af (aa 0) (af (aa 12) ag))) ag))) ag))) ag)))))) (eR (aa 3) (aa 5))
noncomputable def Ec (take pick val:Fn):FS:=av (Rf take) (av MJ (bq (aF (aj cD (aa 10) (fC .az))) (av (Rg take) (av (aA MK (gN 12)) (av (Rh val) (Ri pick)))) aL))
noncomputable def ML:FS:=aG (aq cO (af (aa 3) ag))
noncomputable def wb (take pick val:Fn):FS:=av (aA (aq nu (af (aa 2) ag)) (gN 3)) (av (cj (fS (af (aj b8 (aq pick (af (aa 0) (af (aO c_ (af (fC (.int 0)) (af (fC (.int 1)) (af (fC (.int 1)) (af (fC (.int 2)) (af (fC (.int 3)) ag)))))) ag))) (aq fY (af (aj mP (aa 3) (aO c_ ag)) ag))) ag)) (gN 4) (Ec take pick val)) ML)
theorem aS.h_ (h:aS p x):x.2 = .az \/ ∃st,x.2 = .tup st/\St p st/\(bJ x.1.dd&&x.1.e.isSome)=true:=by
 have ht:=h.t
 split at ht
 . rename_i hc
   unfold jl at ht
   split at ht
   . rename_i st e
     simp only[Zn,decide_eq_true_eq,ZH]at ht
     exact .inr ⟨st,e,ht,hc⟩
   . cases ht
 . exact .inl ht
noncomputable def nL (ys:List Rt):List D:=(ys.filter λy=>!iZ y.2).map (·.2)
theorem MM (hy:∀y∈ys,aS p y)(hl:ys.length<=100)(hg:g[m]? = some (ys.map rt))(h3:σ[3]? = some (some (.ref m))):MK σ g=some (.lst (nL ys),g):=by
 have hz:aD ys.length=true:=aK (by omega)
 have c1:=qt (f:=rt) (t:=gN 1) (c:=aF (aj cD (aj ax (aa 1) (fC (.int 4))) (fC .az))) (cB:=λy=>!iZ y.2) (e:=aj ax (aa 1) (fC (.int 4))) (h:=λy=>y.2) (xs:=ys) hg (λσ=>∃o,σ = [none,o]) (by
  rintro y hm σ ⟨o,rfl⟩
  refine⟨[none,some (rt y)],by simp,?_,λ_=>by simp[rt,lD],⟨_,rfl⟩⟩
  rcases aS.h_ (hy y hm)with e|⟨st,e,_⟩
  . simp[rt,lD,e,isLit,cK,iZ]
  . simp[rt,lD,e,isLit,cK,iZ]) ys.length [none,none] (Zy _) ⟨_,rfl⟩
 rw[abW,abR]at c1
 have sb:bH [none,none] σ = [none,none]:=rfl
 unfold MK
 simp only[AW,HV,gL,h3,Zv,hg,ZN,hz,if_true,sb,c1]
 rfl
theorem MN (hy:∀y∈ys,aS p y)(hd:d∈nL ys):∃st,d = .tup st/\St p st:=by
 obtain⟨y,h1,rfl⟩:=Zu.mp hd
 obtain⟨h2,h3⟩:=ZU.mp h1
 rcases aS.h_ (hy y h2)with e|⟨st,e,h4,_⟩
 . rw[e]at h3;cases h3
 . exact⟨st,e,h4⟩
theorem Ed {ys:List Rt}{k:Nat}{d:D}(hk:k<ys.length):(ys.set k ((ay ys k).1,d)).map (·.1)=ys.map (·.1):=by
 rw[List.map_set]
 refine abz (by simp) λi h1 h2=>?_
 by_cases hi:k=i
 . subst hi;simp[ay,hk]
 . rw[List.getElem_set_ne hi]
def MO (n:Nat)(p:Int)(xs:List Rt)(B:Int)(g:G)(i:Nat)(σ:Sg)(gg:G):Prop:=i<=3->∃(ys:List Rt) (o4 o5 o6 o7 o8 o9 o10 o11 o12 o13:Option D),σ = [some (.ref n),some (.int p),some (.tup (xs.map rt)),some (.ref g.length),o4,o5,o6,o7,o8,o9,o10,o11,o12,o13]/\Mk g gg n (B+10+10*i) (ys.map rt)/\(∀y∈ys,aS p y)/\ys.map (·.1)=xs.map (·.1)
set_option maxHeartbeats 4000000 in
theorem MP {take pick val:Fn}(ht:dZ take)(hp:gw pick)(hv:gy val){n:Nat}{g gg:G}{B p:Int}{xs ys:List Rt}{o4 o5 o6 o7 o8 o9 o10 o11 o12 o13:Option D}{Q:F×Sg×G->Prop}(hB:B+10<2 ^ 40)(p0:0<p)(lW:p<=100)(m:Mk g gg n B (ys.map rt))(hy:∀y∈ys,aS p y)(hl:ys.length<=100)(h0:0<ys.length)
   (q:∀(BL:List Rt) g' o4 o5 o6 o7 o8 o9 o10 o11 o12 o13,Mk g g' n (B+6) (BL.map rt)->(∀y∈BL,aS p y)->BL.map (·.1)=ys.map (·.1)->Q (.nx,[some (.ref n),some (.int p),some (.tup (xs.map rt)),some (.ref g.length),o4,o5,o6,o7,o8,o9,o10,o11,o12,o13],g')):
   wp (Ec take pick val [some (.ref n),some (.int p),some (.tup (xs.map rt)),some (.ref g.length),o4,o5,o6,o7,o8,o9,o10,o11,o12,o13] gg) Q:=by
 unfold Ec
 refine fq ?_
 have a0:=m.at_
 unfold Rf
 simp[a0,b4]
 refine ht.w (by omega) (by omega) (by omega) m.hd λr g2 r0 r1 h2 f2=>?_
 have m2:=m.step h2 f2
 have a2:=m2.at_
 obtain⟨k,rfl⟩:∃k:Nat,r=k:=⟨r.toNat,by omega⟩
 have hk:k<ys.length:=by omega
 have gk:=eH (nK hk)
 have Rj:=hy _ (cx hk)
 simp
 have eB:MJ [some (.ref n),some (.int p),some (.tup (xs.map rt)),some (.ref g.length),o4,some (.int k),o6,o7,o8,o9,o10,o11,o12,o13] g2=some (.nx,[some (.ref n),some (.int p),some (.tup (xs.map rt)),some (.ref g.length),o4,some (.int k),some (.int (ay ys k).1.h),some (ay ys k).1.dd,some (.int (ay ys k).1.b),some (eD (ay ys k).1.e),some (ay ys k).2,o11,o12,o13],g2):=by
   simp[MJ,sH,b4,a2,gk,rt]
 refine⟨_,eB,?_⟩
 rcases aS.h_ Rj with e|⟨st,e,cH,BM⟩
 . simp[e,isLit,cK]
   exact q ys g2 _ _ _ _ _ _ _ _ _ _ (m2.mono (by omega)) hy rfl
 . simp[e,isLit,cK,Rg]
   refine ht.w (by omega) p0 (by omega) m2.hd λc g3 c0 c1 h3 f3=>?_
   have m3:=m2.step h3 f3
   have bt:=MM (σ:=[some (.ref n),some (.int p),some (.tup (xs.map rt)),some (.ref g.length),o4,some (.int k),some (.int (ay ys k).1.h),some (ay ys k).1.dd,some (.int (ay ys k).1.b),some (eD (ay ys k).1.e),some (.tup st),some (.int c),o12,o13]) hy hl m3.at_ rfl
   simp
   refine⟨_,bt,?_⟩
   have Ra:=cH.1
   obtain⟨cn,rfl⟩:∃cn:Nat,c=cn:=⟨c.toNat,by omega⟩
   have dU:cn<st.length:=by omega
   have s1:∀g,eQ (.tup st) none (some (cn:Int)) g=some (.tup (st.take cn),g):=λg=>jN (tP dU)
   have s2:∀g,eQ (.tup st) (some ((cn:Int)+1)) none g=some (.tup (st.drop (cn+1)),g):=λg=>jN (qU dU)
   have y1:aD (min cn st.length+1)=true:=aK (by omega)
   have y2:aD (min cn st.length+1+(st.length-(cn+1)))=true:=aK (by omega)
   simp[Rh,s1]
   refine hv.w (by omega) m3.hd λv g4 v0 h4 f4=>?_
   have m4:=m3.step h4 f4
   have Tz:St p (st.take cn++v::st.drop (cn+1)):=⟨by simp;omega,λx hx=>by
     rcases Zw.mp hx with hx|hx
     . exact cH.2 x (aaP hx)
     . rcases ZE.mp hx with rfl|hx
       . exact jz (.inl v0)
       . exact cH.2 x (acp hx)⟩
   simp[s2,y1,y2,Ri]
   have tn:nL ys ≠ []:=λz=>by
     have:st.map id=st:=by simp
     have hm:D.tup st∈nL ys:=Zu.mpr ⟨ay ys k,ZU.mpr ⟨cx hk,by rw[e];rfl⟩,e⟩
     rw[z]at hm
     cases hm
   have tl:(nL ys).length<1000:=by
     unfold nL
     rw[ZN]
     have:=aaC (λy:Rt=>!iZ y.2) ys
     omega
   refine hp.w (by omega) tn tl m4.hd λd g5 hd h5 f5=>?_
   have m5:=m4.step h5 f5
   obtain⟨Qe,rfl,TB⟩:=MN hy hd
   simp
   refine hp.w (by omega) (by simp) (by simp) m5.hd λd g6 hd h6 f6=>?_
   have m6:=m5.step h6 f6
   obtain⟨nZ,rfl,TC⟩:∃nZ,d = .tup nZ/\St p nZ:=by
     rcases ZE.mp hd with rfl|hd
     . exact⟨_,rfl,Tz⟩
     . simp at hd;subst hd;exact⟨_,rfl,TB⟩
   have pa:=MI (v:=rt ((ay ys k).1,.tup nZ)) m6.at_ (k:=k) (by simpa using hk)
   have XD:putD (.ref g.length) (.int k) (.tup [.int (ay ys k).1.h,(ay ys k).1.dd,.int (ay ys k).1.b,eD (ay ys k).1.e,.tup nZ]) g6=_:=pa
   simp[XD]
   have m7:=m6.put (ys:=(ys.map rt).set k (rt ((ay ys k).1,.tup nZ)))
   rw[<- List.map_set]at m7 ⊢
   refine q (ys.set k ((ay ys k).1,.tup nZ)) _ _ _ _ _ _ _ _ _ _ _ (m7.mono (by omega)) (λy XE=>?_) (Ed hk)
   rcases adX XE with h|rfl
   . exact hy y h
   . exact⟨Rj.r,by rw[if_pos BM];exact St.B TC⟩
theorem aS.P0 (h:aS p x):L3.flat (rt x)=true/\dep (rt x)<=6:=by
 obtain⟨h1,h2⟩:=h.r.dd.flat
 obtain⟨h3,h4⟩:=aS.zx h
 have he:L3.flat (eD x.1.e)=true/\dep (eD x.1.e)=0:=by cases x.1.e<;>exact⟨rfl,rfl⟩
 constructor
 . simp[rt,L3.flat,L3.aX,h1,he.1,h3]
 . simp[rt,dep,bS,he.2];omega
theorem Ee {p:Int}{xs:List Rt}(h:∀x∈xs,aS p x):L3.aX (xs.map rt)=true/\bS (xs.map rt)<=6:=lG λd hd=>by
 obtain⟨x,hx,rfl⟩:=Zu.mp hd
 exact aS.P0 (h x hx)
theorem aS.bz (h:aS p x)(n:Nat):L3.bz n (rt x)=true:=by
 have h1:=h.r.dd.bz n
 have h2:L3.bz n (eD x.1.e)=true:=by cases x.1.e<;>rfl
 have h3:L3.bz n x.2=true:=by
  have ht:=h.t
  split at ht
  . exact(qp ht).2 n
  . rw[ht];rfl
 simp[rt,L3.bz,aY,h1,h2,h3]
theorem IQ {p:Int}{xs:List Rt}(h:∀x∈xs,aS p x)(n:Nat):aY n (xs.map rt)=true:=cF λd hd=>by
 obtain⟨x,hx,rfl⟩:=Zu.mp hd
 exact aS.bz (h x hx) n
theorem IS (hg:g[m]? = some xs)(h1:L3.aX xs=true)(h2:bS xs<=50):mP (.ref m) (.lst []) g=some (.bl (!xs.isEmpty),g):=by
 have d1:dr (.ref m) g = .lst xs:=by simp[dr,hg]
 have d2:dr (.lst []) g = .lst []:=rfl
 have e:aH (.lst xs) (.lst [])=xs.isEmpty:=by cases xs<;>simp[aH,de]
 unfold mP
 rw[d1,d2,e,if_pos]
 simp[L3.flat,h1,aX,dep]
 omega
set_option maxHeartbeats 4000000 in
theorem MQ {take pick val:Fn}(ht:dZ take)(hp:gw pick)(hv:gy val){n:Nat}{g:G}{B p:Int}{xs:List Rt}{Q:D×G->Prop}(hB:B+100<2 ^ 40)(p0:0<p)(lW:p<=100)(hx:∀x∈xs,aS p x)(hl:xs.length<=100)(hd:Hd g n B)(hc:Clean g)
   (q:∀(ys:List Rt) g',(∀y∈ys,aS p y)->ys.map (·.1)=xs.map (·.1)->Hd g' n (B+50)->Fr n g g'->Q (.tup (ys.map rt),g')):
   wp (aC false 14 3 (wb take pick val) [.ref n,.int p,.tup (xs.map rt)] g) Q:=by
 refine fN rfl ?_
 unfold wb
 have hz:aD xs.length=true:=aK (by omega)
 simp[nu,b4,hz]
 refine nJ ?_
 simp
 have m0:Mk g (g ++ [xs.map rt]) n B (xs.map rt):=Mk.init hd
 refine hp.w (by omega) (by simp) (by simp) m0.hd λc g2 r6 h2 f2=>?_
 have m2:=m0.step h2 f2
 obtain⟨c,rfl,c0,c3⟩:∃i:Int,c = .int i/\0<=i/\i<=3:=by
   simp only[ZE,acm,or_false]at r6
   rcases r6 with rfl|rfl|rfl|rfl|rfl<;>exact⟨_,rfl,by decide,by decide⟩
 obtain⟨Mx,Rb⟩:=Ee hx
 have nn:=IS m2.at_ Mx (by omega)
 have em:(xs.map rt).isEmpty=xs.isEmpty:=by cases xs<;>rfl
 rw[em]at nn
 simp[nn]
 have fin:∀(σ:Sg) (gg:G) (k:Nat),k<=3->MO n p xs B g k σ gg->wp (ML σ gg) λr=>match r.1 with
   |.rt d=>L3.bz g.length d=true/\(∀x,x∈afu g.length r.2.2->aY g.length x=true)/\g.length<=r.2.2.length/\Q (d,r.2.2.take g.length)
   |.nx=>(∀x,x∈afu g.length r.2.2->aY g.length x=true)/\g.length<=r.2.2.length/\Q (.az,r.2.2.take g.length)
   |_=>False:=λσ gg k hk hI=>by
   obtain⟨ys,o4,o5,o6,o7,o8,o9,o10,o11,o12,o13,rfl,m,hy,e⟩:=hI hk
   have a0:=m.at_
   have el:ys.length=xs.length:=by simpa using congrArg adx e
   have y1:aD ys.length=true:=by rw[el];exact hz
   obtain⟨h1,h2⟩:=m.fin
   have Fs:=m.len
   have cl:=(hc.fr h2 h1).all g.length
   refine⟨(.rt (.tup (ys.map rt)),[some (.ref n),some (.int p),some (.tup (xs.map rt)),some (.ref g.length),o4,o5,o6,o7,o8,o9,o10,o11,o12,o13],gg),?_,?_⟩
   . simp[ML,cO,b4,a0,y1]
   . exact⟨by simpa[L3.bz]using IQ hy g.length,λx BK=>ZH.mp cl x BK,by show g.length<=gg.length;omega,q ys _ hy e (h1.mono (by omega)) h2⟩
 have XF:MO n p xs B g 0 [some (.ref n),some (.int p),some (.tup (xs.map rt)),some (.ref g.length),none,none,none,none,none,none,none,none,none,none] g2:=λ_=>⟨xs,_,_,_,_,_,_,_,_,_,_,rfl,m2.mono (by omega),hx,rfl⟩
 have XG:cT c (if xs = []then 0 else 1)=true:=gP (by omega) (by omega)
 simp[XG]
 have jb:0<=(c*if xs = []then 0 else 1)/\(c*if xs = []then 0 else 1)<=3:=by split<;>omega
 refine⟨by omega,by omega,?_⟩
 refine iz (λi σ gg=>MO n p xs B g i σ gg) _ 0 _ _ XF ?_ ?_
 . intro j d σ gg sR hI
   obtain⟨hj,rfl⟩:=lC sR
   have Q6:xs ≠ []:=λz=>by rw[if_pos z]at hj;simp at hj
   have Zg:j<3:=by omega
   obtain⟨ys,o4,o5,o6,o7,o8,o9,o10,o11,o12,o13,rfl,m,hy,e⟩:=hI (by omega)
   rw[abq]at *
   simp
   have el:ys.length=xs.length:=by simpa using congrArg adx e
   refine MP ht hp hv (by omega) p0 lW m hy (by omega) (by rw[el];exact afa.mpr Q6) λBL g' o4 o5 o6 o7 o8 o9 o10 o11 o12 o13 m' Km e'=>?_
   exact λ_=>⟨BL,_,_,_,_,_,_,_,_,_,_,rfl,m'.mono (by omega),Km,e'.trans e⟩
 . intro σ gg hI
   rw[gQ,abq]at hI
   simp
   exact fin σ gg _ (by omega) hI
end Od
namespace Sd
open PySem L3 L2 RI Pd Od
abbrev aQ:=Nat×List D
noncomputable def early (xs:List Rt)(k:Nat):List Nat:=(Zx xs.length).filter λo=>cM (ay xs o) (ay xs k)
noncomputable def dI (xs:List Rt)(r:aQ)(k:Nat):Bool:=!r.1.testBit k&&(((early xs k).all λo=>r.1.testBit o)&&lX (ay xs k) r.2)
noncomputable def cy (xs:List Rt)(r:aQ)(k:Nat):aQ:=(r.1 ||| 1 <<< k,dg r.2 (ay xs k).1.dd)
inductive Path (xs:List Rt)(p:Int):List Nat->aQ->Prop
 |nil:Path xs p [] (0,zs p)
 |snoc {ks r k}:Path xs p ks r->k<xs.length->dI xs r k=true->Path xs p (ks ++ [k]) (cy xs r k)
theorem ya:(cy xs r k).1.testBit i=(r.1.testBit i||decide (i=k)):=by
 unfold cy
 rw[Nat.testBit_or,aca,abY]
 congr 1
 exact decide_eq_decide.mpr eq_comm
theorem Path.bits {xs p ks r}(h:Path xs p ks r):∀i,r.1.testBit i=ks.contains i:=by
 induction h with
 |nil=>intro i;simp
 |snoc h hk hc ih =>
  intro i
  rw[ya,ih]
  simp
theorem Path.lt {xs p ks r}(h:Path xs p ks r):∀k∈ks,k<xs.length:=by
 induction h with
 |nil=>intro k hk;cases hk
 |snoc h hk hc ih =>
  intro k' pM
  rcases Zw.mp pM with h'|h'
  . exact ih k' h'
  . simp at h';subst h';exact hk
theorem Path.nodup {xs p ks r}(h:Path xs p ks r):ks.Nodup:=by
 induction h with
 |nil=>exact acK
 |snoc h hk hc ih =>
  rw[aaD]
  refine⟨ih,by simp,λa ha b hb e=>?_⟩
  simp at hb
  subst hb;subst e
  have:=h.bits a
  simp[dI,this,ha]at hc
theorem oB:∀(ks seen:List Nat) (k:Nat),b9 xs seen (ks ++ [k])=(b9 xs seen ks && !((seen++ks).any λi=>cM (ay xs k) (ay xs i)))
 | [],seen,k=>by simp[b9]
 |j::ks,seen,k=>by
  simp only[abx,b9,oB ks]
  rw[aaY,acW,aeC]
theorem qu:∀(cs:List Rt) (st:List D) (x:Rt),cq st (cs ++ [x])=(cq st cs&&lX x (cs.foldl (λs y=>dg s y.1.dd) st))
 | [],st,x=>by simp[cq]
 |y::cs,st,x=>by simp only[abx,cq,qu cs,ac9,aeC]
theorem Path.st {xs p ks r}(h:Path xs p ks r):r.2=(ks.map (ay xs)).foldl (λs y=>dg s y.1.dd) (zs p):=by
 induction h with
 |nil=>rfl
 |snoc h hk hc ih=>simp[cy,ih]
theorem Path.early {xs p ks r}(h:Path xs p ks r):∀i∈ks,∀o<xs.length,cM (ay xs o) (ay xs i)=true->o∈ks:=by
 induction h with
 |nil=>intro i hi;cases hi
 | @snoc ks r k h hk hc ih =>
  intro i hi o ho ha
  rcases Zw.mp hi with hi|hi
  . exact Zw.mpr (.inl (ih i hi o ho ha))
  . simp at hi
    subst hi
    simp only[dI,Zn,ZH]at hc
    have:=hc.2.1 o (ZU.mpr ⟨ZJ.mpr ho,ha⟩)
    rw[h.bits]at this
    exact Zw.mpr (.inl (by simpa using this))
theorem Path.turns {xs p ks r}(h:Path xs p ks r):b9 xs [] ks=true:=by
 induction h with
 |nil=>rfl
 | @snoc ks r k h hk hc ih =>
  rw[oB,ih]
  simp only[aaK,adL,Z2,adQ]
  intro i hi ha
  have hm:=h.early i hi k hk ha
  have hb:=h.bits k
  have:ks.contains k=true:=by simpa using hm
  rw[this]at hb
  simp[dI,hb]at hc
theorem Path.fits {xs p ks r}(h:Path xs p ks r):cq (zs p) (ks.map (ay xs))=true:=by
 induction h with
 |nil=>rfl
 | @snoc ks r k h hk hc ih =>
  rw[aaL,afv,qu,ih,<- h.st]
  simp only[dI,Zn]at hc
  simp[hc.2.2]
noncomputable def dN (xs:List Rt)(b:Nat):Bool:=xs.zipIdx.all λy=>y.1.1.e.isNone||b.testBit y.2
theorem Path.end_ {xs p ks r}(h:Path xs p ks r):dN xs r.1=iI xs ks:=by
 unfold dN iI
 congr 1
 funext y
 rw[h.bits]
theorem Path.ok {xs p ks r}(h:Path xs p ks r)(he:dN xs r.1=true):fL p xs ks=true:=by
 rw[h.end_]at he
 simp[fL,h.nodup,he,h.turns,h.fits]
theorem pz {α:Type}:∀{V W:List α},V.Nodup->(∀v∈V,v∈W)->V.length<=W.length
 | [],_,_,_=>aae _
 |v::V,W,hn,h=>by
  rw[abl]at hn
  obtain⟨a,b,rfl⟩:=acH (h v (by simp))
  have:=pz (V:=V) (W:=a++b) hn.2 λw hw=>by
   have:=h w (by simp[hw])
   rcases Zw.mp this with h1|h1
   . simp[h1]
   . rcases ZE.mp h1 with rfl|h1
     . exact absurd hw hn.1
     . simp[h1]
  simp at this ⊢
  omega
noncomputable def lH:Nat->List (List Nat)
 | 0=>[[]]
 |n+1=>(lH n).map (· ++ [0])++((lH n).map (· ++ [1])++(lH n).map (· ++ [2]))
theorem Ef (n:Nat):(lH n).length=3 ^ n:=by
 induction n with
 |zero=>rfl
 |succ n ih=>simp[lH,ih,Nat.pow_succ];omega
theorem wc (T:Nat->Nat)(h:∀i,T i<3):∀n,(Zx n).map T∈lH n
 | 0=>by simp[lH]
 |n+1=>by
  rw[agp,aaL,afv]
  have ih:=wc T h n
  have:=h n
  simp only[lH,Zw,Zu]
  have h3:T n=0\/T n=1\/T n=2:=by omega
  rcases h3 with e|e|e
  . exact .inl ⟨_,ih,by rw[e]⟩
  . exact .inr (.inl ⟨_,ih,by rw[e]⟩)
  . exact .inr (.inr ⟨_,ih,by rw[e]⟩)
noncomputable def bT:Nat->(Nat->Nat)->Nat
 | 0,_=>0
 |n+1,T=>bT n T ||| (if T n=0 then 0 else 1 <<< n)
theorem mW (T:Nat->Nat)(i:Nat):∀n,(bT n T).testBit i=(decide (i<n)&&decide (T i≠0))
 | 0=>by simp[bT]
 |n+1=>by
  simp only[bT]
  rw[Nat.testBit_or,mW T i n]
  by_cases e:i=n
  . subst e
    by_cases h:T i=0<;>simp[h,aca,abY]
  . have h1:(decide (i<n+1))=decide (i<n):=decide_eq_decide.mpr (by omega)
    rw[h1]
    have h2:¬n=i:=λz=>e z.symm
    by_cases h:T n=0<;>simp[h,aca,abY,h2]
noncomputable def fu (x:Rt):Option Nat:=match x.1.dd with
 |.tup [.str _,.int c,_]=>some c.toNat
 |_=>none
noncomputable def FL (x:Rt):D:=match x.1.dd with
 |.tup [.str _,.int _,v]=>v
 |_=>.az
theorem Eg (h:eJ p x.1.dd)(hl:(st.length:Int)=p):dg st x.1.dd=match fu x with|some c=>st.set c (FL x)|none=>st:=by
 rcases h with e|⟨c,v,e,c0,c1,_⟩
 . simp[fu,e,dg]
 . have hc:c.toNat<st.length:=by omega
   simp only[fu,FL,e,dg]
   rw[abQ,if_pos hc]
noncomputable def td (xs:List Rt)(T:Nat->Nat)(c:Nat):D:=match(Zx xs.length).find? (λk=>T k == 2&&fu (ay xs k)== some c)with
 |some k=>FL (ay xs k)
 |none=>.int 0
noncomputable def tf (p:Int)(xs:List Rt)(T:Nat->Nat):List D:=(Zx p.toNat).map (td xs T)
noncomputable def gz (xs:List Rt)(T:Nat->Nat)(k i:Nat):Nat:=if i=k then(if(fu (ay xs k)).isSome then 2 else 1)else if T i=2/\fu (ay xs i)=fu (ay xs k)then 1 else T i
theorem wd (hk:k<xs.length)(c:Nat):td xs (gz xs T k) c=if fu (ay xs k)=some c then FL (ay xs k)else td xs T c:=by
 unfold td
 by_cases h:fu (ay xs k)=some c
 . rw[if_pos h]
   have:(Zx xs.length).find? (λi=>gz xs T k i == 2&&fu (ay xs i)== some c)=some k:=by
    have hi:∀i,(gz xs T k i == 2&&fu (ay xs i)== some c)=true ↔ i=k:=λi=>by
      unfold gz
      by_cases e:i=k
      . subst e;simp[h]
      . simp only[e,if_false,iff_false,aco,aeJ]
        by_cases h2:T i=2/\fu (ay xs i)=fu (ay xs k)
        . rw[if_pos h2];exact .inl rfl
        . rw[if_neg h2]
          by_cases h3:T i=2
          . refine .inr ?_
            simp only[h]at h2
            simp
            exact λz=>h2 ⟨h3,z⟩
          . refine .inl ?_;simp[h3]
    cases hf:(Zx xs.length).find? (λi=>gz xs T k i == 2&&fu (ay xs i)== some c)with
    |none =>
      rw[afw]at hf
      exact absurd ((hi k).mpr rfl) (hf k (ZJ.mpr hk))
    |some j =>
      have:=adf hf
      rw[(hi j).mp this]
   rw[this]
 . rw[if_neg h]
   have:∀i,(gz xs T k i == 2&&fu (ay xs i)== some c)=(T i == 2&&fu (ay xs i)== some c):=λi=>by
    by_cases h2:fu (ay xs i)=some c
    . simp only[h2,beq_self_eq_true,ae0]
      unfold gz
      by_cases e:i=k
      . subst e;exact absurd h2 h
      . rw[if_neg e,if_neg]
        intro z
        rw[h2]at z
        exact h z.2.symm
    . have:(fu (ay xs i)== some c)=false:=by simpa using h2
      simp[this]
   simp only[this]
theorem Path.tags (p0:0<=p)(hx:∀x∈xs,aS p x)(h:Path xs p ks r):∃T:Nat->Nat,(∀i,T i<3)/\r.1=bT xs.length T/\r.2=tf p xs T:=by
 induction h with
 |nil =>
  refine⟨λ_=>0,λ_=>by show 0<3;omega,?_,?_⟩
  . refine abP λi=>?_
    rw[mW];simp
  . unfold tf zs
    refine abz (by simp) λi h1 h2=>?_
    have e:(Zx xs.length).find? (λ_=>false)=none:=by rw[afw];intro _ _;simp
    simp[td,e]
 | @snoc ks r k h hk hc ih =>
  obtain⟨T,h1,h2,h3⟩:=ih
  refine⟨gz xs T k,λi=>?_,?_,?_⟩
  . unfold gz
    have:=h1 i
    split
    . split<;>omega
    . split<;>omega
  . refine abP λi=>?_
    rw[ya,h2,mW,mW]
    unfold gz
    by_cases e:i=k
    . subst e
      have:(if(fu (ay xs i)).isSome=true then 2 else 1)≠0:=by split<;>omega
      simp[hk,this]
    . simp only[e,if_false,decide_false,acS]
      congr 1
      refine decide_eq_decide.mpr ?_
      split<;>omega
  . have hd:=(hx _ (cx hk)).r.dd
    have hl:(r.2.length:Int)=p:=by rw[h3];simp[tf];omega
    show dg r.2 (ay xs k).1.dd=_
    rw[Eg hd hl,h3]
    unfold tf
    cases hp:fu (ay xs k)with
    |none =>
      refine aar λc _=>?_
      rw[wd hk,hp]
      simp
    |some c0 =>
      refine abz (by simp) λi a b=>?_
      simp only[List.getElem_set,List.getElem_map,List.getElem_range]
      rw[wd hk,hp]
      by_cases e:c0=i
      . subst e;simp
      . simp[e]
theorem BN (h:∀i<xs.length,T i=U i)(c:Nat):td xs T c=td xs U c:=by
 unfold td
 have:(Zx xs.length).find? (λk=>T k == 2&&fu (ay xs k)== some c)=(Zx xs.length).find? (λk=>U k == 2&&fu (ay xs k)== some c):=by
  have:∀l:List Nat,(∀i∈l,i<xs.length)->l.find? (λk=>T k == 2&&fu (ay xs k)== some c)=l.find? (λk=>U k == 2&&fu (ay xs k)== some c):=λl=>by
   induction l with
   |nil=>intro _;rfl
   |cons i l ih =>
    intro hl
    simp only[List.find?_cons,h i (hl i (by simp)),ih λj hj=>hl j (by simp[hj])]
  exact this _ λi hi=>ZJ.mp hi
 rw[this]
theorem we:∀n,(∀i<n,T i=U i)->bT n T=bT n U
 | 0,_=>rfl
 |n+1,h=>by simp only[bT];rw[we n λi hi=>h i (by omega),h n (by omega)]
noncomputable def FN (p:Int)(xs:List Rt)(l:List Nat):aQ:=(bT xs.length λi=>l.getD i 0,tf p xs λi=>l.getD i 0)
theorem Eh {xs:List Rt}{p:Int}(p0:0<=p)(hx:∀x∈xs,aS p x){V:List aQ}(hn:V.Nodup)(hV:∀r∈V,∃ks,Path xs p ks r):V.length<=3 ^ xs.length:=by
 have:=pz (W:=(lH xs.length).map (FN p xs)) hn λr hr=>by
  obtain⟨ks,h⟩:=hV r hr
  obtain⟨T,h1,h2,h3⟩:=h.tags p0 hx
  refine Zu.mpr ⟨_,wc T h1 xs.length,?_⟩
  have e:∀i<xs.length,((Zx xs.length).map T).getD i 0=T i:=λi hi=>by simp[hi]
  unfold FN
  rw[we _ e,<- h2]
  have:tf p xs (λi=>((Zx xs.length).map T).getD i 0)=tf p xs T:=by
   unfold tf
   exact aar λc _=>BN e c
  rw[this,<- h3]
 rwa[ZN,Ef]at this
theorem jU (a b:Nat):Z9 (a:Int) (b:Int)=((a &&& b:Nat):Int):=by
 have h1:decide ((0:Int)<=(a:Int))=true:=by simp
 have h2:decide ((0:Int)<=(b:Int))=true:=by simp
 unfold Z9
 rw[h1,h2]
 simp
theorem IT (a b:Nat):ab0 (a:Int) (b:Int)=((a ||| b:Nat):Int):=by
 have e:∀x:Nat,(abj (abj (x:Int))).toNat=x:=λx=>by unfold abj;omega
 have h1:∀x:Nat,decide ((0:Int)<=abj (x:Int))=false:=λx=>by unfold abj;simp;omega
 unfold ab0
 have:Z9 (abj (a:Int)) (abj (b:Int))=abj (((a ||| b:Nat):Nat):Int):=by
  unfold Z9
  rw[h1,h1,e,e]
 rw[this]
 unfold abj
 omega
noncomputable def bF (n:Nat)(f:Nat->Bool):Nat:=bT n λi=>if f i then 1 else 0
theorem qv (f:Nat->Bool)(i n:Nat):(bF n f).testBit i=(decide (i<n)&&f i):=by
 unfold bF
 rw[mW]
 cases f i<;>simp
theorem P1 (f:Nat->Bool)(n:Nat):bF n f<2 ^ n:=adY _ λi hi=>by
 rw[qv]
 have:¬i<n:=by omega
 simp[this]
theorem lI (f:Nat->Bool):∀n,((((Zx n).filter f).map λk=>(2:Nat) ^ k).sum)=bF n f
 | 0=>rfl
 |n+1=>by
  rw[agp,List.filter_append,aaL,List.sum_append,lI f n]
  have hl:=P1 f n
  have e:bF (n+1) f=bF n f ||| (if f n then 1 <<< n else 0):=by
   unfold bF
   simp only[bT]
   by_cases uq:f n=true<;>simp[uq]
  rw[e]
  cases hf:f n with
  |false=>simp[hf]
  |true =>
   have:=Nat.two_pow_add_eq_or_of_lt hl 1
   simp only[Nat.mul_one]at this
   rw[aca]
   simp[hf]
   rw[afl,this,Nat.or_comm]
theorem rP (b k:Nat):(b &&& 2 ^ k=0)↔ b.testBit k=false:=by
 constructor
 . intro h
   have:=congrArg (λx=>x.testBit k) h
   simpa[adk,abY]using this
 . intro h
   refine abP λi=>?_
   rw[adk,abY]
   by_cases e:k=i
   . subst e;simp[h]
   . simp[e]
theorem IU (a b:Nat):(b &&& a=a)↔ ∀i,a.testBit i=true->b.testBit i=true:=by
 constructor
 . intro h i hi
   rw[<- h,adk]at hi
   simp at hi
   exact hi.1
 . intro h
   refine abP λi=>?_
   rw[adk]
   cases hi:a.testBit i with
   |false=>simp
   |true=>simp[h i hi]
theorem BO (f:Nat->Bool)(b n:Nat):(b &&& bF n f=bF n f)↔ ((Zx n).filter f).all (λi=>b.testBit i)=true:=by
 rw[IU,ZH]
 constructor
 . intro h i hi
   obtain⟨h1,h2⟩:=ZU.mp hi
   exact h i (by rw[qv];simp[ZJ.mp h1,h2])
 . intro h i hi
   rw[qv]at hi
   simp at hi
   exact h i (ZU.mpr ⟨ZJ.mpr hi.1,hi.2⟩)
noncomputable def qw:FS:=aG (aq lb (af (aU aV (bu (aa 0)) [none,none] (gN 1) aN (aj (aP cN (λi j=>i*2 ^ j.toNat)) (fC (.int 1)) (aa 1))) ag))
noncomputable def wg (bits:Fn):FS:=aG (aq bits (af (aU aV (dY (aa 0)) [none,none,none] (gT 2 (au (gN 1) (au (gN 2) aM))) (aF (aj cD (aj ax (aa 2) (fC (.int 3))) (fC .az))) (aa 1)) ag))
theorem qx {k:Nat}(h:k<=1000):cN 1 (k:Int)=true:=by
 show(ab2 k 1000000&&ab2 (1:Int).natAbs 18446744073709551615)=true
 rw[Nat.ble_eq.mpr (by omega:k<=1000000)]
 decide
theorem wk (ks:List Nat):(ks.map λk=>((2 ^ k:Nat):Int)).sum=(((ks.map λk=>2 ^ k).sum:Nat):Int):=by
 induction ks with
 |nil=>rfl
 |cons k ks ih=>simp only[ZT,List.sum_cons,ih];omega
def mX (f:Fn):Prop:=∀ks g,(∀k∈ks,k<=1000)->ks.length<=1000->f [.lst (kD ks)] g=some (.int (((ks.map λk=>2 ^ k).sum:Nat):Int),g)
theorem IV:mX (aC false 1 1 qw):=λks g hk hl=>by
 refine bQ (σ':=[some (.lst (kD ks))]) rfl ?_ rfl
 have hz:aD ks.length=true:=aK (by omega)
 have kl:(kD ks).length=ks.length:=by simp[kD]
 have c1:=cE (f:=λ(i:Nat)=>D.int i) (t:=gN 1) (c:=aN) (e:=aj (aP cN (λi j=>i*2 ^ j.toNat)) (fC (.int 1)) (aa 1)) (h:=λ(i:Nat)=>D.int ((2 ^ i:Nat):Int)) (λσ=>∃a,σ = [none,a]) ks [none,none] g ⟨_,rfl⟩ (by
  rintro i hm σ ⟨a,rfl⟩
  refine⟨[none,some (.int i)],by simp,by simp,?_,⟨_,rfl⟩⟩
  have:=qx (hk i hm)
  simp[aP,this])
 have c2:b6 (gN 1) aN (aj (aP cN (λi j=>i*2 ^ j.toNat)) (fC (.int 1)) (aa 1)) (kD ks) [none,none] g=some ((ks.map λk=>((2 ^ k:Nat):Int)).map D.int,g):=by rw[Z0];exact c1
 have sb:∀σ:Sg,bH [none,none] σ = [none,none]:=λ_=>rfl
 have i1:=s_ (ks.map λk=>((2 ^ k:Nat):Int))
 rw[<- wk]
 generalize (ks.map λk=>((2 ^ k:Nat):Int))=ns at *
 simp[qw,sb,c2,kl,hz,i1]
theorem zA {f:Rt->Bool}(xs:List Rt):(xs.zipIdx.filter λy=>f y.1).map (·.2)=(Zx xs.length).filter λi=>f (ay xs i):=by
 have:xs.zipIdx=(Zx xs.length).map λi=>(ay xs i,i):=by
  refine abz (by simp) λi h1 h2=>?_
  have hi:i<xs.length:=by simpa using h1
  simp[ay,hi]
 rw[this,List.filter_map,Z0]
 simp[aaZ]
noncomputable def i8 (xs:List Rt):Nat:=bF xs.length λi=>(ay xs i).1.e.isSome
def t6 (f:Fn):Prop:=∀xs g,xs.length<=100->f [.tup (xs.map rt)] g=some (.int (i8 xs),g)
theorem MS {b:Fn}(hb:mX b):t6 (aC false 1 1 (wg b)):=λxs g hl=>by
 refine bQ (σ':=[some (.tup (xs.map rt))]) rfl ?_ rfl
 have hz:aD (dD (xs.map rt)).length=true:=aK (by simp[dD];omega)
 have c1:=fK (f:=λy:Rt×Nat=>.tup [.int (y.2:Nat),rt y.1]) (t:=gT 2 (au (gN 1) (au (gN 2) aM))) (c:=aF (aj cD (aj ax (aa 2) (fC (.int 3))) (fC .az))) (e:=aa 1) (cB:=λy=>y.1.1.e.isSome) (h:=λy=>D.int (y.2:Nat)) (λσ=>∃a b,σ = [none,a,b]) xs.zipIdx [none,none,none] g ⟨_,_,rfl⟩ (by
  rintro⟨y,i⟩ hm σ ⟨a,b,rfl⟩
  refine⟨[none,some (.int i),some (rt y)],by simp,?_,λ_=>by simp,⟨_,_,rfl⟩⟩
  cases he:y.1.e<;>simp[rt,vT,he,eD,isLit,cK])
 rw[<- jA]at c1
 have sb:∀σ:Sg,bH [none,none,none] σ = [none,none,none]:=λ_=>rfl
 have e2:(xs.zipIdx.filter λy=>y.1.1.e.isSome).map (λy=>D.int (y.2:Nat))=kD ((Zx xs.length).filter λi=>(ay xs i).1.e.isSome):=by
  rw[<- zA (f:=λx=>x.1.e.isSome)]
  simp[kD,aaZ]
 rw[e2]at c1
 have Ft:=hb ((Zx xs.length).filter λi=>(ay xs i).1.e.isSome) g (λk hk=>by
  have:=ZJ.mp (ZU.mp hk).1
  omega) (by have:=aaC (λi=>(ay xs i).1.e.isSome) (Zx xs.length);simp at this;omega)
 rw[lI]at Ft
 generalize kD ((Zx xs.length).filter λi=>(ay xs i).1.e.isSome)=kk at *
 simp[wg,sb,c1,hz,Ft,i8]
theorem yb (xs:List Rt)(b:Nat):(b &&& i8 xs=i8 xs)↔ dN xs b=true:=by
 unfold i8
 rw[BO]
 unfold dN
 have:xs.zipIdx=(Zx xs.length).map λi=>(ay xs i,i):=by
  refine abz (by simp) λi h1 h2=>?_
  have hi:i<xs.length:=by simpa using h1
  simp[ay,hi]
 rw[this,ago,acD]
 have e:(λi=>!(ay xs i).1.e.isSome||b.testBit i)=((λy:Rt×Nat=>y.1.1.e.isNone||b.testBit y.2) ∘ λi=>(ay xs i,i)):=by
  funext i
  cases h:(ay xs i).1.e<;>simp[h]
 rw[e]
noncomputable def rD (r:aQ):D:=.tup [.int (r.1:Nat),.tup r.2]
noncomputable def gC (xs:List Rt)(i:Nat):D:=.tup [.int (i:Nat),.int ((bF xs.length λo=>cM (ay xs o) (ay xs i):Nat):Int),rt (ay xs i)]
noncomputable def fv (xs:List Rt):List D:=(Zx xs.length).map (gC xs)
noncomputable def FP (ahead:Fn):FS:=aA (aU aV (dY (aa 0)) [none,none,none,some 3] (gT 2 (au (gN 1) (au (gN 2) aM))) (bN (aq ahead (af (aa 2) (af (aa 3) ag)))) (aa 1)) (gN 4)
noncomputable def FQ (bits:Fn):FS:=da (bX isRef cw (aa 1) (af (aO aJ (af (aa 2) (af (aq bits (af (aa 4) ag)) (af (aa 3) ag)))) ag))
noncomputable def qy (ahead bits:Fn):FS:=av (aA (aO mkRef ag) (gN 1)) (av (cj (dY (aa 0)) (gT 2 (au (gN 2) (au (gN 3) aM))) (av (FP ahead) (FQ bits))) (aG (aa 1)))
theorem BP (xs:List Rt):xs.zipIdx=(Zx xs.length).map λi=>(ay xs i,i):=by
 refine abz (by simp) λi h1 h2=>?_
 have hi:i<xs.length:=by simpa using h1
 simp[ay,hi]
theorem yc (xs:List Rt):dD (xs.map rt)=(Zx xs.length).map λi=>.tup [.int (i:Nat),rt (ay xs i)]:=by
 rw[jA,BP,Z0]
 rfl
theorem MT (ha:iG p ah)(hx:∀x∈xs,aS p x)(hl:xs.length<=100)(hk:k<xs.length):
  FP ah [some (.tup (xs.map rt)),o1,o2,some (rt (ay xs k)),o4] g=some (.nx,[some (.tup (xs.map rt)),o1,o2,some (rt (ay xs k)),some (.lst (kD (early xs k)))],g):=by
 have hz:aD (dD (xs.map rt)).length=true:=aK (by simp[dD];omega)
 have c1:=fK (f:=λi:Nat=>.tup [.int (i:Nat),rt (ay xs i)]) (t:=gT 2 (au (gN 1) (au (gN 2) aM))) (c:=bN (aq ah (af (aa 2) (af (aa 3) ag)))) (e:=aa 1) (cB:=λi=>cM (ay xs i) (ay xs k)) (h:=λ(i:Nat)=>D.int i) (λσ=>∃a b,σ = [none,a,b,some (rt (ay xs k))]) (Zx xs.length) [none,none,none,some (rt (ay xs k))] g ⟨_,_,rfl⟩ (by
  rintro i hm σ ⟨a,b,rfl⟩
  have:=ha (rt (ay xs i)) (rt (ay xs k)) g (hx _ (cx (ZJ.mp hm))).row (hx _ (cx hk)).row
  refine⟨[none,some (.int i),some (rt (ay xs i)),some (rt (ay xs k))],by simp,?_,λ_=>by simp,⟨_,_,rfl⟩⟩
  simp[this,cM])
 rw[<- yc]at c1
 have sb:∀a b c:Option D,bH [none,none,none,some 3] [a,b,c,some (rt (ay xs k)),o4]= [none,none,none,some (rt (ay xs k))]:=λ_ _ _=>rfl
 have c2:b6 (gT 2 (au (gN 1) (au (gN 2) aM))) (bN (aq ah (af (aa 2) (af (aa 3) ag)))) (aa 1) (dD (xs.map rt)) [none,none,none,some (rt (ay xs k))] g=some (kD (early xs k),g):=c1
 simp[FP,sb,c2,hz]
theorem FR (ha:iG p ah)(hb:mX bi)(hx:∀x∈xs,aS p x)(hl:xs.length<=100):∀(rest:List Nat) (acc:List D) (o2 o3 o4:Option D),(∀k∈rest,k<xs.length)->acc.length+rest.length<=200 ->
  ∃σ',σ'[1]? = some (some (.ref g.length))/\forL (gT 2 (au (gN 2) (au (gN 3) aM))) (av (FP ah) (FQ bi)) (rest.map λi=>.tup [.int (i:Nat),rt (ay xs i)]) [some (.tup (xs.map rt)),some (.ref g.length),o2,o3,o4] (g ++ [acc])=some (.nx,σ',g ++ [acc++rest.map (gC xs)])
 | [],acc,o2,o3,o4,_,_=>⟨[some (.tup (xs.map rt)),some (.ref g.length),o2,o3,o4],rfl,by simp[forL]⟩
 |k::rest,acc,o2,o3,o4,h,hs=>by
  have hk:=h k (by simp)
  have e1:=MT ha (g:=g ++ [acc]) (o1:=some (.ref g.length)) (o2:=some (.int k)) (o4:=o4) hx hl hk
  have Xx:(early xs k).length<=100:=by
   have:=aaC (λo=>cM (ay xs o) (ay xs k)) (Zx xs.length)
   simp at this
   unfold early
   omega
  have e2:=hb (early xs k) (g ++ [acc]) (λj hj=>by
   have:=ZJ.mp (ZU.mp hj).1
   omega) (by omega)
  have e3:((early xs k).map λk=>2 ^ k).sum=bF xs.length λo=>cM (ay xs o) (ay xs k):=lI _ _
  rw[e3]at e2
  have hz:aD (acc.length+1)=true:=aK (by simp at hs;omega)
  obtain⟨σ',s1,ih⟩:=FR ha hb (g:=g) hx hl rest (acc ++ [gC xs k]) (some (.int k)) (some (rt (ay xs k))) (some (.lst (kD (early xs k)))) (λj hj=>h j (by simp[hj])) (by simp at hs ⊢;omega)
  refine⟨σ',s1,?_⟩
  have e4:FQ bi [some (.tup (xs.map rt)),some (.ref g.length),some (.int k),some (rt (ay xs k)),some (.lst (kD (early xs k)))] (g ++ [acc])=some (.nx,[some (.tup (xs.map rt)),some (.ref g.length),some (.int k),some (rt (ay xs k)),some (.lst (kD (early xs k)))],g ++ [acc ++ [gC xs k]]):=by
   simp[FQ,e2,hz,gC]
  rw[show acc++(k::rest).map (gC xs)=(acc ++ [gC xs k])++rest.map (gC xs) by simp,<- ih]
  simp[forL,e1,e4]
def qz (p:Int)(f:Fn):Prop:=∀xs g,(∀x∈xs,aS p x)->xs.length<=100->Clean g->f [.tup (xs.map rt)] g=some (.lst (fv xs),g)
theorem IW (ha:iG p ah)(hb:mX bi):qz p (aC false 5 1 (qy ah bi)):=λxs g hx hl hc=>by
 have key:wp (aC false 5 1 (qy ah bi) [.tup (xs.map rt)] g) λr=>r=(.lst (fv xs),g):=by
  refine rG rfl ?_
  obtain⟨σ',s1,e⟩:=FR ha hb (g:=g) hx hl (Zx xs.length) [] none none none (λk hk=>ZJ.mp hk) (by simp;omega)
  rw[<- yc,aaK]at e
  have e':qy ah bi [some (.tup (xs.map rt)),none,none,none,none] g=some (.rt (.ref g.length),σ',g ++ [fv xs]):=by
   simp[qy,e,s1,fv]
  refine⟨_,e',g.length,fv xs,rfl,Zy _,by simp,cF λd hd=>?_,by simpa using hc.all _,by simp⟩
  obtain⟨k,hk,rfl⟩:=Zu.mp hd
  have:=aS.bz (hx _ (cx (ZJ.mp hk))) g.length
  simp[gC,bz,aY,this]
 obtain⟨r,e,rfl⟩:=key
 exact e
noncomputable def BQ:FS:=aA (aj (aP cN (λi j=>i*2 ^ j.toNat)) (fC (.int 1)) (aa 4)) (gN 7)
noncomputable def wm (fits:Fn):FT:=fX (aF (aj oEq (aj (aP a_ Z9) (aa 1) (aa 7)) (fC (.int 0)))) (fX (aF (aj oEq (aj (aP a_ Z9) (aa 1) (aa 5)) (aa 5))) (bN (aq fits (af (aa 6) (af (aa 2) ag)))))
noncomputable def BR (behind:Fn):FS:=da (bX isRef cw (aa 3) (af (aO aJ (af (aa 4) (af (aO aJ (af (aj (aP a_ ab0) (aa 1) (aa 7)) (af (aq behind (af (aa 6) (af (aa 2) ag))) ag))) ag))) ag))
noncomputable def nM (fits behind:Fn):FS:=av (aA (aO mkRef ag) (gN 3)) (av (cj (bu (aa 0)) (gT 3 (au (gN 4) (au (gN 5) (au (gN 6) aM)))) (av BQ (bq (wm fits) (BR behind) aL))) (aG (aa 3)))
noncomputable def jV (xs:List Rt)(r:aQ)(k:Nat):D:=.tup [.int (k:Nat),rD (cy xs r k)]
noncomputable def mY (xs:List Rt)(r:aQ):List D:=((Zx xs.length).filter (dI xs r)).map (jV xs r)
noncomputable abbrev S8 (xs:List Rt)(r:aQ)(m:Nat)(o4 o5 o6 o7:Option D):Sg:=[some (.lst (fv xs)),some (.int (r.1:Nat)),some (.tup r.2),some (.ref m),o4,o5,o6,o7]
theorem MU {xs:List Rt}{r:aQ}{m k:Nat}{g:G}{o5 o6 o7:Option D}(hk:k<=1000):BQ (S8 xs r m (some (.int k)) o5 o6 o7) g=some (.nx,S8 xs r m (some (.int k)) o5 o6 (some (.int ((2 ^ k:Nat):Int))),g):=by
 have:=qx hk
 simp[BQ,aP,this]
theorem MV {fi:Fn}{p:Int}(hf:jS p fi){xs:List Rt}{r:aQ}{m k:Nat}{g:G}(hx:∀x∈xs,aS p x)(hs:St p r.2)(hk:k<xs.length):
  wm fi (S8 xs r m (some (.int k)) (some (.int ((bF xs.length λo=>cM (ay xs o) (ay xs k):Nat):Int))) (some (rt (ay xs k))) (some (.int ((2 ^ k:Nat):Int)))) g=some (dI xs r k,g):=by
 have e1:=hf (ay xs k) r.2 g (hx _ (cx hk)) hs
 have a1:=jU r.1 (2 ^ k)
 have a2:=jU r.1 (bF xs.length λo=>cM (ay xs o) (ay xs k))
 have c1:decide (((r.1 &&& 2 ^ k:Nat):Int)=0)= !r.1.testBit k:=by
  cases h:r.1.testBit k with
  |false=>have:=(rP r.1 k).mpr h;rw[this];rfl
  |true =>
   simp only[ZI,decide_eq_false_iff_not]
   intro z
   have z':r.1 &&& 2 ^ k=0:=by omega
   rw[(rP r.1 k).mp z']at h
   cases h
 have c2:decide (((r.1 &&& (bF xs.length λo=>cM (ay xs o) (ay xs k)):Nat):Int)=((bF xs.length λo=>cM (ay xs o) (ay xs k):Nat):Int))=((early xs k).all λo=>r.1.testBit o):=by
  have:=BO (λo=>cM (ay xs o) (ay xs k)) r.1 xs.length
  cases h:((early xs k).all λo=>r.1.testBit o)with
  |true =>
   have:=this.mpr h
   rw[this];simp
  |false =>
   simp only[decide_eq_false_iff_not]
   intro z
   have z':r.1 &&& (bF xs.length λo=>cM (ay xs o) (ay xs k))=bF xs.length λo=>cM (ay xs o) (ay xs k):=by omega
   rw[show(early xs k).all (λo=>r.1.testBit o)=true from this.mp z']at h
   cases h
 generalize (bF xs.length λo=>cM (ay xs o) (ay xs k))=bb at *
 have q1:oEq (.int ((r.1 &&& 2 ^ k:Nat):Int)) (.int 0) g=some (.bl (!r.1.testBit k),g):=by
  unfold oEq
  rw[eV,c1]
  simp[flat,dep]
 have q2:oEq (.int ((r.1 &&& bb:Nat):Int)) (.int (bb:Int)) g=some (.bl ((early xs k).all λo=>r.1.testBit o),g):=by
  unfold oEq
  rw[eV,c2]
  simp[flat,dep]
 unfold dI
 generalize ((early xs k).all λo=>r.1.testBit o)=b2 at *
 generalize (r.1 &&& bb)=ab at *
 generalize (r.1 &&& 2 ^ k)=ak at *
 generalize 2 ^ k=tk at *
 cases h1:r.1.testBit k with
 |true=>rw[h1]at q1;simp[wm,aP,a_,a1,q1]
 |false =>
  rw[h1]at q1
  cases b2 with
  |false =>
   have MW:=of_decide_eq_false c2
   simp[wm,aP,a_,a1,q1,a2,MW]
  |true =>
   have MW:=of_decide_eq_true c2
   cases h3:lX (ay xs k) r.2<;>rw[h3]at e1<;>simp[wm,aP,a_,a1,q1,a2,MW,e1]
theorem zB {fi be:Fn}{p:Int}(hf:jS p fi)(hb:iH p be){xs:List Rt}{r:aQ}{g:G}(hx:∀x∈xs,aS p x)(hl:xs.length<=100)(hs:St p r.2):∀(rest:List Nat) (acc:List D) (o4 o5 o6 o7:Option D),(∀k∈rest,k<xs.length)->acc.length+rest.length<=200 ->
  ∃σ',σ'[3]? = some (some (.ref g.length))/\forL (gT 3 (au (gN 4) (au (gN 5) (au (gN 6) aM)))) (av BQ (bq (wm fi) (BR be) aL)) (rest.map (gC xs)) (S8 xs r g.length o4 o5 o6 o7) (g ++ [acc])=some (.nx,σ',g ++ [acc++(rest.filter (dI xs r)).map (jV xs r)])
 | [],acc,o4,o5,o6,o7,_,_=>⟨S8 xs r g.length o4 o5 o6 o7,rfl,by simp[forL]⟩
 |k::rest,acc,o4,o5,o6,o7,h,hsz=>by
  have hk:=h k (by simp)
  have e1:=MU (xs:=xs) (r:=r) (m:=g.length) (g:=g ++ [acc]) (o5:=some (.int ((bF xs.length λo=>cM (ay xs o) (ay xs k):Nat):Int))) (o6:=some (rt (ay xs k))) (o7:=o7) (show k<=1000 by omega)
  have e2:=MV hf (m:=g.length) (g:=g ++ [acc]) hx hs hk
  have e3:=hb (ay xs k) r.2 (g ++ [acc]) (hx _ (cx hk)) hs
  have hz:aD (acc.length+1)=true:=aK (by simp at hsz;omega)
  have bo:=IT r.1 (2 ^ k)
  have tg:gT 3 (au (gN 4) (au (gN 5) (au (gN 6) aM))) (gC xs k) (S8 xs r g.length o4 o5 o6 o7) (g ++ [acc])=some (S8 xs r g.length (some (.int k)) (some (.int ((bF xs.length λo=>cM (ay xs o) (ay xs k):Nat):Int))) (some (rt (ay xs k))) o7,g ++ [acc]):=by
   simp[gC]
  generalize Ql:(bF xs.length λo=>cM (ay xs o) (ay xs k))=bb at *
  cases hc:dI xs r k with
  |false =>
   rw[hc]at e2
   obtain⟨σ',s1,ih⟩:=zB hf hb (g:=g) hx hl hs rest acc (some (.int k)) (some (.int (bb:Int))) (some (rt (ay xs k))) (some (.int ((2 ^ k:Nat):Int))) (λj hj=>h j (by simp[hj])) (by simp at hsz;omega)
   refine⟨σ',s1,?_⟩
   rw[abd,hc,if_neg (by simp),<- ih,ZT]
   simp only[forL,tg,Zv,bV,e1,fE,e2]
   simp
  |true =>
   rw[hc]at e2
   obtain⟨σ',s1,ih⟩:=zB hf hb (g:=g) hx hl hs rest (acc ++ [jV xs r k]) (some (.int k)) (some (.int (bb:Int))) (some (rt (ay xs k))) (some (.int ((2 ^ k:Nat):Int))) (λj hj=>h j (by simp[hj])) (by simp at hsz ⊢;omega)
   refine⟨σ',s1,?_⟩
   have e4:BR be (S8 xs r g.length (some (.int k)) (some (.int (bb:Int))) (some (rt (ay xs k))) (some (.int ((2 ^ k:Nat):Int)))) (g ++ [acc])=some (.nx,S8 xs r g.length (some (.int k)) (some (.int (bb:Int))) (some (rt (ay xs k))) (some (.int ((2 ^ k:Nat):Int))),g ++ [acc ++ [jV xs r k]]):=by
    generalize XH:2 ^ k=tk at *
    have ey:jV xs r k = .tup [.int (k:Nat),.tup [.int ((r.1 ||| tk:Nat):Int),.tup (dg r.2 (ay xs k).1.dd)]]:=by
     simp[jV,rD,cy,aca,XH]
    rw[ey]
    simp[BR,aP,a_,bo,e3,hz]
   rw[abd,hc,if_pos rfl,show acc++(k::rest.filter (dI xs r)).map (jV xs r)=(acc ++ [jV xs r k])++(rest.filter (dI xs r)).map (jV xs r) by simp,<- ih,ZT]
   simp only[forL,tg,Zv,bV,e1,fE,e2,e4]
   simp[e4]
def jB (p:Int)(f:Fn):Prop:=∀xs r g,(∀x∈xs,aS p x)->xs.length<=100->St p r.2->Clean g->f [.lst (fv xs),.int (r.1:Nat),.tup r.2] g=some (.lst (mY xs r),g)
theorem wo (h:St p st)(n:Nat):bz n (.tup st)=true:=(qp (St.B h)).2 n
theorem Ei (hf:jS p fi)(hb:iH p be):jB p (aC false 8 3 (nM fi be)):=λxs r g hx hl hs hc=>by
 have key:wp (aC false 8 3 (nM fi be) [.lst (fv xs),.int (r.1:Nat),.tup r.2] g) λq=>q=(.lst (mY xs r),g):=by
  refine rG rfl ?_
  obtain⟨σ',s1,e⟩:=zB hf hb (g:=g) hx hl hs (Zx xs.length) [] none none none none (λk hk=>ZJ.mp hk) (by simp;omega)
  rw[aaK]at e
  have e0:forL (gT 3 (au (gN 4) (au (gN 5) (au (gN 6) aM)))) (av BQ (bq (wm fi) (BR be) aL)) (fv xs) [some (.lst (fv xs)),some (.int (r.1:Nat)),some (.tup r.2),some (.ref g.length),none,none,none,none] (g ++ [[]])=some (.nx,σ',g ++ [mY xs r]):=e
  have e':nM fi be [some (.lst (fv xs)),some (.int (r.1:Nat)),some (.tup r.2),none,none,none,none,none] g=some (.rt (.ref g.length),σ',g ++ [mY xs r]):=by
   simp[nM,e0,s1]
  refine⟨_,e',g.length,mY xs r,rfl,Zy _,by simp,cF λd hd=>?_,by simpa using hc.all _,by simp⟩
  obtain⟨k,hk,rfl⟩:=Zu.mp hd
  have pM:=ZJ.mp (ZU.mp hk).1
  have h1:=wo (St.put hs (hx _ (cx pM)).r.dd) g.length
  simp[bz]at h1
  simp[jV,rD,cy,bz,aY,h1]
 obtain⟨q,e,rfl⟩:=key
 exact e
theorem rQ (h:j_ d=true):∃i:Int,d = .int i:=by
 unfold j_ within at h
 split at h
 . exact⟨_,rfl⟩
 . cases h
theorem nO {P:D->Prop}(h:∀d e,P d->P e->(aH d e=true ↔ d=e)):∀(xs ys:List D),(∀x∈xs,P x)->(∀y∈ys,P y)->(de xs ys=true ↔ xs=ys)
 | [],[],_,_=>by simp[de]
 | [],_::_,_,_=>by simp[de]
 |_::_,[],_,_=>by simp[de]
 |x::xs,y::ys,h1,h2=>by
  have ih:=nO h xs ys (λz hz=>h1 z (by simp[hz])) (λz hz=>h2 z (by simp[hz]))
  have h0:=h x y (h1 x (by simp)) (h2 y (by simp))
  show(aH x y&&de xs ys)=true ↔ _
  rw[Zn,h0,ih,ael]
theorem qA:aH (.tup xs) (.tup ys)=de xs ys:=by simp only[aH]
theorem MX:aH (.int i) (.tup ys)=false:=by simp[aH]
theorem MY:aH (.tup ys) (.int i)=false:=by simp[aH]
theorem ko (h:isVal (n+1) d=true):(∃i:Int,d = .int i) \/ ∃xs,d = .tup xs /\ ∀x∈xs,isVal n x=true:=by
 cases d with
 |tup xs =>
  simp only[isVal,Zn,ZH]at h
  exact .inr ⟨xs,rfl,h.2⟩
 |int i=>exact .inl ⟨i,rfl⟩
 |_=>simp[isVal,j_,within]at h
theorem jC:∀(n:Nat) (d e:D),isVal n d=true->isVal n e=true->(aH d e=true ↔ d=e)
 | 0,d,e,h1,h2=>by
  obtain⟨i,rfl⟩:=rQ h1
  obtain⟨j,rfl⟩:=rQ h2
  rw[eV];simp
 |n+1,d,e,h1,h2=>by
  rcases ko h1 with⟨i,rfl⟩|⟨xs,rfl,hx⟩<;>rcases ko h2 with⟨j,rfl⟩|⟨ys,rfl,hy⟩
  . rw[eV];simp
  . rw[MX];simp
  . rw[MY];simp
  . rw[qA,nO (P:=λd=>isVal n d=true) (λd e=>jC n d e) xs ys hx hy];simp
theorem rR:∀(n m:Nat) (d:D),isVal n d=true->n<=m->bD (m+1) d=true
 | 0,m,d,h,_=>by obtain⟨i,rfl⟩:=rQ h;simp[bD]
 |n+1,m,d,h,hm=>by
  rcases ko h with⟨i,rfl⟩|⟨xs,rfl,hx⟩
  . simp[bD]
  . obtain⟨m',rfl⟩:∃m',m=m'+1:=⟨m-1,by omega⟩
    have:∀ys:List D,(∀y∈ys,isVal n y=true)->eY (m'+1) ys=true:=λys=>by
     induction ys with
     |nil=>intro _;simp[eY]
     |cons y ys ih=>intro hy;simp[eY,rR n m' y (hy y (by simp)) (by omega),ih λz hz=>hy z (by simp[hz])]
    simpa[bD]using this xs hx
def Rm (p:Int)(r:aQ):Prop:=St p r.2
theorem zC (hr:Rm p r)(hs:Rm p s):aH (rD r) (rD s)=true ↔ r=s:=by
 obtain⟨b,st⟩:=r
 obtain⟨c,su⟩:=s
 have h1:=nO (P:=λd=>isVal 3 d=true) (λd e=>jC 3 d e) st su hr.2 hs.2
 have e1:aH (rD (b,st)) (rD (c,su))=(decide ((b:Int)=(c:Int))&&de st su):=by
   show aH (.tup [.int (b:Nat),.tup st]) (.tup [.int (c:Nat),.tup su])=_
   rw[qA]
   show(aH (.int (b:Nat)) (.int (c:Nat))&&(aH (.tup st) (.tup su)&&de [] []))=_
   rw[eV,qA]
   simp[de]
 rw[e1,Zn,h1,decide_eq_true_eq,ahi]
 constructor
 . rintro⟨h2,h3⟩;exact⟨by omega,h3⟩
 . rintro⟨rfl,rfl⟩;exact⟨rfl,rfl⟩
theorem kP (hr:Rm p r):bD 6 (rD r)=true:=by
 have:∀ys:List D,(∀y∈ys,isVal 3 y=true)->eY 4 ys=true:=λys=>by
  induction ys with
  |nil=>intro _;simp[eY]
  |cons y ys ih=>intro hy;simp[eY,rR 3 3 y (hy y (by simp)) (by omega),ih λz hz=>hy z (by simp[hz])]
 simp[rD,bD,eY,this r.2 hr.2]
noncomputable def dR:List (aQ×D)->List D
 | []=>[]
 |e::r=>rD e.1::e.2::dR r
theorem BS (es:List (aQ×D)):(dR es).length=2*es.length:=by
 induction es with
 |nil=>rfl
 |cons e es ih=>simp[dR,ih];omega
theorem yd (es:List (aQ×D)):aT (dR es)=es.map λe=>rD e.1:=by
 induction es with
 |nil=>rfl
 |cons e es ih=>simp[dR,aT,ih]
theorem kQ:∀{es:List (aQ×D)} {r:aQ},(∀e∈es,Rm p e.1)->Rm p r->(∀e∈es,e.1≠r)->aW (dR es) (rD r)=none /\ ∀v,bU (dR es) (rD r) v=dR (es ++ [(r,v)])
 | [],r,_,_,_=>⟨rfl,λ_=>rfl⟩
 |e::es,r,h1,h2,h3=>by
  obtain⟨i1,i2⟩:=kQ (es:=es) (r:=r) (λx hx=>h1 x (by simp[hx])) h2 (λx hx=>h3 x (by simp[hx]))
  have:aH (rD e.1) (rD r)=false:=by
    cases hq:aH (rD e.1) (rD r)with
    |false=>rfl
    |true=>exact absurd ((zC (h1 e (by simp)) h2).mp hq) (h3 e (by simp))
  constructor
  . simp only[dR,aW,this,ZG,if_false,i1]
  . intro v
    simp only[dR,bU,this,ZG,if_false,i2,abx]
theorem mZ:∀{es:List (aQ×D)} {r:aQ} {v:D},(∀e∈es,Rm p e.1)->(es.map (·.1)).Nodup->(r,v)∈es->aW (dR es) (rD r)=some v
 |e::es,r,v,h1,hn,hm=>by
  rw[ZT,abl]at hn
  simp only[dR,aW]
  by_cases hq:e.1=r
  . subst hq
    rw[if_pos ((zC (h1 e (by simp)) (h1 e (by simp))).mpr rfl)]
    rcases ZE.mp hm with he|hm
    . rw[<- he]
    . exact absurd (Zu.mpr ⟨_,hm,rfl⟩) hn.1
  . have u6:(r,v)∈es:=by
      rcases ZE.mp hm with rfl|hm
      . exact absurd rfl hq
      . exact hm
    rw[if_neg (λz=>hq ((zC (h1 e (by simp)) (h1 _ (by simp[u6]:(r,v)∈e::es))).mp z))]
    exact mZ (λx hx=>h1 x (by simp[hx])) hn.2 u6
noncomputable def ye:FT:=aF (aj cD (aj ax (aa 0) (aa 1)) (fC .az))
noncomputable def FU:FS:=da (bX isRef cw (aa 2) (af (aj ax (aj ax (aa 0) (aa 1)) (fC (.int 0))) ag))
noncomputable def FV:FS:=aA (aj ax (aj ax (aa 0) (aa 1)) (fC (.int 1))) (gN 1)
noncomputable def MZ:FS:=aG (qb (aa 2))
noncomputable def t7:FS:=av (aA (aO mkRef ag) (gN 2)) (av (mx 1000000 ye (av FU FV)) MZ)
noncomputable def first (p:Int):aQ:=(0,zs p)
structure dq (xs:List Rt)(p:Int)(es:List (aQ×D)):Prop where
 rm:∀e∈es,Rm p e.1
 nd:(es.map (·.1)).Nodup
 at_:∀(i:Nat) (e:aQ×D),es[i]? = some e->(e=(first p,D.az)) \/ ∃(j:Nat) (r':aQ) (v':D) (k:Nat),j<i/\es[j]? = some (r',v')/\k<xs.length/\dI xs r' k=true/\e=(cy xs r' k,D.tup [D.int (k:Nat),rD r'])
theorem M0 (C:dq xs p es)(hm:g[m]? = some (dR es)):∀(i:Nat) (e:aQ×D),es[i]? = some e->∃ks,Path xs p ks e.1/\ks.length<=i /\ ∀(f:Nat) (acc:List D),i<f->acc.length+i<=16000000->∃σ',σ'[2]? = some (some (.ref g.length))/\jJ ye (av FU FV) f [some (.aI m),some (rD e.1),some (.ref g.length)] (g ++ [acc])=some (.nx,σ',g ++ [acc++(kD ks).reverse]):=by
 intro i
 induction i using agq with
 |ind i ih =>
 intro e he
 have Fs:m<g.length:=(Zs.mp hm).1
 have FW:∀acc:List D,(g ++ [acc])[m]? = some (dR es):=λacc=>by rw[ZL Fs];exact hm
 have Rk:e∈es:=Z_ he
 have hk:=kP (C.rm e Rk)
 have hg:aW (dR es) (rD e.1)=some e.2:=mZ C.rm C.nd Rk
 rcases C.at_ i e he with e0|⟨j,r',v',k,hj,BU,M1,hc,e1⟩
 . refine⟨[],by rw[e0];exact Path.nil,by simp,λf acc hf _=>?_⟩
   obtain⟨f,rfl⟩:∃f',f=f'+1:=⟨f-1,by omega⟩
   refine⟨[some (.aI m),some (rD e.1),some (.ref g.length)],rfl,?_⟩
   have h2:e.2 = .az:=by rw[e0]
   have ht:ye [some (.aI m),some (rD e.1),some (.ref g.length)] (g ++ [acc])=some (false,g ++ [acc]):=by
    simp[ye,FW,hk,hg,h2,isLit,cK]
   simp[jJ,ht,kD]
 . obtain⟨ks,p1,p2,p3⟩:=ih j hj (r',v') BU
   subst e1
   refine⟨ks ++ [k],Path.snoc p1 M1 hc,by simp;omega,λf acc hf hs=>?_⟩
   obtain⟨f,rfl⟩:∃f',f=f'+1:=⟨f-1,by omega⟩
   obtain⟨σ',s1,s2⟩:=p3 f (acc ++ [.int (k:Nat)]) (by omega) (by simp;omega)
   refine⟨σ',s1,?_⟩
   have ht:ye [some (.aI m),some (rD (cy xs r' k)),some (.ref g.length)] (g ++ [acc])=some (true,g ++ [acc]):=by
    simp[ye,FW,hk,hg,isLit,cK]
   have hz:aD (acc.length+1)=true:=by unfold aD;exact decide_eq_true (by omega)
   have ha:FU [some (.aI m),some (rD (cy xs r' k)),some (.ref g.length)] (g ++ [acc])=some (.nx,[some (.aI m),some (rD (cy xs r' k)),some (.ref g.length)],g ++ [acc ++ [.int (k:Nat)]]):=by
    simp[FU,FW,hk,hg,dF,hz]
   have hr:FV [some (.aI m),some (rD (cy xs r' k)),some (.ref g.length)] (g ++ [acc ++ [.int (k:Nat)]])=some (.nx,[some (.aI m),some (rD r'),some (.ref g.length)],g ++ [acc ++ [.int (k:Nat)]]):=by
    simp[FV,FW,hk,hg,fJ]
   rw[show acc++(kD (ks ++ [k])).reverse=(acc ++ [.int (k:Nat)])++(kD ks).reverse by simp[kD],<- s2]
   simp[jJ,ht,ha,hr]
def t8 (xs:List Rt)(p:Int)(f:Fn):Prop:=∀es g m e,dq xs p es->es.length<=900000->g[m]? = some (dR es)->e∈es->g.all (aY g.length)=true->∃ks,Path xs p ks e.1/\f [.aI m,rD e.1] g=some (.tup (kD ks),g)
theorem M4:t8 xs p (aC false 3 2 t7):=λes g m e C hl hm he hc=>by
 obtain⟨i,hi⟩:=aaq.mp he
 have ig:=(Zs.mp hi).1
 obtain⟨ks,p1,p2,p3⟩:=M0 C hm i e hi
 obtain⟨σ',s1,s2⟩:=p3 1000000 [] (by omega) (by simp;omega)
 refine⟨ks,p1,?_⟩
 have key:wp (aC false 3 2 t7 [.aI m,rD e.1] g) λq=>q=(.tup (kD ks),g):=by
  refine fN rfl ?_
  rw[aaK]at s2
  have hz:aD (kD ks).reverse.length=true:=by unfold aD;exact decide_eq_true (by simp[kD];omega)
  have hx:MZ σ' (g ++ [(kD ks).reverse])=some (.rt (.tup (kD ks)),σ',g ++ [(kD ks).reverse]):=by
   simp only[MZ,qT]
   unfold qb
   simp only[gL,s1,Zv,ff]
   have Fy:aD (kD ks).length=true:=by simpa using hz
   simp[Fy]
  have e':t7 [some (.aI m),some (rD e.1),none] g=some (.rt (.tup (kD ks)),σ',g ++ [(kD ks).reverse]):=by
   simp[t7,mx,s2,hx]
  refine⟨_,e',by simpa[bz]using (cF λx BK=>by obtain⟨k,_,rfl⟩:=Zu.mp BK;rfl:aY g.length (kD ks)=true),by simpa using hc,by simp,by simp⟩
 obtain⟨q,e',rfl⟩:=key
 exact e'
noncomputable def keys (es:List (aQ×D)):List aQ:=es.map (·.1)
theorem dq.path (C:dq xs p es):∀(i:Nat) (e:aQ×D),es[i]? = some e->∃ks,Path xs p ks e.1:=by
 intro i
 induction i using agq with
 |ind i ih =>
 intro e he
 rcases C.at_ i e he with e0|⟨j,r',v',k,hj,BU,M1,hc,e1⟩
 . exact⟨[],by rw[e0];exact Path.nil⟩
 . obtain⟨ks,p1⟩:=ih j hj (r',v') BU
   exact⟨ks ++ [k],by rw[e1];exact Path.snoc p1 M1 hc⟩
theorem dq.le (C:dq xs p es)(p0:0<=p)(hx:∀x∈xs,aS p x):es.length<=3 ^ xs.length:=by
 have:=Eh p0 hx C.nd λr hr=>by
  obtain⟨e,he,rfl⟩:=Zu.mp hr
  obtain⟨i,hi⟩:=aaq.mp he
  exact C.path i e hi
 simpa using this
theorem dq.add (C:dq xs p es)(hx:∀x∈xs,aS p x)(hr:r∈keys es)(hk:k<xs.length)(hc:dI xs r k=true)(hn:cy xs r k ∉ keys es):dq xs p (es ++ [(cy xs r k,.tup [.int (k:Nat),rD r])]):=by
 obtain⟨e,he,rfl⟩:=Zu.mp hr
 refine⟨λe' h'=>?_,?_,λi e' h'=>?_⟩
 . rcases Zw.mp h' with h'|h'
   . exact C.rm e' h'
   . simp at h';subst h';exact St.put (C.rm e he) (hx _ (cx hk)).r.dd
 . rw[aaL,aaD]
   refine⟨C.nd,by simp,λa ha b hb z=>?_⟩
   simp at hb
   subst hb;subst z
   exact hn ha
 . by_cases hi:i<es.length
   . rw[ZL hi]at h'
     rcases C.at_ i e' h' with h0|⟨j,r',v',k',h1,h2,h3⟩
     . exact .inl h0
     . exact .inr ⟨j,r',v',k',h1,by rw[ZL (by omega)];exact h2,h3⟩
   . rw[aas (by omega)]at h'
     have Fu:i-es.length=0:=by
       have:=(Zs.mp h').1
       simp at this;omega
     rw[Fu]at h'
     simp at h'
     obtain⟨j,hj⟩:=aaq.mp he
     have j0:=(Zs.mp hj).1
     exact .inr ⟨j,e.1,e.2,k,by omega,by rw[ZL j0];exact hj,hk,hc,h'.symm⟩
noncomputable def wq:FS:=bq (aF (aj gO (aa 9) (aa 5))) (av (aA (aO aJ (af (aa 8) (af (aa 7) ag))) (eR (aa 5) (aa 9))) (da (bX isRef cw (aa 6) (af (aa 9) ag)))) aL
noncomputable abbrev dJ (p:Int)(xs:List Rt)(n:Nat)(c7 c8 c9:Option D):Sg:=[some (.int p),some (.tup (xs.map rt)),some (.lst (fv xs)),some (.int (i8 xs:Nat)),some (rD (first p)),some (.aI n),some (.ref (n+1)),c7,c8,c9]
structure lJ (es bY:List (aQ×D))(S S':List aQ):Prop where
 ln:bY.length+S.length=es.length+S'.length
 sub:∀v∈keys es,v∈keys bY
 old:∀v∈keys bY,v∈keys es\/v∈S'
 st:∀v∈S,v∈S'
 ss:∀v∈S',v∈S\/v∈keys bY
theorem lJ.refl:lJ es es S S:=⟨rfl,λ_ h=>h,λ_ h=>.inl h,λ_ h=>h,λ_ h=>.inl h⟩
theorem lJ.trans (h1:lJ a b S T)(h2:lJ b c T U):lJ a c S U:=by
 have l1:=h1.ln
 have l2:=h2.ln
 refine⟨by omega,λv h=>h2.sub v (h1.sub v h),λv h=>?_,λv h=>h2.st v (h1.st v h),λv h=>?_⟩
 . rcases h2.old v h with h|h
   . rcases h1.old v h with h|h
     . exact .inl h
     . exact .inr (h2.st v h)
   . exact .inr h
 . rcases h2.ss v h with h|h
   . rcases h1.ss v h with h|h
     . exact .inl h
     . exact .inr (h2.sub v h)
   . exact .inr h
def FX (xs:List Rt)(p:Int):Prop:=∀es,dq xs p es->es.length<=900000
theorem zD (p0:0<=p)(hx:∀x∈xs,aS p x)(hl:xs.length<=12):FX xs p:=λes C=>by
 have:=C.le p0 hx
 have h3:3 ^ xs.length<=3 ^ 12:=aeX (by omega) hl
 have Rl:(3:Nat) ^ 12=531441:=by decide
 omega
theorem inner (hx:∀x∈xs,aS p x)(hl:FX xs p):∀(ks:List Nat) (es:List (aQ×D)) (S:List aQ) (c8 c9:Option D),(∀k∈ks,k<xs.length/\dI xs r k=true)->dq xs p es->r∈keys es->S.length<=es.length ->
  ∃bY S' BV BW,forL (gT 2 (au (gN 8) (au (gN 9) aM))) wq (ks.map (jV xs r)) (dJ p xs g.length (some (rD r)) c8 c9) (g ++ [dR es,S.map rD])=some (.nx,dJ p xs g.length (some (rD r)) BV BW,g ++ [dR bY,S'.map rD])/\dq xs p bY/\lJ es bY S S' /\ ∀k∈ks,cy xs r k∈keys bY
 | [],es,S,c8,c9,_,C,_,_=>⟨es,S,c8,c9,rfl,C,lJ.refl,by simp⟩
 |k::ks,es,S,c8,c9,h,C,hr,hS=>by
  obtain⟨hk,hc⟩:=h k (by simp)
  obtain⟨er,M5,Ej⟩:=Zu.mp hr
  have ke:Rm p r:=by rw[<- Ej];exact C.rm er M5
  have BX:Rm p (cy xs r k):=St.put ke (hx _ (cx hk)).r.dd
  have kk:=kP BX
  have a0:(g ++ [dR es,S.map rD])[g.length]? = some (dR es):=by simp
  have a1:∀d:List D,(g ++ [d,S.map rD])[g.length+1]? = some (S.map rD):=λ_=>by simp
  have tg:gT 2 (au (gN 8) (au (gN 9) aM)) (jV xs r k) (dJ p xs g.length (some (rD r)) c8 c9) (g ++ [dR es,S.map rD])=some (dJ p xs g.length (some (rD r)) (some (.int k)) (some (rD (cy xs r k))),g ++ [dR es,S.map rD]):=by
    simp[jV]
  by_cases hm:cy xs r k∈keys es
  . obtain⟨e,he,BY⟩:=Zu.mp hm
    have hg:aW (dR es) (rD (cy xs r k))=some e.2:=mZ C.rm C.nd (by rw[<- BY];exact he)
    have bd:wq (dJ p xs g.length (some (rD r)) (some (.int k)) (some (rD (cy xs r k)))) (g ++ [dR es,S.map rD])=some (.nx,dJ p xs g.length (some (rD r)) (some (.int k)) (some (rD (cy xs r k))),g ++ [dR es,S.map rD]):=by
      simp[wq,kk,hg]
    obtain⟨bY,S',BV,BW,e1,C',G',h'⟩:=inner hx hl (g:=g) ks es S (some (.int k)) (some (rD (cy xs r k))) (λj hj=>h j (by simp[hj])) C hr hS
    refine⟨bY,S',BV,BW,?_,C',G',λj hj=>?_⟩
    . rw[<- e1,ZT]
      simp only[forL,tg,Zv,bd]
    . rcases ZE.mp hj with rfl|hj
      . exact G'.sub _ hm
      . exact h' j hj
  . obtain⟨hg,hp⟩:=kQ (p:=p) C.rm BX (λe he z=>hm (Zu.mpr ⟨e,he,z⟩))
    have hle:=hl es C
    have hs:j6 (dR es)=true:=by unfold j6 aD;exact decide_eq_true (by rw[BS];omega)
    have hz:aD (S.length+1)=true:=by unfold aD;exact decide_eq_true (by omega)
    have C2:=C.add hx hr hk hc hm
    have bd:wq (dJ p xs g.length (some (rD r)) (some (.int k)) (some (rD (cy xs r k)))) (g ++ [dR es,S.map rD])=some (.nx,dJ p xs g.length (some (rD r)) (some (.int k)) (some (rD (cy xs r k))),g ++ [dR (es ++ [(cy xs r k,.tup [.int (k:Nat),rD r])]),(S ++ [cy xs r k]).map rD]):=by
      have q1:=hp (.tup [.int (k:Nat),rD r])
      simp[wq,kk,hg,hs,q1,hz,aen]
    have lU:r∈keys (es ++ [(cy xs r k,.tup [.int (k:Nat),rD r])]):=by unfold keys;rw[aaL];exact Zw.mpr (.inl hr)
    obtain⟨bY,S',BV,BW,e1,C',G',h'⟩:=inner hx hl (g:=g) ks _ (S ++ [cy xs r k]) (some (.int k)) (some (rD (cy xs r k))) (λj hj=>h j (by simp[hj])) C2 lU (by simp;omega)
    have G1:lJ es (es ++ [(cy xs r k,.tup [.int (k:Nat),rD r])]) S (S ++ [cy xs r k]):=by
      refine⟨by simp;omega,λv hv=>by unfold keys at *;rw[aaL];exact Zw.mpr (.inl hv),λv hv=>?_,λv hv=>Zw.mpr (.inl hv),λv hv=>?_⟩
      . unfold keys at *
        rw[aaL]at hv
        rcases Zw.mp hv with hv|hv
        . exact .inl hv
        . exact .inr (Zw.mpr (.inr (by simpa using hv)))
      . rcases Zw.mp hv with hv|hv
        . exact .inl hv
        . refine .inr ?_
          unfold keys
          rw[aaL]
          exact Zw.mpr (.inr (by simpa using hv))
    refine⟨bY,S',BV,BW,?_,C',G1.trans G',λj hj=>?_⟩
    . rw[<- e1,ZT]
      simp only[forL,tg,Zv,bd]
    . rcases ZE.mp hj with rfl|hj
      . exact G'.sub _ (by unfold keys;simp)
      . exact h' j hj
noncomputable def M6:FS:=aA (bX isRef rn (aa 6) ag) (gN 7)
noncomputable def FY:FT:=aF (aj oEq (aj (aP a_ Z9) (aj ax (aa 7) (fC (.int 0))) (aa 3)) (aa 3))
noncomputable def Rn (way:Fn):FS:=aG (aO aJ (af (fC (.str "order")) (af (aq way (af (aa 5) (af (aa 7) ag))) ag)))
noncomputable def M7 (leads:Fn):FS:=cj (bu (aq leads (af (aa 2) (af (aj ax (aa 7) (fC (.int 0))) (af (aj ax (aa 7) (fC (.int 1))) ag))))) (gT 2 (au (gN 8) (au (gN 9) aM))) wq
noncomputable def oC:FT:=aF (aj oo (aq cu (af (aa 6) ag)) (fC (.int 0)))
noncomputable def qB (leads way:Fn):FS:=av M6 (av (bq FY (Rn way) aL) (M7 leads))
theorem qC (h:Rm p r)(n:Nat):bz n (rD r)=true:=by
 have h1:=wo h n
 simp[bz]at h1
 simp[rD,bz,aY,h1]
theorem IX {p:Int}{S:List aQ}(h:∀v∈S,Rm p v)(n:Nat):aY n (S.map rD)=true:=cF λd hd=>by
 obtain⟨v,hv,rfl⟩:=Zu.mp hd
 exact qC (h v hv) n
theorem BZ (h:d∈dR es):∃e∈es,d=rD e.1\/d=e.2:=by
 induction es with
 |nil=>cases h
 |cons e es ih =>
  simp only[dR,ZE]at h
  rcases h with rfl|rfl|h
  . exact⟨e,by simp,.inl rfl⟩
  . exact⟨e,by simp,.inr rfl⟩
  . obtain⟨e',h1,h2⟩:=ih h
    exact⟨e',by simp[h1],h2⟩
theorem dq.bz (C:dq xs p es)(n:Nat):aY n (dR es)=true:=cF λd hd=>by
 obtain⟨e,he,h⟩:=BZ hd
 rcases h with rfl|rfl
 . exact qC (C.rm e he) n
 . obtain⟨i,hi⟩:=aaq.mp he
   rcases C.at_ i e hi with e0|⟨j,r',v',k,_,BU,_,_,e1⟩
   . rw[e0];rfl
   . have:=qC (C.rm _ (Z_ BU)) n
     rw[e1]
     simp[L3.bz,aY]
     exact this
theorem dq.FZ (C:dq xs p es)(h:v∈keys es):Rm p v:=by
 obtain⟨e,he,rfl⟩:=Zu.mp h
 exact C.rm e he
theorem M8 (hc:Clean g)(ha:∀n,aY n a=true)(hb:∀n,aY n b=true):Clean (g ++ [a,b]):=λxs hx n=>by
 rcases Zw.mp hx with h|h
 . exact hc xs h n
 . simp at h
   rcases h with rfl|rfl
   . exact ha n
   . exact hb n
structure LI (xs:List Rt)(p:Int)(es:List (aQ×D))(S:List aQ)(c:Nat):Prop where
 C:dq xs p es
 fs:first p∈keys es
 sk:∀v∈S,v∈keys es
 pr:∀v∈keys es,v∈S\/(dN xs v.1=false /\ ∀k<xs.length,dI xs v k=true->cy xs v k∈keys es)
 ct:c+S.length=es.length
def i5 (xs:List Rt)(p:Int)(es:List (aQ×D)):Prop:=first p∈keys es /\ ∀v∈keys es,dN xs v.1=false /\ ∀k<xs.length,dI xs v k=true->cy xs v k∈keys es
theorem i5.no {xs p es}(h:i5 xs p es)(hp:Path xs p ks r):r∈keys es/\dN xs r.1=false:=by
 have:r∈keys es:=by
  induction hp with
  |nil=>exact h.1
  |snoc _ hk hc ih=>exact(h.2 _ ih).2 _ hk hc
 exact⟨this,(h.2 _ this).1⟩
set_option maxHeartbeats 4000000 in
theorem loop {le wa:Fn}{xs:List Rt}{p:Int}(hx:∀x∈xs,aS p x)(hn:xs.length<=100)(hl:FX xs p)(hle:jB p le)(F0:t8 xs p wa){g:G}(hc:Clean g):∀(f c:Nat) (es:List (aQ×D)) (S:List aQ) (c7 c8 c9:Option D),LI xs p es S c->900001<=f+c ->
  (∃σ' a b ks r,jJ oC (qB le wa) f (dJ p xs g.length c7 c8 c9) (g ++ [dR es,S.map rD])=some (.rt (.tup [.str "order",.tup (kD ks)]),σ',g ++ [a,b])/\Path xs p ks r/\dN xs r.1=true) \/
  (∃bY d7 d8 d9,jJ oC (qB le wa) f (dJ p xs g.length c7 c8 c9) (g ++ [dR es,S.map rD])=some (.nx,dJ p xs g.length d7 d8 d9,g ++ [dR bY,[]])/\dq xs p bY/\i5 xs p bY)
 | 0,c,es,S,c7,c8,c9,I,hf=>by
  have:=hl es I.C
  have:=I.ct
  omega
 |f+1,c,es,S,c7,c8,c9,I,hf=>by
  have a1:(g ++ [dR es,S.map rD])[g.length+1]? = some (S.map rD):=by simp
  have ec:oC (dJ p xs g.length c7 c8 c9) (g ++ [dR es,S.map rD])=some (decide (0<S.length),g ++ [dR es,S.map rD]):=by
    simp[oC,b4]
  rcases aeK S with rfl|⟨T,r,rfl⟩
  . refine .inr ⟨es,c7,c8,c9,?_,I.C,I.fs,λv hv=>?_⟩
    . simp only[jJ,ec]
      simp
    . rcases I.pr v hv with h|h
      . cases h
      . exact h
  . rw[aeL]at I ec a1 ⊢
    have M9:r∈keys es:=I.sk r (by simp)
    have ke:=I.C.FZ M9
    have ct:=I.ct
    have po:M6 (dJ p xs g.length c7 c8 c9) (g ++ [dR es,(T ++ [r]).map rD])=some (.nx,dJ p xs g.length (some (rD r)) c8 c9,g ++ [dR es,T.map rD]):=by
      simp[M6,rn,aen]
    have Ro:oC (dJ p xs g.length c7 c8 c9) (g ++ [dR es,(T ++ [r]).map rD])=some (true,g ++ [dR es,(T ++ [r]).map rD]):=by
      rw[ec];simp
    have cl:Clean (g ++ [dR es,T.map rD]):=M8 hc (λn=>I.C.bz n) (λn=>IX (λv hv=>I.C.FZ (I.sk v (by simp[hv]))) n)
    have ba:=jU r.1 (i8 xs)
    have ev:FY (dJ p xs g.length (some (rD r)) c8 c9) (g ++ [dR es,T.map rD])=some (dN xs r.1,g ++ [dR es,T.map rD]):=by
      have e1:=yb xs r.1
      generalize ot:i8 xs=en at *
      cases h:dN xs r.1 with
      |true =>
        have e2:=e1.mpr h
        rw[e2]at ba
        simp[FY,rD,dF,aP,a_,ba,ot]
      |false =>
        have e2:¬(r.1 &&& en)=en:=λz=>by rw[e1.mp z]at h;cases h
        have e3:¬(((r.1 &&& en:Nat):Int)=(en:Int)):=by omega
        generalize (r.1 &&& en)=ae at *
        simp[FY,rD,dF,aP,a_,ba,ot,e3]
    cases hE:dN xs r.1 with
    |true =>
      rw[hE]at ev
      obtain⟨e,he,BY⟩:=Zu.mp M9
      have h3:=hl es I.C
      obtain⟨ks,p1,p2⟩:=F0 es (g ++ [dR es,T.map rD]) g.length e I.C (by omega) (by simp) he (cl.all _)
      rw[BY]at p1 p2
      refine .inl ⟨dJ p xs g.length (some (rD r)) c8 c9,dR es,T.map rD,ks,r,?_,p1,hE⟩
      simp only[jJ,Ro,Zv,if_true,qB,bV,po,fE,ev]
      simp[Rn,p2]
    |false =>
      rw[hE]at ev
      have ld:=hle xs r (g ++ [dR es,T.map rD]) hx (by omega) ke cl
      obtain⟨bY,S',d8,d9,e1,C',G',h'⟩:=inner hx hl (g:=g) (r:=r) ((Zx xs.length).filter (dI xs r)) es T c8 c9 (λk hk=>⟨ZJ.mp (ZU.mp hk).1,(ZU.mp hk).2⟩) I.C M9 (by simp at ct;omega)
      have XI:M7 le (dJ p xs g.length (some (rD r)) c8 c9) (g ++ [dR es,T.map rD])=some (.nx,dJ p xs g.length (some (rD r)) d8 d9,g ++ [dR bY,S'.map rD]):=by
        have e2:forL (gT 2 (au (gN 8) (au (gN 9) aM))) wq (mY xs r) (dJ p xs g.length (some (rD r)) c8 c9) (g ++ [dR es,T.map rD])=_:=e1
        have i1:bu (aq le (af (aa 2) (af (aj ax (aa 7) (fC (.int 0))) (af (aj ax (aa 7) (fC (.int 1))) ag)))) (dJ p xs g.length (some (rD r)) c8 c9) (g ++ [dR es,T.map rD])=some (mY xs r,g ++ [dR es,T.map rD]):=by
          simp[rD,dF,fJ,ld]
        simp only[M7,kJ,i1,Zv,e2]
      have I':LI xs p bY S' (c+1):=by
        have gl:=G'.ln
        refine⟨C',G'.sub _ I.fs,λv hv=>?_,λv hv=>?_,by simp at ct;omega⟩
        . rcases G'.ss v hv with h|h
          . exact G'.sub v (I.sk v (by simp[h]))
          . exact h
        . rcases G'.old v hv with h|h
          . rcases I.pr v h with h2|⟨h2,h3⟩
            . rcases Zw.mp h2 with h2|h2
              . exact .inl (G'.st v h2)
              . simp at h2
                subst h2
                exact .inr ⟨hE,λk hk pY=>h' k (ZU.mpr ⟨ZJ.mpr hk,pY⟩)⟩
            . exact .inr ⟨h2,λk hk pY=>G'.sub _ (h3 k hk pY)⟩
          . exact .inl h
      have step:jJ oC (qB le wa) (f+1) (dJ p xs g.length c7 c8 c9) (g ++ [dR es,(T ++ [r]).map rD])=jJ oC (qB le wa) f (dJ p xs g.length (some (rD r)) d8 d9) (g ++ [dR bY,S'.map rD]):=by
        simp only[jJ,Ro,Zv,if_true,qB,bV,po,fE,ev]
        simp[XI]
      rw[step]
      exact loop hx hn hl hle F0 hc f (c+1) bY S' (some (rD r)) d8 d9 I' (by omega)
theorem oD {α:Type}{f h:α->D}{t:FG}{e:FE}{nn:Nat}{g:G}{ys:List D}{xs:List α}(hg:g[nn]? = some ys)(hk:aT ys=xs.map f)(I:Sg->Prop)(hh:∀x∈xs,∀σ,I σ->∃σ1,t (f x) σ g=some (σ1,g)/\e σ1 g=some (h x,g)/\I σ1):
  ∀(k:Nat) (σ:Sg),k<=xs.length->I σ->gr nn xs.length t aN e k σ g=some ((xs.drop (xs.length-k)).map h,g)
 | 0,σ,_,_=>by simp[gr,hg,hk]
 |k+1,σ,MG,hi=>by
  have bf:xs.length-(k+1)<xs.length:=by omega
  obtain⟨σ1,h1,h2,h4⟩:=hh (xs[xs.length-(k+1)]) (aau bf) σ hi
  have ih:=oD hg hk I hh k σ1 (by omega) h4
  rw[aaT bf,show xs.length-(k+1)+1=xs.length-k by omega]
  have rO:(xs.map f)[xs.length-(k+1)]? = some (f xs[xs.length-(k+1)]):=by simp[bf]
  simp only[gr,hg,hk,aab,Zv,ZN,if_true,rO,h1]
  simp[h2,ih]
noncomputable def Ek:FS:=aG (aq cO (af (aU aV (fS (af (aa 1) ag)) [none,none,some 0] (gN 1) (aF (aj fF (aj (aP a_ Z9) (aa 2) (aj (aP cN (λi j=>i*2 ^ j.toNat)) (fC (.int 1)) (aa 1))) (fC (.int 0)))) (aa 1)) ag))
noncomputable def fR (n b:Nat):List Nat:=(Zx n).filter λi=>b.testBit i
def jv (f:Fn):Prop:=∀(b n:Nat) g,n<=100->f [.int (b:Nat),.int (n:Nat)] g=some (.tup (kD (fR n b)),g)
theorem P2:jv (aC false 2 2 Ek):=λb n g hn=>by
 refine bQ (σ':=[some (.int (b:Nat)),some (.int (n:Nat))]) rfl ?_ rfl
 have hr:cU 0 n=(Zx n).map λ(i:Nat)=>D.int (i:Nat):=by
  unfold cU
  exact aar λi _=>by simp
 have ir:fS (af (aa 1) ag) [some (.int (b:Nat)),some (.int (n:Nat))] g=some (cU 0 n,g):=by
  obtain⟨q,e,h⟩:wp (fS (af (aa 1) ag) [some (.int (b:Nat)),some (.int (n:Nat))] g) λq=>q=(cU 0 n,g):=by
   refine nJ ?_
   simp
   omega
  rw[e,h]
 have hz:aD (cU 0 n).length=true:=aK (by rw[gQ];omega)
 have c1:=fK (f:=λ(i:Nat)=>D.int (i:Nat)) (t:=gN 1) (c:=aF (aj fF (aj (aP a_ Z9) (aa 2) (aj (aP cN (λi j=>i*2 ^ j.toNat)) (fC (.int 1)) (aa 1))) (fC (.int 0)))) (e:=aa 1) (cB:=λi=>b.testBit i) (h:=λ(i:Nat)=>D.int (i:Nat)) (λσ=>∃a,σ = [none,a,some (.int (b:Nat))]) (Zx n) [none,none,some (.int (b:Nat))] g ⟨_,rfl⟩ (by
  rintro i hm σ ⟨a,rfl⟩
  have hi:=ZJ.mp hm
  refine⟨[none,some (.int i),some (.int (b:Nat))],by simp,?_,λ_=>by simp,⟨_,rfl⟩⟩
  have o1:=qx (show i<=1000 by omega)
  have hc:((2:Int) ^ i)=((2 ^ i:Nat):Int):=by simp
  have ba:Z9 (b:Int) ((2:Int) ^ i)=((b &&& 2 ^ i:Nat):Int):=by rw[hc];exact jU b (2 ^ i)
  have e1:=rP b i
  cases ht:b.testBit i with
  |false =>
   have e2:=e1.mpr ht
   rw[e2]at ba
   simp[aP,a_,o1,ba,flat,dep,eV]
  |true =>
   have e2:¬(b &&& 2 ^ i)=0:=λz=>by rw[e1.mp z]at ht;cases ht
   have e3:¬(((b &&& 2 ^ i:Nat):Int)=0):=by omega
   generalize (b &&& 2 ^ i)=ae at *
   simp[aP,a_,o1,ba,flat,dep,eV]
   omega)
 rw[<- hr]at c1
 have c2:b6 (gN 1) (aF (aj fF (aj (aP a_ Z9) (aa 2) (aj (aP cN (λi j=>i*2 ^ j.toNat)) (fC (.int 1)) (aa 1))) (fC (.int 0)))) (aa 1) (cU 0 n) [none,none,some (.int (b:Nat))] g=some (kD (fR n b),g):=c1
 have sb:bH [none,none,some 0] [some (D.int (b:Nat)),some (D.int (n:Nat))]= [none,none,some (.int (b:Nat))]:=rfl
 have sZ:aD (kD (fR n b)).length=true:=aK (by
  have:=aaC (λi=>b.testBit i) (Zx n)
  simp at this
  simp[kD,fR]
  omega)
 show Ek [some (.int (b:Nat)),some (.int (n:Nat))] g=_
 unfold Ek
 simp only[qT,oR,jM,ny,C8,ir,Zv,hz,if_true,sb,c2]
 simp[aV,cO,b4,sZ]
noncomputable def B0 (rd:Fn):FS:=aG (aO aJ (af (fC (.str "none")) (af (aq cO (af (iW aV (i7 (aa 5)) [none,none,none,some 1] (gT 2 (au (gN 1) (au (gN 2) aM))) aN (aO aJ (af (aq rd (af (aa 1) (af (aq cu (af (aa 3) ag)) ag))) (af (aa 2) ag)))) ag)) ag)))
noncomputable def qD (zeros plan ended leads way rd:Fn):FS:=av (aA (aq plan (af (aa 1) ag)) (gN 2)) (av (aA (aq ended (af (aa 1) ag)) (gN 3)) (av (aA (aO aJ (af (fC (.int 0)) (af (aq zeros (af (aa 0) ag)) ag))) (gN 4)) (av (aA (gq [(aa 4,fC .az)]) (gN 5)) (av (aA (aO mkRef (af (aa 4) ag)) (gN 6)) (av (mx 1000000 oC (qB leads way)) (B0 rd))))))
noncomputable def bL (xs:List Rt)(r:aQ):D:=.tup [.tup (kD (fR xs.length r.1)),.tup r.2]
theorem M_ {rd:Fn}{xs:List Rt}{p:Int}{es:List (aQ×D)}{g:G}{d7 d8 d9:Option D}(hr:jv rd)(hl:xs.length<=100)(C:dq xs p es)(hle:es.length<=1000000):
  B0 rd (dJ p xs g.length d7 d8 d9) (g ++ [dR es,[]])=some (.rt (.tup [.str "none",.tup ((keys es).map (bL xs))]),dJ p xs g.length d7 d8 d9,g ++ [dR es,[]]):=by
 have hg:(g ++ [dR es,[]])[g.length]? = some (dR es):=by simp
 have hz:aD (keys es).length=true:=by unfold aD;exact decide_eq_true (by simp[keys];omega)
 have hk:aT (dR es)=(keys es).map rD:=by rw[yd];simp[keys]
 have c1:=oD (f:=rD) (t:=gT 2 (au (gN 1) (au (gN 2) aM))) (e:=aO aJ (af (aq rd (af (aa 1) (af (aq cu (af (aa 3) ag)) ag))) (af (aa 2) ag))) (h:=bL xs) hg hk (λσ=>∃a b,σ = [none,a,b,some (.tup (xs.map rt))]) (by
  rintro r hm σ ⟨a,b,rfl⟩
  refine⟨[none,some (.int (r.1:Nat)),some (.tup r.2),some (.tup (xs.map rt))],by simp[rD],?_,⟨_,_,rfl⟩⟩
  have:=hr r.1 xs.length (g ++ [dR es,[]]) hl
  simp[b4,this,bL]) (keys es).length [none,none,none,some (.tup (xs.map rt))] (Zy _) ⟨_,_,rfl⟩
 rw[abW,abR]at c1
 have kl:(aT (dR es)).length=(keys es).length:=by rw[hk];simp
 have sb:bH [none,none,none,some 1] (dJ p xs g.length d7 d8 d9)= [none,none,none,some (.tup (xs.map rt))]:=rfl
 have i1:i7 (aa 5) (dJ p xs g.length d7 d8 d9) (g ++ [dR es,[]])=some (g.length,(keys es).length,g ++ [dR es,[]]):=by
  simp[kl]
 have cd:iW aV (i7 (aa 5)) [none,none,none,some 1] (gT 2 (au (gN 1) (au (gN 2) aM))) aN (aO aJ (af (aq rd (af (aa 1) (af (aq cu (af (aa 3) ag)) ag))) (af (aa 2) ag))) (dJ p xs g.length d7 d8 d9) (g ++ [dR es,[]])=some (.lst ((keys es).map (bL xs)),g ++ [dR es,[]]):=by
  simp only[A6,i1,Zv,hz,if_true,sb,c1]
  rfl
 have sZ:aD ((keys es).map (bL xs)).length=true:=by rw[ZN];exact hz
 unfold B0
 simp only[qT,Lr,oR,jM,ny,tO,Zv,cd]
 simp[cO,b4]
 simp at sZ
 simp[sZ]
def Na (xs:List Rt)(p:Int)(d:D):Prop:=(flat d=true/\dep d<=60 /\ ∀n,bz n d=true)/\((∃ks r,d = .tup [.str "order",.tup (kD ks)]/\Path xs p ks r/\dN xs r.1=true)\/(∃es,d = .tup [.str "none",.tup ((keys es).map (bL xs))]/\dq xs p es/\i5 xs p es))
theorem IY (h:Rm p r):flat (bL xs r)=true/\dep (bL xs r)<=6 /\ ∀n,bz n (bL xs r)=true:=by
 obtain⟨h1,h2⟩:=rL (fR xs.length r.1)
 obtain⟨h3,h4⟩:=St.flat h
 have Rl:aX r.2=true:=by simpa[flat]using h3
 have Zh:bS r.2<=3:=by simp[dep]at h4;omega
 refine⟨by simp[bL,flat,aX,h1,Rl],by simp[bL,dep,bS,h2];omega,λn=>?_⟩
 have h5:=wo h n
 simp[bz]at h5
 have h6:aY n (kD (fR xs.length r.1))=true:=cF λx hx=>by
  obtain⟨k,_,rfl⟩:=Zu.mp hx
  rfl
 simp[bL,bz,aY,h5,h6]
def F1 (p:Int)(f:Fn):Prop:=∀xs g,(∀x∈xs,aS p x)->xs.length<=100->FX xs p->Clean g->∃d,f [.int p,.tup (xs.map rt)] g=some (d,g)/\Na xs p d
set_option maxHeartbeats 4000000 in
theorem Nb (p0:0<=p)(hz:kM p z)(hp:qz p pl)(he:t6 en)(hle:jB p le)(F0:∀xs,t8 xs p wa)(hr:jv rd):F1 p (aC false 10 2 (qD z pl en le wa rd)):=λxs g hx hn hl hc=>by
 have key:wp (aC false 10 2 (qD z pl en le wa rd) [.int p,.tup (xs.map rt)] g) λq=>q.2=g/\Na xs p q.1:=by
  refine fN rfl ?_
  have e1:=hp xs g hx (by omega) hc
  have e2:=he xs g (by omega)
  have e3:=hz g
  have fr:Rm p (first p):=St.zs p0
  have kk:=kP fr
  have C0:dq xs p [(first p,.az)]:=⟨λe h=>by simp at h;subst h;exact fr,by simp,λi e h=>by
    have:=(Zs.mp h).1
    have hi:i=0:=by simpa using this
    subst hi
    simp at h
    exact .inl h.symm⟩
  have I0:LI xs p [(first p,.az)] [first p] 0:=⟨C0,by simp[keys],λv hv=>by simpa[keys]using hv,λv hv=>.inl (by simpa[keys]using hv),by simp⟩
  have lp:=loop hx hn hl hle (F0 xs) hc 1000000 0 [(first p,.az)] [first p] none none none I0 (by omega)
  have pre:∀R,av (mx 1000000 oC (qB le wa)) (B0 rd) (dJ p xs g.length none none none) (g ++ [dR [(first p,.az)],[first p].map rD])=R->qD z pl en le wa rd [some (.int p),some (.tup (xs.map rt)),none,none,none,none,none,none,none,none] g=R:=λR hR=>by
    have dn:gq [(aa 4,fC .az)] [some (.int p),some (.tup (xs.map rt)),some (.lst (fv xs)),some (.int (i8 xs:Nat)),some (rD (first p)),none,none,none,none,none] g=some (.aI g.length,g ++ [dR [(first p,.az)]]):=by
     have sz:j6 []=true:=by decide
     simp[gq,qZ,L3.putAll,kj,kk,sz,bU,dR]
    have fd:rD (first p)= .tup [.int 0,.tup (zs p)]:=rfl
    rw[<- hR]
    unfold qD
    generalize av (mx 1000000 oC (qB le wa)) (B0 rd)=rest
    rw[fd]at dn
    simp[e1,e2,e3,dn,fd]
    rfl
  show wp (qD z pl en le wa rd [some (.int p),some (.tup (xs.map rt)),none,none,none,none,none,none,none,none] g) _
  rcases lp with⟨σ',a,b,ks,r,e,h1,h2⟩|⟨bY,d7,d8,d9,e,C',h1⟩
  . have:=pre (some (.rt (.tup [.str "order",.tup (kD ks)]),σ',g ++ [a,b])) (by simp only[bV,mx,e,Zv])
    rw[this]
    have kn:∀n,aY n (kD ks)=true:=λn=>cF λx hx=>by
     obtain⟨k,_,rfl⟩:=Zu.mp hx
     rfl
    obtain⟨f1,f2⟩:=rL ks
    simp only[gM]
    refine⟨by simp[bz,aY,kn],by simpa using hc.all _,by simp,by simp,⟨by simp[flat,aX,f1],by simp[dep,bS,f2],λn=>by simp[bz,aY,kn]⟩,.inl ⟨ks,r,rfl,h1,h2⟩⟩
  . have YJ:=hl bY C'
    have e5:=M_ (g:=g) (d7:=d7) (d8:=d8) (d9:=d9) hr (by omega) C' (by omega)
    have:=pre (some (.rt (.tup [.str "none",.tup ((keys bY).map (bL xs))]),dJ p xs g.length d7 d8 d9,g ++ [dR bY,[]])) (by simp only[bV,mx,e,Zv,e5])
    rw[this]
    have yy:∀x∈(keys bY).map (bL xs),flat x=true/\dep x<=6 /\ ∀n,bz n x=true:=λx hx=>by
     obtain⟨r,hr,rfl⟩:=Zu.mp hx
     exact IY (C'.FZ hr)
    obtain⟨f1,f2⟩:=lG λx hx=>⟨(yy x hx).1,(yy x hx).2.1⟩
    have kn:∀n,aY n ((keys bY).map (bL xs))=true:=λn=>cF λx hx=>(yy x hx).2.2 n
    have done_:=And.intro C' h1
    generalize Fq:(keys bY).map (bL xs)=ls at *
    simp only[gM]
    refine⟨by simp[bz,aY,kn],by simpa using hc.all _,by simp,by simp,⟨by simp[flat,aX,f1],by simp[dep,bS];omega,λn=>by simp[bz,aY,kn]⟩,.inr ⟨bY,by rw[Fq],done_⟩⟩
 obtain⟨⟨d,g'⟩,e,h1,h2⟩:=key
 dsimp only at h1 h2
 subst h1
 exact⟨d,e,h2⟩
noncomputable def zE (t a:Fn):FS:=av (bq (gW (b5 (bN (aq t (af (aa 1) (af (fC (.int 0)) (af (aq cu (af (aa 0) ag)) ag)))))) (b5 (bN (aq a (af (aa 0) (af (aa 1) ag)))))) (aG (fC (.bl false))) aL) (aG (aq eZ (af (aU aV (sD (af (fC (.int 1)) (af (aq cu (af (aa 1) ag)) ag))) [none,none,some 1] (gN 1) aN (aj oLt (aj ax (aa 2) (aj (aP a_ (· - ·)) (aa 1) (fC (.int 1)))) (aj ax (aa 2) (aa 1)))) ag)))
def zF (f:Fn):Prop:=∀(ss:List D) (ks:List Nat) g,ks.Pairwise (· < ·)->(∀k∈ks,k<ss.length)->ss.length<=100->f [.tup ss,.tup (kD ks)] g=some (.bl true,g)
theorem IZ {ks:List Nat}{n:Nat}(hp:ks.Pairwise (· < ·))(hk:∀k∈ks,k<n):ks.length<=n:=by
 have:=pz (V:=ks) (W:=Zx n) (hp.imp λh=>ZP h) (λk h=>ZJ.mpr (hk k h))
 simpa using this
theorem Nc {t a:Fn}(ht:eK t)(ha:tZ a):zF (aC false 2 2 (zE t a)):=λss ks g hp hk hl=>by
 have MG:=IZ hp hk
 have kl:(kD ks).length=ks.length:=by simp[kD]
 refine bQ (σ':=[some (.tup ss),some (.tup (kD ks))]) rfl ?_ rfl
 have e1:=ht (.tup (kD ks)) 0 (ss.length:Int) g rfl
 have t1:dC (.tup (kD ks)) 0 (ss.length:Int)=true:=by
  simp[dC,kl];omega
 rw[t1]at e1
 have e2:=ha ss (kD ks) g (λx hx=>by obtain⟨k,_,rfl⟩:=Zu.mp hx;rfl) (by rw[kl];omega)
 have t2:(kD ks).all (kN ss.length)=true:=by
  rw[ZH]
  intro d hd
  obtain⟨k,h,rfl⟩:=Zu.mp hd
  have:=hk k h
  simp only[kN,within,Zn,decide_eq_true_eq]
  omega
 rw[t2]at e2
 have ir:sD (af (fC (.int 1)) (af (aq cu (af (aa 1) ag)) ag)) [some (.tup ss),some (.tup (kD ks))] g=some (cU 1 (ks.length-1),g):=by
  obtain⟨q,e,h⟩:wp (sD (af (fC (.int 1)) (af (aq cu (af (aa 1) ag)) ag)) [some (.tup ss),some (.tup (kD ks))] g) λq=>q=(cU 1 (ks.length-1),g):=by
   refine PV ?_
   have en:((ks.length:Int)-1).toNat=ks.length-1:=by omega
   simp only[jM,tO,oR,gL,ny,Zv]
   simp[b4,kl]
   exact⟨1,ks.length,⟨rfl,rfl⟩,⟨by omega,by omega⟩,⟨by omega,by omega⟩,by rw[en]⟩
  rw[e,h]
 have hz:aD (cU 1 (ks.length-1)).length=true:=aK (by rw[gQ];omega)
 have c1:=cE (f:=λ(i:Nat)=>D.int (1+(i:Int))) (t:=gN 1) (c:=aN) (e:=aj oLt (aj ax (aa 2) (aj (aP a_ (· - ·)) (aa 1) (fC (.int 1)))) (aj ax (aa 2) (aa 1))) (h:=λ_=>D.bl true) (λσ=>∃o,σ = [none,o,some (.tup (kD ks))]) (Zx (ks.length-1)) [none,none,some (.tup (kD ks))] g ⟨_,rfl⟩ (by
  rintro i hm σ ⟨o,rfl⟩
  have hi:=ZJ.mp hm
  refine⟨[none,some (.int (1+(i:Int))),some (.tup (kD ks))],by simp,by simp,?_,⟨_,rfl⟩⟩
  have h0:i<ks.length:=by omega
  have h1:i+1<ks.length:=by omega
  have lt:=List.pairwise_iff_getElem.mp hp i (i+1) h0 h1 (by omega)
  have a1:d6 (kD ks) ((1:Int)+(i:Int)-1)=some (.int (ks[i]:Nat)):=by
   rw[show(1:Int)+(i:Int)-1=((i:Nat):Int) by omega]
   exact eH (by simp[kD,h0])
  have a2:d6 (kD ks) ((1:Int)+(i:Int))=some (.int (ks[i+1]:Nat)):=by
   rw[show(1:Int)+(i:Int)=((i+1:Nat):Int) by omega]
   exact eH (by simp[kD,h1])
  simp[aP,a_,a1,a2,lt])
 have c2:b6 (gN 1) aN (aj oLt (aj ax (aa 2) (aj (aP a_ (· - ·)) (aa 1) (fC (.int 1)))) (aj ax (aa 2) (aa 1))) (cU 1 (ks.length-1)) [none,none,some (.tup (kD ks))] g=some ((Zx (ks.length-1)).map λ_=>D.bl true,g):=c1
 have sb:bH [none,none,some 1] [some (D.tup ss),some (D.tup (kD ks))]= [none,none,some (.tup (kD ks))]:=rfl
 have bm:=dX (λ_:Nat=>true) (Zx (ks.length-1))
 show zE t a [some (.tup ss),some (.tup (kD ks))] g=_
 unfold zE
 generalize kD ks=kk at *
 simp[e1,e2,ir,hz,sb,c2,bm]
noncomputable def zG (t v:Fn)(e:FE):FS:=av (bq (b5 (bN (aq t (af (aa 2) (af (aa 0) (af (aa 0) ag)))))) (aG (fC (.bl false))) aL) (aG (aq eZ (af (aU aV (bu (aa 2)) [none,none,some 1] (gN 1) aN (mw (aq v (af (aa 1) ag)) (aq js (af (aU aV (bu (aa 2)) [none,none,some 1] (gN 1) aN e) ag)))) ag)))
def zH (p:Int)(f:Fn):Prop:=∀(vs:D) st g,St p st->f [.int p,vs,.tup st] g=some (.bl true,g)
theorem Nd (hp:p<=100)(ht:eK t)(hv:zr v):zH p (aC false 3 3 (zG t v e)):=λvs st g hs=>by
 refine bQ (σ':=[some (.int p),some vs,some (.tup st)]) rfl ?_ rfl
 have e1:=ht (.tup st) p p g rfl
 have t1:dC (.tup st) p p=true:=by
  have:=hs.1
  simp[dC,this]
 rw[t1]at e1
 have hz:aD st.length=true:=aK (by have:=hs.1;omega)
 have c1:=eO (t:=gN 1) (c:=aN) (e:=mw (aq v (af (aa 1) ag)) (aq js (af (aU aV (bu (aa 2)) [none,none,some 1] (gN 1) aN e) ag))) (h:=λ_=>D.bl true) (λσ=>∃o,σ = [none,o,some vs]) st [none,none,some vs] g ⟨_,rfl⟩ (by
  rintro d hm σ ⟨o,rfl⟩
  refine⟨[none,some d,some vs],by simp,by simp,?_,⟨_,rfl⟩⟩
  have e2:=hv d g (lF 3 d (hs.2 d hm)).1
  rw[hs.2 d hm]at e2
  simp[e2])
 have sb:bH [none,none,some 1] [some (D.int p),some vs,some (.tup st)]= [none,none,some vs]:=rfl
 have bm:=dX (λ_:D=>true) st
 show zG t v e [some (.int p),some vs,some (.tup st)] g=_
 unfold zG
 simp[e1,hz,sb,c1,bm]
noncomputable def wt (t r s:Fn):FS:=av (bq (b5 (bN (aq t (af (aa 3) (af (fC (.int 2)) (af (fC (.int 2)) ag)))))) (aG (fC (.bl false))) aL) (aG (dS (aq r (af (aa 1) (af (aj ax (aa 3) (fC (.int 0))) ag))) (aq s (af (aa 0) (af (aa 2) (af (aj ax (aa 3) (fC (.int 1))) ag))))))
def qE (p:Int)(f:Fn):Prop:=∀(ss:List D) (vs:D) (ks:List Nat) st g,ks.Pairwise (· < ·)->(∀k∈ks,k<ss.length)->ss.length<=100->St p st->f [.int p,.tup ss,vs,.tup [.tup (kD ks),.tup st]] g=some (.bl true,g)
theorem I_ (ht:eK t)(hr:zF r)(hs:zH p s):qE p (aC false 4 4 (wt t r s)):=λss vs ks st g h1 h2 h3 h4=>by
 refine bQ (σ':=[some (.int p),some (.tup ss),some vs,some (.tup [.tup (kD ks),.tup st])]) rfl ?_ rfl
 have e1:=ht (.tup [.tup (kD ks),.tup st]) 2 2 g rfl
 have t1:dC (.tup [.tup (kD ks),.tup st]) 2 2=true:=by simp[dC]
 rw[t1]at e1
 have e2:=hr ss ks g h1 h2 h3
 have e3:=hs vs st g h4
 show wt t r s [some (.int p),some (.tup ss),some vs,some (.tup [.tup (kD ks),.tup st])] g=_
 unfold wt
 generalize kD ks=kk at *
 simp[e1,e2,e3,dF,fJ]
def nQ (f:Fn):Prop:=∀ks g,(∀k∈ks,k<=1000)->ks.length<=1000->f [.tup (kD ks)] g=some (.int (((ks.map λk=>2 ^ k).sum:Nat):Int),g)
theorem El:nQ (aC false 1 1 qw):=λks g hk hl=>by
 refine bQ (σ':=[some (.tup (kD ks))]) rfl ?_ rfl
 have hz:aD ks.length=true:=aK (by omega)
 have kl:(kD ks).length=ks.length:=by simp[kD]
 have c1:=cE (f:=λ(i:Nat)=>D.int i) (t:=gN 1) (c:=aN) (e:=aj (aP cN (λi j=>i*2 ^ j.toNat)) (fC (.int 1)) (aa 1)) (h:=λ(i:Nat)=>D.int ((2 ^ i:Nat):Int)) (λσ=>∃a,σ = [none,a]) ks [none,none] g ⟨_,rfl⟩ (by
  rintro i hm σ ⟨a,rfl⟩
  refine⟨[none,some (.int i)],by simp,by simp,?_,⟨_,rfl⟩⟩
  have:=qx (hk i hm)
  simp[aP,this])
 have c2:b6 (gN 1) aN (aj (aP cN (λi j=>i*2 ^ j.toNat)) (fC (.int 1)) (aa 1)) (kD ks) [none,none] g=some ((ks.map λk=>((2 ^ k:Nat):Int)).map D.int,g):=by rw[Z0];exact c1
 have sb:∀σ:Sg,bH [none,none] σ = [none,none]:=λ_=>rfl
 have i1:=s_ (ks.map λk=>((2 ^ k:Nat):Int))
 rw[<- wk]
 generalize (ks.map λk=>((2 ^ k:Nat):Int))=ns at *
 simp[qw,sb,c2,kl,hz,i1]
theorem Em (h:b<2 ^ n):((fR n b).map λk=>(2:Nat) ^ k).sum=b:=by
 unfold fR
 rw[lI]
 refine abP λi=>?_
 rw[qv]
 by_cases hi:i<n
 . simp[hi]
 . have:b.testBit i=false:=Nat.testBit_lt_two_pow (Z5 h (aeX (by omega) (by omega)))
   simp[hi,this]
theorem B1 (n b:Nat):(fR n b).Pairwise (· < ·):=(List.pairwise_lt_range).filter _
noncomputable def F2:FT:=aF (aj oEq (aj (aP a_ Z9) (aa 4) (aa 3)) (aa 3))
noncomputable def Nf (leads:Fn):FE:=aq eZ (af (aU aV (bu (aq leads (af (aa 2) (af (aa 4) (af (aa 5) ag))))) [none,none,none,some 1] (gT 2 (au (gN 1) (au (gN 2) aM))) aN (aj hG (aa 2) (aa 3))) ag)
noncomputable def yf (leads:Fn):FS:=av (bq F2 (aG (fC (.bl false))) aL) (bq (b5 (bN (Nf leads))) (aG (fC (.bl false))) aL)
noncomputable def zI (plan ended leads:Fn):FS:=av (aA (aq plan (af (aa 0) ag)) (gN 2)) (av (aA (aq ended (af (aa 0) ag)) (gN 3)) (av (j8 (i7 (aa 1)) (gT 2 (au (gN 4) (au (gN 5) aM))) (yf leads)) (aG (fC (.bl true)))))
noncomputable def inR (rs:List aQ)(v:aQ):Bool:=@decide (v∈rs) (aeg _)
theorem nR:inR rs v=true ↔ v∈rs:=by unfold inR;exact @decide_eq_true_iff _ (aeg _)
theorem B2 (h:v ∉ rs):inR rs v=false:=by
 cases hq:inR rs v with
 |false=>rfl
 |true=>exact absurd (nR.mp hq) h
noncomputable def eS (xs:List Rt)(rs:List aQ)(r:aQ):Bool:=!dN xs r.1&&((Zx xs.length).filter (dI xs r)).all λk=>inR rs (cy xs r k)
def zJ (xs:List Rt)(p:Int)(f:Fn):Prop:=∀es g m,(∀e∈es,Rm p e.1)->(es.map (·.1)).Nodup->g[m]? = some (dR es)->Clean g->f [.tup (xs.map rt),.aI m] g=some (.bl ((keys es).all (eS xs (keys es))),g)
noncomputable abbrev S6 (xs:List Rt)(m:Nat)(c4 c5:Option D):Sg:=[some (.tup (xs.map rt)),some (.aI m),some (.lst (fv xs)),some (.int (i8 xs:Nat)),c4,c5]
theorem Ng (hx:∀x∈xs,aS p x)(hn:xs.length<=100)(hle:jB p le)(ke:∀e∈es,Rm p e.1)(m8:(es.map (·.1)).Nodup)(hm:g[m]? = some (dR es))(hc:Clean g)(hr:r∈keys es):
  yf le (S6 xs m (some (.int (r.1:Nat))) (some (.tup r.2))) g=some (if eS xs (keys es) r=true then .nx else .rt (.bl false),S6 xs m (some (.int (r.1:Nat))) (some (.tup r.2)),g):=by
 obtain⟨er,M5,Ej⟩:=Zu.mp hr
 have oA:Rm p r:=by rw[<- Ej];exact ke er M5
 have ba:=jU r.1 (i8 xs)
 have ev:F2 (S6 xs m (some (.int (r.1:Nat))) (some (.tup r.2))) g=some (dN xs r.1,g):=by
  have e1:=yb xs r.1
  generalize ot:i8 xs=en at *
  cases h:dN xs r.1 with
  |true =>
   have e2:=e1.mpr h
   rw[e2]at ba
   simp[F2,aP,a_,ba,ot]
  |false =>
   have e2:¬(r.1 &&& en)=en:=λz=>by rw[e1.mp z]at h;cases h
   have e3:¬(((r.1 &&& en:Nat):Int)=(en:Int)):=by omega
   generalize (r.1 &&& en)=ae at *
   simp[F2,aP,a_,ba,ot,e3]
 cases hE:dN xs r.1 with
 |true =>
  rw[hE]at ev
  have:eS xs (keys es) r=false:=by simp[eS,hE]
  unfold yf
  simp[ev,this]
 |false =>
  rw[hE]at ev
  have ld:=hle xs r g hx hn oA hc
  have hl:((Zx xs.length).filter (dI xs r)).length<=xs.length:=by
   have:=aaC (dI xs r) (Zx xs.length)
   simpa using this
  have hz:aD (mY xs r).length=true:=aK (by simp[mY];omega)
  have c1:=cE (f:=jV xs r) (t:=gT 2 (au (gN 1) (au (gN 2) aM))) (c:=aN) (e:=aj hG (aa 2) (aa 3)) (h:=λk=>D.bl (inR (keys es) (cy xs r k))) (λσ=>∃a b,σ = [none,a,b,some (.aI m)]) ((Zx xs.length).filter (dI xs r)) [none,none,none,some (.aI m)] g ⟨_,_,rfl⟩ (by
   rintro k hk σ ⟨a,b,rfl⟩
   rw[ZU,ZJ]at hk
   have BX:Rm p (cy xs r k):=St.put oA (hx _ (cx hk.1)).r.dd
   have kk:=kP BX
   refine⟨[none,some (.int k),some (rD (cy xs r k)),some (.aI m)],by simp[jV],by simp,?_,⟨_,_,rfl⟩⟩
   by_cases dk:cy xs r k∈keys es
   . obtain⟨e,he,BY⟩:=Zu.mp dk
     have hg:aW (dR es) (rD (cy xs r k))=some e.2:=mZ ke m8 (by rw[<- BY];exact he)
     simp[kk,hg,hm,nR.mpr dk]
   . obtain⟨hg,_⟩:=kQ (p:=p) ke BX (λe he z=>dk (Zu.mpr ⟨e,he,z⟩))
     simp[kk,hg,hm,B2 dk])
  have c2:b6 (gT 2 (au (gN 1) (au (gN 2) aM))) aN (aj hG (aa 2) (aa 3)) (mY xs r) [none,none,none,some (.aI m)] g=some (((Zx xs.length).filter (dI xs r)).map λk=>D.bl (inR (keys es) (cy xs r k)),g):=c1
  have bm:=dX (λk:Nat=>inR (keys es) (cy xs r k)) ((Zx xs.length).filter (dI xs r))
  have sb:bH [none,none,none,some 1] (S6 xs m (some (.int (r.1:Nat))) (some (.tup r.2)))= [none,none,none,some (.aI m)]:=rfl
  have gd:eS xs (keys es) r=(((Zx xs.length).filter (dI xs r)).map λk=>inR (keys es) (cy xs r k)).all id:=by
   unfold eS
   rw[hE,acD]
   rfl
  have cc:Nf le (S6 xs m (some (.int (r.1:Nat))) (some (.tup r.2))) g=some (.bl (eS xs (keys es) r),g):=by
   rw[gd]
   unfold Nf
   generalize ((Zx xs.length).filter (dI xs r)).map (λk=>D.bl (inR (keys es) (cy xs r k)))=CC at *
   generalize ((Zx xs.length).filter (dI xs r)).map (λk=>inR (keys es) (cy xs r k))=BB at *
   generalize mY xs r=LL at *
   simp[ld,hz,sb,c2,bm]
  unfold yf
  cases hg:eS xs (keys es) r<;>rw[hg]at cc<;>simp[ev,cc]
theorem Nh (hx:∀x∈xs,aS p x)(hn:xs.length<=100)(hp:qz p pl)(he:t6 en)(hle:jB p le):zJ xs p (aC false 6 2 (zI pl en le)):=λes g m ke m8 hm hc=>by
 have hk:aT (dR es)=(keys es).map rD:=by rw[yd];simp[keys]
 have e1:=hp xs g hx hn hc
 have e2:=he xs g hn
 have lp:∀(k:Nat) (c4 c5:Option D),k<=(keys es).length->∃d4 d5,hU m (keys es).length (gT 2 (au (gN 4) (au (gN 5) aM))) (yf le) k (S6 xs m c4 c5) g=some (if((keys es).drop ((keys es).length-k)).all (eS xs (keys es))=true then .nx else .rt (.bl false),S6 xs m d4 d5,g):=λk=>by
  induction k with
  |zero=>intro c4 c5 _;exact⟨c4,c5,by simp[hU,hm,hk]⟩
  |succ k ih =>
   intro c4 c5 MG
   have bf:(keys es).length-(k+1)<(keys es).length:=by omega
   have hr:(keys es)[(keys es).length-(k+1)]∈keys es:=aau bf
   have Rp:=aaT bf
   rw[show(keys es).length-(k+1)+1=(keys es).length-k by omega]at Rp
   generalize oA:(keys es)[(keys es).length-(k+1)]=r at *
   have rO:((keys es).map rD)[(keys es).length-(k+1)]? = some (rD r):=by simp[bf,oA]
   have tg:gT 2 (au (gN 4) (au (gN 5) aM)) (rD r) (S6 xs m c4 c5) g=some (S6 xs m (some (.int (r.1:Nat))) (some (.tup r.2)),g):=by simp[rD]
   have bd:=Ng hx hn hle ke m8 hm hc hr
   rw[Rp,acu]
   cases hg:eS xs (keys es) r with
   |true =>
    rw[hg]at bd
    obtain⟨d4,d5,ih⟩:=ih (some (.int (r.1:Nat))) (some (.tup r.2)) (by omega)
    refine⟨d4,d5,?_⟩
    rw[adL,<- ih]
    simp only[hU,hm,hk,aab,Zv,ZN,if_true,rO,tg,bd]
   |false =>
    rw[hg]at bd
    refine⟨some (.int (r.1:Nat)),some (.tup r.2),?_⟩
    simp only[hU,hm,hk,aab,Zv,ZN,if_true,rO,tg,bd]
    simp
 obtain⟨d4,d5,e3⟩:=lp (keys es).length none none (Zy _)
 rw[abW,abR]at e3
 refine bQ (σ':=S6 xs m d4 d5) rfl ?_ rfl
 have kl:(aT (dR es)).length=(keys es).length:=by rw[hk];simp
 have i1:i7 (aa 1) (S6 xs m none none) g=some (m,(keys es).length,g):=by simp[hm,kl]
 have fo:j8 (i7 (aa 1)) (gT 2 (au (gN 4) (au (gN 5) aM))) (yf le) (S6 xs m none none) g=some (if(keys es).all (eS xs (keys es))=true then .nx else .rt (.bl false),S6 xs m d4 d5,g):=by
  rw[Dk,i1]
  exact e3
 show zI pl en le [some (.tup (xs.map rt)),some (.aI m),none,none,none,none] g=_
 unfold zI
 generalize (keys es).all (eS xs (keys es))=bb at *
 cases bb<;>simp[e1,e2,fo]
noncomputable def Ni:FE:=aU aV (bu (aa 1)) [none,none] (gN 1) (aF (aj oEq (aj ax (aj ax (aa 1) (fC (.int 1))) (fC (.int 0))) (fC (.str "put")))) (aj ax (aj ax (aa 1) (fC (.int 1))) (fC (.int 2)))
noncomputable def Nj (room:Fn):FE:=aq eZ (af (aU aV (bu (aa 2)) [none,none,some 0,some 1,some 3] (gN 1) aN (aq room (af (aa 2) (af (aa 3) (af (aa 4) (af (aa 1) ag)))))) ag)
noncomputable def B3 (bits:Fn):FS:=aA (fC (.bl true)) (eR (aa 4) (aO aJ (af (aq bits (af (aj ax (aa 5) (fC (.int 0))) ag)) (af (aj ax (aa 5) (fC (.int 1))) ag))))
noncomputable def Nk (zeros oE:Fn):FS:=aG (dS (aj hG (aO aJ (af (fC (.int 0)) (af (aq zeros (af (aa 0) ag)) ag))) (aa 4)) (aq oE (af (aa 1) (af (aa 4) ag))))
noncomputable def wu (bits zeros room oE:Fn):FS:=av (aA Ni (gN 3)) (av (bq (gW (b5 (bN (iy .tuple (aa 2)))) (b5 (bN (Nj room)))) (aG (fC (.bl false))) aL) (av (aA hJ (gN 4)) (av (cj (bu (aa 2)) (gN 5) (B3 bits)) (Nk zeros oE))))
theorem Path.XJ {xs p ks r}(h:Path xs p ks r):r.1<2 ^ xs.length:=adY _ λi hi=>by
 rw[h.bits]
 simp only[List.contains_eq_mem,decide_eq_false_iff_not]
 intro z
 have:=h.lt i z
 omega
noncomputable def Nl (x:Rt):D:=match x.1.dd with
 |.tup [_,_,v]=>v
 |_=>.az
theorem Nm {p:Int}{xs:List Rt}{g:G}{c2 c3 c4 c5:Option D}(hx:∀x∈xs,aS p x)(hn:xs.length<=100):∃vs,Ni [some (.int p),some (.tup (xs.map rt)),c2,c3,c4,c5] g=some (.lst vs,g):=by
 have hz:aD xs.length=true:=aK (by omega)
 have c1:=fK (f:=rt) (t:=gN 1) (c:=aF (aj oEq (aj ax (aj ax (aa 1) (fC (.int 1))) (fC (.int 0))) (fC (.str "put")))) (e:=aj ax (aj ax (aa 1) (fC (.int 1))) (fC (.int 2))) (cB:=λx=>!(bJ x.1.dd)) (h:=Nl) (λσ=>∃a,σ = [none,a]) xs [none,none] g ⟨_,rfl⟩ (by
  rintro x hm σ ⟨a,rfl⟩
  refine⟨[none,some (rt x)],by simp,?_,λhl=>?_,⟨_,rfl⟩⟩
  . rcases (hx x hm).r.dd with e|⟨q,v,e,_⟩
    . simp[rt,fJ,e,dF,bJ,sX]
    . simp[rt,fJ,e,dF,bJ,vZ]
  . rcases (hx x hm).r.dd with e|⟨q,v,e,_⟩
    . rw[e]at hl;simp[bJ]at hl
    . simp[rt,fJ,e,pf,Nl])
 refine⟨(xs.filter λx=>!(bJ x.1.dd)).map Nl,?_⟩
 have sb:∀σ:Sg,bH [none,none] σ = [none,none]:=λ_=>rfl
 unfold Ni
 simp[hz,sb,c1]
theorem Ja (hR:qE p room)(hr:Rm p r)(hn:xs.length<=100):room [.int p,.tup (xs.map rt),vs,bL xs r] g=some (.bl true,g):=
 hR (xs.map rt) vs (fR xs.length r.1) r.2 g (B1 _ _) (λk hk=>by
  rw[ZN]
  exact ZJ.mp (ZU.mp hk).1) (by rw[ZN];exact hn) hr
noncomputable def dT (rs:List aQ):List (aQ×D):=rs.map λr=>(r,D.bl true)
theorem yg (rs:List aQ):(dT rs).map (·.1)=rs:=by simp[dT,aaZ]
theorem wx (hb:nQ bits)(hn:xs.length<=100):∀(rest done:List aQ) (c5:Option D),(∀r∈done++rest,Rm p r/\r.1<2 ^ xs.length)->(done++rest).Nodup->(done++rest).length<=900000 ->
  ∃Nn,forL (gN 5) (B3 bits) (rest.map (bL xs)) [some (.int p),some (.tup (xs.map rt)),c2,c3,some (.aI g.length),c5] (g ++ [dR (dT done)])=some (.nx,[some (.int p),some (.tup (xs.map rt)),c2,c3,some (.aI g.length),Nn],g ++ [dR (dT (done++rest))])
 | [],done,c5,_,_,_=>⟨c5,by simp[forL]⟩
 |r::rest,done,c5,h,m8,hl=>by
  obtain⟨ke,bf⟩:=h r (by simp)
  have kk:=kP ke
  have e1:=hb (fR xs.length r.1) (g ++ [dR (dT done)]) (λk hk=>by have:=ZJ.mp (ZU.mp hk).1;omega) (by
   have:=aaC (λi=>r.1.testBit i) (Zx xs.length)
   simp at this
   simp only[fR]
   omega)
  rw[Em bf]at e1
  have TF:∀e∈dT done,e.1≠r:=λe he z=>by
   obtain⟨q,hq,rfl⟩:=Zu.mp he
   rw[aaD]at m8
   exact m8.2.2 q hq r (by simp) z
  obtain⟨hg,hp⟩:=kQ (p:=p) (es:=dT done) (r:=r) (λe he=>by
   obtain⟨q,hq,rfl⟩:=Zu.mp he
   exact(h q (by simp[hq])).1) ke TF
  have hs:j6 (dR (dT done))=true:=by
   unfold j6 aD
   refine decide_eq_true ?_
   rw[BS]
   simp[dT]at hl ⊢
   omega
  have q1:=hp (.bl true)
  have bd:B3 bits [some (.int p),some (.tup (xs.map rt)),c2,c3,some (.aI g.length),some (bL xs r)] (g ++ [dR (dT done)])=some (.nx,[some (.int p),some (.tup (xs.map rt)),c2,c3,some (.aI g.length),some (bL xs r)],g ++ [dR (dT (done ++ [r]))]):=by
   have rd:rD r = .tup [.int (r.1:Nat),.tup r.2]:=rfl
   have dd:dT done ++ [(r,D.bl true)]=dT (done ++ [r]):=by simp[dT]
   rw[dd]at q1
   rw[rd]at kk hg q1
   simp[B3,bL,dF,fJ,e1,kk,hs,q1,aen]
  have ap:done++r::rest=(done ++ [r])++rest:=by simp
  rw[ap]at h m8 hl ⊢
  obtain⟨Nn,ih⟩:=wx hb hn (g:=g) (c2:=c2) (c3:=c3) rest (done ++ [r]) (some (bL xs r)) h m8 hl
  refine⟨Nn,?_⟩
  rw[<- ih,ZT]
  simp only[forL,Pl,Zv]
  simp[bd]
noncomputable def iJ (xs:List Rt)(p:Int)(rs:List aQ):Bool:=inR rs (first p)&&rs.all (eS xs rs)
def F3 (p:Int)(f:Fn):Prop:=∀xs rs g,(∀x∈xs,aS p x)->xs.length<=100->(∀r∈rs,Rm p r/\r.1<2 ^ xs.length)->rs.Nodup->rs.length<=900000->Clean g->f [.int p,.tup (xs.map rt),.tup (rs.map (bL xs))] g=some (.bl (iJ xs p rs),g)
theorem Np {bi z room oE:Fn}{p:Int}(p0:0<=p)(hb:nQ bi)(hz:kM p z)(hr:qE p room)(hl:∀xs,(∀x∈xs,aS p x)->xs.length<=100->zJ xs p oE):F3 p (aC false 6 3 (wu bi z room oE)):=λxs rs g hx hn Nq m8 hle hc=>by
 have key:wp (aC false 6 3 (wu bi z room oE) [.int p,.tup (xs.map rt),.tup (rs.map (bL xs))] g) λq=>q=(.bl (iJ xs p rs),g):=by
  refine fN rfl ?_
  show wp (wu bi z room oE [some (.int p),some (.tup (xs.map rt)),some (.tup (rs.map (bL xs))),none,none,none] g) _
  obtain⟨vs,e1⟩:=Nm (p:=p) (g:=g) (c2:=some (.tup (rs.map (bL xs)))) (c3:=none) (c4:=none) (c5:=none) hx hn
  have XM:aD rs.length=true:=by unfold aD;exact decide_eq_true (by omega)
  have c1:=cE (f:=bL xs) (t:=gN 1) (c:=aN) (e:=aq room (af (aa 2) (af (aa 3) (af (aa 4) (af (aa 1) ag))))) (h:=λ_=>D.bl true) (λσ=>∃a,σ = [none,a,some (.int p),some (.tup (xs.map rt)),some (.lst vs)]) rs [none,none,some (.int p),some (.tup (xs.map rt)),some (.lst vs)] g ⟨_,rfl⟩ (by
   rintro r hm σ ⟨a,rfl⟩
   refine⟨[none,some (bL xs r),some (.int p),some (.tup (xs.map rt)),some (.lst vs)],by simp,by simp,?_,⟨_,rfl⟩⟩
   have:=Ja hr (vs:=.lst vs) (g:=g) (Nq r hm).1 hn
   simp[this])
  have bm:=dX (λ_:aQ=>true) rs
  have e2:Nj room [some (.int p),some (.tup (xs.map rt)),some (.tup (rs.map (bL xs))),some (.lst vs),none,none] g=some (.bl true,g):=by
   have sb:bH [none,none,some 0,some 1,some 3] ([some (.int p),some (.tup (xs.map rt)),some (.tup (rs.map (bL xs))),some (.lst vs),none,none]:Sg)= [none,none,some (.int p),some (.tup (xs.map rt)),some (.lst vs)]:=rfl
   unfold Nj
   simp[XM,sb,c1,bm]
  obtain⟨c5,e3⟩:=wx hb hn (xs:=xs) (p:=p) (g:=g) (c2:=some (.tup (rs.map (bL xs)))) (c3:=some (.lst vs)) rs [] none (λr hm=>Nq r (by simpa using hm)) (by simpa using m8) (by simpa using hle)
  rw[aaK]at e3
  have F4:∀e∈dT rs,Rm p e.1:=λe he=>by
   obtain⟨q,hq,rfl⟩:=Zu.mp he
   exact(Nq q hq).1
  have XO:keys (dT rs)=rs:=yg _
  have Rq:((dT rs).map (·.1)).Nodup:=by rw[yg];exact m8
  have nr:∀n,aY n (dR (dT rs))=true:=λn=>cF λd hd=>by
   obtain⟨e,he,h⟩:=BZ hd
   rcases h with rfl|rfl
   . exact qC (F4 e he) n
   . obtain⟨q,hq,rfl⟩:=Zu.mp he
     rfl
  have cg:Clean (g ++ [dR (dT rs)]):=λys hy n=>by
   rcases Zw.mp hy with h|h
   . exact hc ys h n
   . simp at h;subst h;exact nr n
  have hm:(g ++ [dR (dT rs)])[g.length]? = some (dR (dT rs)):=by simp
  have e4:=hl xs hx hn (dT rs) (g ++ [dR (dT rs)]) g.length F4 Rq hm cg
  rw[XO]at e4
  have e5:=hz (g ++ [dR (dT rs)])
  have fr:Rm p (first p):=St.zs p0
  have kk:=kP fr
  have fd:rD (first p)= .tup [.int 0,.tup (zs p)]:=rfl
  have hg:(aW (dR (dT rs)) (rD (first p))).isSome=inR rs (first p):=by
   by_cases dk:first p∈rs
   . rw[mZ F4 Rq (Zu.mpr ⟨_,dk,rfl⟩),nR.mpr dk];rfl
   . obtain⟨h1,_⟩:=kQ (p:=p) F4 fr (λe he z=>dk (by
      obtain⟨q,hq,rfl⟩:=Zu.mp he
      rw[<- z];exact hq))
     rw[h1,B2 dk];rfl
  rw[fd]at hg kk
  have e6:Nk z oE [some (.int p),some (.tup (xs.map rt)),some (.tup (rs.map (bL xs))),some (.lst vs),some (.aI g.length),c5] (g ++ [dR (dT rs)])=some (.rt (.bl (iJ xs p rs)),[some (.int p),some (.tup (xs.map rt)),some (.tup (rs.map (bL xs))),some (.lst vs),some (.aI g.length),c5],g ++ [dR (dT rs)]):=by
   unfold Nk iJ
   generalize rs.all (eS xs rs)=bb at *
   generalize inR rs (first p)=cc at *
   generalize rs.map (bL xs)=yy at *
   cases cc<;>simp[e5,kk,hg,e4]
  have fo:forL (gN 5) (B3 bi) (rs.map (bL xs)) [some (.int p),some (.tup (xs.map rt)),some (.tup (rs.map (bL xs))),some (.lst vs),some (.aI g.length),none] (g ++ [[]])=some (.nx,[some (.int p),some (.tup (xs.map rt)),some (.tup (rs.map (bL xs))),some (.lst vs),some (.aI g.length),c5],g ++ [dR (dT rs)]):=e3
  have all_:wu bi z room oE [some (.int p),some (.tup (xs.map rt)),some (.tup (rs.map (bL xs))),none,none,none] g=some (.rt (.bl (iJ xs p rs)),[some (.int p),some (.tup (xs.map rt)),some (.tup (rs.map (bL xs))),some (.lst vs),some (.aI g.length),c5],g ++ [dR (dT rs)]):=by
   unfold wu
   generalize rs.map (bL xs)=yy at *
   simp[e1,e2,fo,e6,gK]
  rw[all_]
  simp only[gM]
  exact⟨by simp[bz],by simpa using hc.all _,by simp,by simp⟩
 obtain⟨q,e,rfl⟩:=key
 exact e
def TH (p:Int)(f:Fn):Prop:=∀xs es g,(∀x∈xs,aS p x)->xs.length<=100->dq xs p es->es.length<=900000->i5 xs p es->Clean g->f [.int p,.tup (xs.map rt),.tup ((keys es).map (bL xs))] g=some (.bl true,g)
theorem F3.ok (h:F3 p f):TH p f:=λxs es g hx hn C hle hC hc=>by
 have cb:iJ xs p (keys es)=true:=by
  unfold iJ eS
  simp only[Zn,ZH,Z2,nR]
  exact⟨hC.1,λv hv=>⟨(hC.2 v hv).1,λk hk=>(hC.2 v hv).2 k (ZJ.mp (ZU.mp hk).1) (ZU.mp hk).2⟩⟩
 rw[<- cb]
 refine h xs (keys es) g hx hn (λr hm=>⟨C.FZ hm,?_⟩) C.nd (by simpa[keys]using hle) hc
 obtain⟨e,he,rfl⟩:=Zu.mp hm
 obtain⟨i,hi⟩:=aaq.mp he
 obtain⟨ks,hp⟩:=C.path i e hi
 exact hp.XJ
theorem m9:∀{a b seen:List Nat},b9 xs seen (a++o::b)=true->∀i∈seen++a,cM (ay xs o) (ay xs i)=false
 | [],b,seen,h,i,hi=>by
  rw[acx]at hi
  simp only[aaK,b9,Zn,Z2,adQ]at h
  simpa using h.1 i hi
 |c::a,b,seen,h,i,hi=>by
  simp only[abx,b9,Zn]at h
  exact m9 (seen:=seen ++ [c]) h.2 i (by simpa using hi)
theorem wy:∀{a b:List Rt} {st:List D},cq st (a++x::b)=true->lX x (a.foldl (λs y=>dg s y.1.dd) st)=true
 | [],b,st,h=>by
  simp only[aaK,cq,Zn]at h
  exact h.1
 |y::a,b,st,h=>by
  simp only[abx,cq,Zn]at h
  rw[ac9]
  exact wy (a:=a) h.2
theorem Jb (hx:∀x∈xs,aS p x)(bf:∀k∈ks,k<xs.length)(h:fL p xs ks=true):∃r,Path xs p ks r/\dN xs r.1=true:=by
 simp only[fL,Zn,decide_eq_true_eq]at h
 obtain⟨h1,h2,h3,h4⟩:=h
 have dk:∀o,o<xs.length->(ay xs o).1.e.isSome=true->o∈ks:=λo ho hs=>by
  unfold iI at h2
  rw[ZH]at h2
  have hm:(ay xs o,o)∈xs.zipIdx:=Z_ (show xs.zipIdx[o]? = some (ay xs o,o) by simp[ay,ho])
  have:=h2 _ hm
  dsimp only at this
  cases hq:(ay xs o).1.e with
  |none=>rw[hq]at hs;cases hs
  |some e=>rw[hq]at this;simpa using this
 have go:∀(n:Nat) (a b:List Nat),a.length=n->ks=a++b->∃r,Path xs p a r:=λn=>by
  induction n with
  |zero=>exact λa b hl _=>by cases a with|nil=>exact⟨_,Path.nil⟩|cons c a=>simp at hl
  |succ n ih =>
   intro a' b hl e
   rcases aeK a' with rfl|⟨a,k,rfl⟩
   . simp at hl
   rw[aeL]at *
   obtain⟨r,hp⟩:=ih a (k::b) (by simpa using hl) (by rw[e];simp)
   refine⟨cy xs r k,Path.snoc hp (bf k (by rw[e];simp)) ?_⟩
   have hb:=hp.bits
   simp only[dI,Zn,Z2,ZH]
   refine⟨?_,λo ho=>?_,?_⟩
   . rw[hb]
     have:k ∉ a:=λz=>by
       rw[e,aaY]at h1
       rw[aaD]at h1
       exact h1.2.2 k z k (by simp) rfl
     simp[this]
   . obtain⟨o1,o2⟩:=ZU.mp ho
     have o1:=ZJ.mp o1
     have hs:(ay xs o).1.e.isSome=true:=by
       rw[jT]at o2
       cases hq:(ay xs o).1.e with
       |none=>rw[hq]at o2;cases o2
       |some e=>rfl
     have hk:=dk o o1 hs
     rw[hb]
     rw[e,aaY]at hk
     rcases Zw.mp hk with hk|hk
     . simpa using hk
     . have hk:o=k\/o∈b:=by simpa using hk
       exfalso
       rcases hk with rfl|hk
       . rw[jT]at o2
         cases hq:(ay xs o).1.e with
         |none=>rw[hq]at o2;cases o2
         |some e =>
          rw[hq]at o2
          have:=(hx _ (cx o1)).r.eb e hq
          simp at o2
          omega
       . obtain⟨b1,b2,rfl⟩:=acH hk
         have e3:ks=(a ++ [k]++b1)++o::b2:=by rw[e];simp
         rw[e3]at h3
         rw[m9 h3 k (by simp)]at o2
         cases o2
   . have e4:ks.map (ay xs)=a.map (ay xs)++ay xs k::b.map (ay xs):=by rw[e];simp
     rw[e4]at h4
     rw[hp.st]
     exact wy h4
 obtain⟨r,hp⟩:=go ks.length ks [] rfl (by simp)
 exact⟨r,hp,by rw[hp.end_];exact h2⟩
theorem wz:∀{ks seen:List Nat},b9 xs seen ks=true->ks.Pairwise (λi k=>cM (ay xs k) (ay xs i)=false)
 | [],_,_=>.nil
 |k::ks,seen,h=>by
  simp only[b9,Zn]at h
  refine adC.mpr ⟨λj hj=>?_,wz h.2⟩
  obtain⟨a,b,rfl⟩:=acH hj
  exact m9 h.2 k (by simp)
theorem qF (h:i<xs.length):xs[i]? = some (ay xs i):=by simp[ay,h]
theorem iK:iI xs ks=true ↔ ∀i<xs.length,(ay xs i).1.e.isSome=true->i∈ks:=by
 unfold iI
 rw[ZH]
 constructor
 . intro h i hi he
   have:=h (ay xs i,i) (adw.mpr (qF hi))
   cases e:(ay xs i).1.e with
   |none=>rw[e]at he;cases he
   |some z=>simpa[e]using this
 . rintro h ⟨x,i⟩ hm
   have hg:=adw.mp hm
   have hi:=(Zs.mp hg).1
   have ex:x=ay xs i:=by rw[qF hi]at hg;exact(aaf hg).symm
   have:=h i hi
   rw[<- ex]at this
   cases e:x.1.e with
   |none=>simp[e]
   |some z =>
    have:=this (by rw[e];rfl)
    simp[e,this]
theorem dP:fL p xs ks=true ↔ ks.Nodup/\iI xs ks=true/\b9 xs [] ks=true/\cq (zs p) (ks.map (ay xs))=true:=by
 simp[fL]
theorem rS {f:Nat->Nat}(h:fL p xs ks=true){ls:List Nat}(hl:ls.Sublist ks)(inj:∀i∈ls,∀j∈ls,f i=f j->i=j)
   (hE:∀i<ys.length,(ay ys i).1.e.isSome=true->∃k∈ls,f k=i)
   (hA:∀k∈ls,∀j∈ls,cM (ay ys (f k)) (ay ys (f j))=true->cM (ay xs k) (ay xs j)=true)
   (hF:cq (zs p) (ls.map λk=>ay ys (f k))=true):fL p ys (ls.map f)=true:=by
 obtain⟨h1,h2,h3,h4⟩:=dP.mp h
 refine dP.mpr ⟨?_,iK.mpr λi hi he=>?_,v_ _ [] (by simp) ?_,by rw[Z0];exact hF⟩
 . rw[aeW,ab_]
   exact(h1.sublist hl).imp_of_mem fun {a b} ha hb gZ he=>gZ (inj _ ha _ hb he)
 . obtain⟨k,hk,e⟩:=hE i hi he
   exact Zu.mpr ⟨k,hk,e⟩
 . rw[ab_]
   refine((wz h3).sublist hl).imp_of_mem fun {a b} ha hb hh=>?_
   cases e:cM (ay ys (f b)) (ay ys (f a))with
   |false=>rfl
   |true=>rw[hA b hb a ha e]at hh;cases hh
theorem lK:∀{as bs:List Rt} {st:List D},as.map (λx=>(x.1.dd,x.2))=bs.map (λx=>(x.1.dd,x.2))->cq st as=cq st bs
 | [],[],_,_=>rfl
 | [],_::_,_,h=>by cases h
 |_::_,[],_,h=>by cases h
 |a::as,b::bs,st,h=>by
  simp only[ZT,ael,ahi]at h
  simp only[cq,lX]
  rw[h.1.1,h.1.2,lK h.2]
theorem B4 (h:eJ p dd)(hl:bJ dd=true):dg st dd=st:=by
 rcases h with rfl|⟨q,v,rfl,_⟩
 . rfl
 . have:bJ (.tup [.str "put",.int q,v])=false:=by simp[bJ];decide
   rw[this]at hl;cases hl
noncomputable def x3 (x:Rt):Rt:=({ x.1 with pt:=3*x.1.pt,b:=3*x.1.b,e:=x.1.e.map (3 * ·) },x.2)
theorem Nr (h:aS p x):aS p (x3 x):=by
 obtain⟨⟨h0,h9,dd,b0,eb,pa,pb⟩,t⟩:=h
 refine⟨⟨h0,h9,dd,by show 0<=3*_;omega,λz hz=>?_,by show 4*(3*_)<3*_;omega,λz hz=>?_⟩,?_⟩
 . obtain⟨y,hy,rfl⟩:=ZF.mp (show x.1.e.map (3 * ·)=some z from hz)
   have:=eb y hy
   show 3*_<3*y
   omega
 . obtain⟨y,hy,rfl⟩:=ZF.mp (show x.1.e.map (3 * ·)=some z from hz)
   have:=pb y hy
   show 3*_<4*(3*y)
   omega
 . have:(x3 x).1.e.isSome=x.1.e.isSome:=by simp[x3]
   show if bJ x.1.dd&&(x3 x).1.e.isSome then jl p x.2=true else x.2 = .az
   rw[this];exact t
theorem F5:cM (x3 x) (x3 y)=cM x y:=by
 rw[jT,jT]
 simp only[x3]
 cases x.1.e with
 |none=>rfl
 |some z=>show decide (3*z<=3*y.1.b)=decide (z<=y.1.b);simp only[decide_eq_decide];omega
theorem kg (h:i<xs.length):ay (xs.map x3) i=x3 (ay xs i):=by simp[ay,h]
theorem En (h:k<xs.length):early (xs.map x3) k=early xs k:=by
 unfold early
 rw[ZN]
 refine List.filter_congr λo ho=>?_
 rw[kg (ZJ.mp ho),kg h,F5]
theorem B5 (h:k<xs.length):dI (xs.map x3) r k=dI xs r k:=by
 unfold dI
 rw[En h,kg h]
 rfl
theorem B6 (h:k<xs.length):cy (xs.map x3) r k=cy xs r k:=by
 unfold cy
 rw[kg h]
 rfl
theorem Nt:dN (xs.map x3) b=dN xs b:=by
 unfold dN
 rw[aem,acD]
 congr 1
 funext y
 cases e:y.1.1.e<;>simp[x3,e]
theorem Jc (C:dq xs p es):dq (xs.map x3) p es:=⟨C.rm,C.nd,λi e he=>by
 rcases C.at_ i e he with h|⟨j,r',v',k,hj,h1,hk,hc,rfl⟩
 . exact .inl h
 . exact .inr ⟨j,r',v',k,hj,h1,by simpa using hk,by rw[B5 hk];exact hc,by rw[B6 hk]⟩⟩
theorem B7 (C:i5 xs p es):i5 (xs.map x3) p es:=⟨C.1,λv hv=>⟨by rw[Nt];exact(C.2 v hv).1,λk hk hc=>by
 rw[ZN]at hk
 rw[B5 hk]at hc
 rw[B6 hk]
 exact(C.2 v hv).2 k hk hc⟩⟩
theorem P4 (bf:∀k∈ks,k<xs.length)(h:fL p xs ks=true):fL p (xs.map x3) ks=true:=by
 have:=rS (f:=id) (ys:=xs.map x3) h (afO ks) (λ_ _ _ _ e=>e) (λi hi he=>?_) (λk hk j hj hh=>?_) ?_
 . simpa using this
 . rw[ZN]at hi
   rw[kg hi]at he
   exact⟨i,iK.mp (dP.mp h).2.1 i hi (by simpa[x3]using he),rfl⟩
 . rw[id,id,kg (bf k hk),kg (bf j hj),F5]at hh
   exact hh
 . rw[<- (dP.mp h).2.2.2]
   refine lK ?_
   rw[Z0,Z0]
   refine aar λk hk=>?_
   show((ay (xs.map x3) k).1.dd,(ay (xs.map x3) k).2)=_
   rw[kg (bf k hk)]
   rfl
noncomputable def m_ (xs:List Rt)(i:Nat):List Rt:=xs.take i++xs.drop (i+1)
noncomputable def fw (i k:Nat):Nat:=if i<k then k-1 else k
theorem t9 (hi:i<xs.length)(hk:k<xs.length)(hn:k≠i):ay (m_ xs i) (fw i k)=ay xs k:=by
 unfold m_ fw ay
 rw[aaR,aaR]
 congr 1
 split
 . rename_i h
   rw[aas (by rw[aaO];omega),aaO,aeo (by omega),List.getElem?_drop]
   congr 1
   omega
 . rw[ZL (by rw[aaO];omega),Z4 (by omega)]
theorem wA (hi:i<xs.length):(m_ xs i).length=xs.length-1:=by
 simp[m_];omega
theorem P5 (hi:i<xs.length)(hj:j<(m_ xs i).length):∃k,k<xs.length/\k≠i/\fw i k=j:=by
 rw[wA hi]at hj
 by_cases h:j<i
 . exact⟨j,by omega,by omega,by unfold fw;rw[if_neg (by omega)]⟩
 . exact⟨j+1,by omega,by omega,by unfold fw;rw[if_pos (by omega)];omega⟩
theorem P6 (hx:∀x∈xs,aS p x)(hi:i<xs.length)(hk:bJ (ay xs i).1.dd=true)(bf:∀k∈ks,k<xs.length)(h:fL p xs ks=true):fL p (m_ xs i) ((ks.filter (· ≠ i)).map (fw i))=true:=by
 have hm:∀k∈ks.filter (· ≠ i),k<xs.length/\k≠i:=λk hk=>by
   obtain⟨h1,h2⟩:=ZU.mp hk
   exact⟨bf k h1,by simpa using h2⟩
 refine rS h ae8 (λa ha b hb e=>?_) (λj hj he=>?_) (λk hk j hj hh=>?_) ?_
 . have h1:=(hm a ha).2
   have h2:=(hm b hb).2
   unfold fw at e
   split at e<;>split at e<;>omega
 . obtain⟨k,h1,h2,rfl⟩:=P5 hi hj
   rw[t9 hi h1 h2]at he
   exact⟨k,ZU.mpr ⟨iK.mp (dP.mp h).2.1 k h1 he,by simpa using h2⟩,rfl⟩
 . obtain⟨h1,h2⟩:=hm k hk
   obtain⟨h3,h4⟩:=hm j hj
   rw[t9 hi h1 h2,t9 hi h3 h4]at hh
   exact hh
 . have e:(ks.filter (· ≠ i)).map (λk=>ay (m_ xs i) (fw i k))=(ks.filter (· ≠ i)).map (ay xs):=aar λk hk=>t9 hi (hm k hk).1 (hm k hk).2
   rw[e]
   have hf:=(dP.mp h).2.2.2
   clear e hm h
   revert hf
   generalize zs p=st
   induction ks generalizing st with
   |nil=>intro _;rfl
   |cons k ks ih =>
    intro hf
    simp only[ZT,cq,Zn]at hf
    have ih:=ih (λk hk=>bf k (ZQ _ hk))
    by_cases e:k=i
    . subst e
      rw[List.filter_cons_of_neg (by simp)]
      have:=hf.2
      rw[B4 (hx _ (cx hi)).r.dd hk]at this
      exact ih _ this
    . rw[List.filter_cons_of_pos (by simpa using e)]
      simp only[ZT,cq,Zn]
      exact⟨hf.1,ih _ hf.2⟩
theorem TJ (hx:∀x∈xs,aS p x):∀x∈m_ xs i,aS p x:=λx h=>by
 rcases Zw.mp h with h|h
 . exact hx x (aaP h)
 . exact hx x (acp h)
structure Loose (x y:Rt):Prop where
 dd:y.1.dd=x.1.dd
 tl:y.2=x.2
 b:y.1.b<=x.1.b
 e:∀z,y.1.e=some z->∃w,x.1.e=some w/\w<=z
theorem Loose.ah (h1:Loose x y)(h2:Loose x' y')(h:cM y y'=true):cM x x'=true:=by
 rw[jT]at h ⊢
 cases e:y.1.e with
 |none=>rw[e]at h;cases h
 |some z =>
  rw[e]at h
  obtain⟨w,hw,hz⟩:=h1.e z e
  have:=h2.b
  have h:z<=y'.1.b:=by simpa using h
  rw[hw]
  show decide (w<=x'.1.b)=true
  rw[decide_eq_true_eq]
  omega
theorem Eo {L:Nat->Rt}{sp:List Nat}(hp:sp.Perm (Zx xs.length))(hL:∀k<xs.length,Loose (ay xs k) (L k))(bf:∀k∈ks,k<xs.length)(h:fL p xs ks=true):fL p (sp.map L) (ks.map λk=>sp.idxOf k)=true:=by
 have mem:∀k,k<xs.length->k∈sp:=λk hk=>hp.mem_iff.mpr (ZJ.mpr hk)
 have at_:∀k,k<xs.length->ay (sp.map L) (sp.idxOf k)=L k:=λk hk=>by
   have h1:=abE (mem k hk)
   unfold ay
   rw[aaR,Z1,Zq h1,adD h1]
   rfl
 have nd:sp.Nodup:=hp.nodup_iff.mpr ad7
 refine rS h (afO _) (λa ha b hb e=>?_) (λi hi he=>?_) (λk hk j hj hh=>?_) ?_
 . have h1:=adD (abE (mem a (bf a ha)))
   have h2:=adD (abE (mem b (bf b hb)))
   rw[<- h1,<- h2]
   congr 1
 . rw[ZN]at hi
   have hk:sp[i]< xs.length:=ZJ.mp (hp.mem_iff.mp (aau hi))
   have A1:sp.idxOf sp[i]=i:=nd.idxOf_getElem i hi
   have:=at_ _ hk
   rw[A1]at this
   rw[this]at he
   obtain⟨z,hz⟩:=abm.mp he
   obtain⟨w,hw,_⟩:=(hL _ hk).e z hz
   exact⟨sp[i],iK.mp (dP.mp h).2.1 _ hk (by rw[hw];rfl),A1⟩
 . rw[at_ k (bf k hk),at_ j (bf j hj)]at hh
   exact(hL k (bf k hk)).ah (hL j (bf j hj)) hh
 . rw[<- (dP.mp h).2.2.2]
   refine lK ?_
   rw[Z0,Z0]
   refine aar λk hk=>?_
   show((ay (sp.map L) (sp.idxOf k)).1.dd,(ay (sp.map L) (sp.idxOf k)).2)=_
   rw[at_ k (bf k hk),(hL k (bf k hk)).dd,(hL k (bf k hk)).tl]
   rfl
noncomputable def lY:Nat->D
 | 0=>.int 0
 |i+1=>.tup [.int ((i+1:Nat):Int),.int 7]
theorem Jd (h:lY i=lY j):i=j:=by
 cases i<;>cases j<;>simp[lY]at h ⊢<;>omega
theorem Je (h:i<=1000):isVal 3 (lY i)=true:=by
 cases i with
 |zero=>decide
 |succ i=>exact jz (.inr ⟨i+1,h,rfl⟩)
noncomputable def dW:Nat->List D->List D
 |_,[]=>[]
 |i,v::vs=>v::lY i::dW (i+1) vs
abbrev V3 (vs:List D):Prop:=∀u∈vs,isVal 3 u=true
theorem wB:∀{vs:List D} {i:Nat},(dW i vs).length=2*vs.length
 | [],_=>rfl
 |v::vs,i=>by simp[dW,wB (vs:=vs)];omega
theorem rT:∀{vs:List D} {i:Nat} {v:D},V3 vs->isVal 3 v=true->v ∉ vs->aW (dW i vs) v=none/\bU (dW i vs) v (lY (i+vs.length))=dW i (vs ++ [v])
 | [],_,_,_,_,_=>⟨rfl,rfl⟩
 |u::vs,i,v,h1,h2,h3=>by
  obtain⟨i1,i2⟩:=rT (vs:=vs) (i:=i+1) (v:=v) (λx hx=>h1 x (by simp[hx])) h2 (λhx=>h3 (by simp[hx]))
  have:aH u v=false:=by
    cases hq:aH u v with
    |false=>rfl
    |true=>exact absurd ((jC 3 u v (h1 u (by simp)) h2).mp hq) (λe=>h3 (by simp[e]))
  constructor
  . simp only[dW,aW,this,ZG,if_false,i1]
  . simp only[dW,bU,this,ZG,if_false,abx]
    rw[<- i2]
    simp only[abc]
    rw[show i+(vs.length+1)=i+1+vs.length by omega]
theorem wC:∀{vs:List D} {i j:Nat} {v:D},V3 vs->vs.Nodup->vs[j]? = some v->aW (dW i vs) v=some (lY (i+j))
 |u::vs,i,0,v,h1,hn,h=>by
  simp at h;subst h
  simp only[dW,aW]
  rw[if_pos ((jC 3 u u (h1 u (by simp)) (h1 u (by simp))).mpr rfl)]
  rfl
 |u::vs,i,j+1,v,h1,hn,h=>by
  rw[abl]at hn
  have hm:v∈vs:=Z_ (i:=j) (by simpa using h)
  simp only[dW,aW]
  rw[if_neg,wC (j:=j) (λx hx=>h1 x (by simp[hx])) hn.2 (by simpa using h),show i+1+j=i+(j+1) by omega]
  intro hq
  have:=(jC 3 u v (h1 u (by simp)) (h1 v (by simp[hm]))).mp hq
  exact hn.1 (this ▸ hm)
structure cW (vs:List D):Prop where
 v3:V3 vs
 nd:vs.Nodup
 z:vs[0]? = some (.int 0)
 len:vs.length<=400
noncomputable def nm (vs:List D)(v:D):D:=(aW (dW 0 vs) v).getD .az
theorem cW.get (h:cW vs)(hv:v∈vs):∃j,j<vs.length/\vs[j]? = some v/\aW (dW 0 vs) v=some (lY j)/\nm vs v=lY j:=by
 obtain⟨j,hj,e⟩:=aax.mp hv
 have h1:vs[j]? = some v:=by rw[Zq hj,e]
 have h2:=wC (i:=0) h.v3 h.nd h1
 rw[abq]at h2
 exact⟨j,hj,h1,h2,by unfold nm;rw[h2];rfl⟩
theorem cW.inj (h:cW vs)(hu:u∈vs)(hv:v∈vs)(e:nm vs u=nm vs v):u=v:=by
 obtain⟨i,_,h1,_,e1⟩:=h.get hu
 obtain⟨j,_,h2,_,e2⟩:=h.get hv
 rw[e1,e2]at e
 cases Jd e
 rw[h1]at h2
 exact aaf h2
theorem cW.val (h:cW vs)(hv:v∈vs):isVal 3 (nm vs v)=true:=by
 obtain⟨j,hj,_,_,e⟩:=h.get hv
 rw[e]
 have:=h.len
 exact Je (by omega)
theorem cW.zero (h:cW vs):(D.int 0)∈vs/\nm vs (.int 0)= .int 0:=by
 refine⟨Z_ h.z,?_⟩
 have:=wC (i:=0) h.v3 h.nd h.z
 unfold nm
 rw[this];rfl
theorem cW.vl (h:cW vs)(hv:v∈vs):Vl (nm vs v):=by
 obtain⟨j,hj,_,_,e⟩:=h.get hv
 rw[e]
 cases j with
 |zero=>exact .inl (by simp[lY,vals])
 |succ j=>exact .inr ⟨j+1,by have:=h.len;omega,rfl⟩
theorem cW.add (h:cW vs)(hv:isVal 3 v=true)(hn:v ∉ vs)(hl:vs.length<400):cW (vs ++ [v]):=by
 refine⟨λu hu=>?_,?_,?_,by simp;omega⟩
 . rcases Zw.mp hu with hu|hu
   . exact h.v3 u hu
   . simp at hu;subst hu;exact hv
 . rw[aaD]
   exact⟨h.nd,by simp,λa ha b hb=>by simp at hb;subst hb;rintro rfl;exact hn ha⟩
 . rw[ZL (Zs.mp h.z).1];exact h.z
noncomputable def sp (n t q:Nat):Nat:=(q+t) % n
noncomputable def bk (n t r:Nat):Nat:=(r+n-t) % n
theorem F6 (ht:t<n)(hr:r<n):sp n t (bk n t r)=r:=by
 unfold sp bk
 by_cases h:t<=r
 . rw[show r+n-t=(r-t)+n by omega,adR,abe (by omega:r-t<n),show r-t+t=r by omega,abe hr]
 . rw[abe (by omega:r+n-t<n),show r+n-t+t=r+n by omega,adR,abe hr]
theorem t_ (ht:t<n)(hq:q<n):bk n t (sp n t q)=q:=by
 unfold sp bk
 by_cases h:q+t<n
 . rw[abe h,show q+t+n-t=q+n by omega,adR,abe hq]
 . rw[show(q+t) % n=q+t-n by rw[Nat.mod_eq_sub_mod (by omega),abe (by omega)],show q+t-n+n-t=q by omega,abe hq]
theorem ua (hn:0<n):sp n t q<n:=Nat.mod_lt _ hn
theorem ub (hn:0<n):bk n t r<n:=Nat.mod_lt _ hn
noncomputable def cV (n t:Nat)(vs st:List D):List D:=(Zx n).map λr=>nm vs (st.getD (bk n t r) .az)
theorem nc (hr:r<n)(cH:st.length=n):(cV n t vs st)[r]? = some (nm vs (st.getD (bk n t r) .az)):=by
 simp[cV,hr]
theorem Jf (ht:t<n)(cH:st.length=n)(hc:c<n):cV n t vs (st.set c v)=(cV n t vs st).set (sp n t c) (nm vs v):=by
 refine abK λr=>?_
 have hn:0<n:=by omega
 by_cases hr:r<n
 . rw[nc hr (by simpa using cH)]
   by_cases e:sp n t c=r
   . subst e
     rw[aay (by simpa[cV]using hr),t_ ht hc]
     simp[cH,hc]
   . rw[Z6 e,nc hr cH]
     have:c≠bk n t r:=λh=>e (by rw[h,F6 ht hr])
     simp[Z6 this]
 . rw[Z3 (by simp[cV];omega),Z3 (by simp[cV];omega)]
theorem Jg (h:cW vs)(ht:t<n)(ha:a.length=n)(hb:b.length=n)(va:∀x∈a,x∈vs)(vb:∀x∈b,x∈vs)(e:cV n t vs a=cV n t vs b):a=b:=by
 refine abK λq=>?_
 have hn:0<n:=by omega
 by_cases hq:q<n
 . have e1:=congrArg (·[sp n t q]?) e
   rw[nc (ua hn) ha,nc (ua hn) hb,t_ ht hq]at e1
   have e1:=aaf e1
   have ea:a.getD q .az=a[q]:=by simp[ha,hq]
   have eb:b.getD q .az=b[q]:=by simp[hb,hq]
   rw[ea,eb]at e1
   rw[Zq (by omega),Zq (by omega),h.inj (va _ (aau _)) (vb _ (aau _)) e1]
 . rw[Z3 (by omega),Z3 (by omega)]
theorem getD_mem {st:List D}(hq:q<st.length):st.getD q .az∈st:=by
 rw[aaR,Zq hq]
 exact aau hq
theorem B8 {n t:Nat}{st:List D}(h:cW vs)(hn:0<n)(hl:st.length=n)(hv:∀x∈st,x∈vs):Pd.St (n:Int) (cV n t vs st):=by
 refine⟨by simp[cV],λx hx=>?_⟩
 obtain⟨r,hr,rfl⟩:=Zu.mp hx
 exact h.val (hv _ (getD_mem (by rw[hl];exact ub hn)))
theorem eqT (ha:V3 a)(hb:V3 b):aH (.tup a) (.tup b)=true ↔ a=b:=by
 rw[qA]
 exact nO (P:=λd=>isVal 3 d=true) (λd e h1 h2=>jC 3 d e h1 h2) a b ha hb
noncomputable def il (n t:Nat)(vs:List D):D->D
 |.tup [.str w,.int c,v]=>.tup [.str w,.int (sp n t c.toNat:Nat),nm vs v]
 |d=>d
noncomputable def tv (n t:Nat)(vs:List D):D->D
 |.tup st=>.tup (cV n t vs st)
 |d=>d
noncomputable def cG (n t:Nat)(vs:List D)(x:Rt):Rt:=({ x.1 with dd:=il n t vs x.1.dd },tv n t vs x.2)
structure Known (vs:List D)(x:Rt):Prop where
 dd:∀c v,x.1.dd = .tup [.str "put",.int c,v]->v∈vs
 tl:∀st,x.2 = .tup st->∀u∈st,u∈vs
theorem qG (h:aS p x):x.2 = .az \/ ∃st,x.2 = .tup st/\Pd.St p st:=by
 have t:=h.t
 split at t
 . revert t
   cases x.2<;>intro t<;>try (simp[jl]at t;done)
   rename_i st
   refine .inr ⟨st,rfl,?_⟩
   simpa[jl,Pd.St]using t
 . exact .inl t
theorem wD:bJ (il n t vs dd)=bJ dd:=by
 unfold il
 split
 . rfl
 . rfl
theorem zK {n t:Nat}(N:cW vs)(hn:0<n)(h:aS (n:Int) x)(k:Known vs x):aS (n:Int) (cG n t vs x):=by
 have tt:=qG h
 obtain⟨⟨h0,h9,dd,b0,eb,pa,pb⟩,t0⟩:=h
 refine⟨⟨h0,h9,?_,b0,eb,pa,pb⟩,?_⟩
 . show eJ n (il n t vs x.1.dd)
   rcases dd with e|⟨c,v,e,c0,c1,hv⟩
   . rw[e];exact .inl rfl
   . have:=k.dd c v e
     rw[e]
     refine .inr ⟨_,_,rfl,by omega,?_,N.vl this⟩
     have:=ua (t:=t) (q:=c.toNat) hn
     omega
 . show if bJ (il n t vs x.1.dd)&&x.1.e.isSome then jl n (tv n t vs x.2)=true else tv n t vs x.2 = .az
   rw[wD]
   split
   . rename_i hh
     rw[if_pos hh]at t0
     rcases tt with e|⟨st,e,hs⟩
     . rw[e]at t0;cases t0
     . rw[e]
       refine(B8 (t:=t) N hn (by have:=hs.1;omega) (k.tl st e)).B
   . rename_i hh
     rw[if_neg hh]at t0
     rw[t0];rfl
structure wF (n:Nat)(vs st:List D):Prop where
 len:st.length=n
 v:∀u∈st,u∈vs
theorem nS {a b:Bool}(h:a=true ↔ b=true):a=b:=by
 cases a<;>cases b<;>simp_all
theorem Nu {n t:Nat}(N:cW vs)(ht:t<n)(h:aS (n:Int) x)(k:Known vs x)(hs:wF n vs st):lX (cG n t vs x) (cV n t vs st)=lX x st:=by
 unfold lX
 show(!(bJ (il n t vs x.1.dd))||aH (tv n t vs x.2) (.tup (cV n t vs st)))=_
 rw[wD]
 congr 1
 have v3:∀{l:List D},(∀u∈l,u∈vs)->V3 l:=λhl u hu=>N.v3 u (hl u hu)
 have n3:∀{l:List D},l.length=n->(∀u∈l,u∈vs)->V3 (cV n t vs l):=λh1 h2=>(B8 N (by omega) h1 h2).2
 rcases qG h with e|⟨tl,e,hq⟩
 . rw[e]
   show aH .az _=aH .az _
   simp[aH]
 . have hl:tl.length=n:=by have:=hq.1;omega
   have hv:=k.tl tl e
   rw[e]
   show aH (.tup (cV n t vs tl)) _=_
   refine nS ?_
   rw[eqT (n3 hl hv) (n3 hs.len hs.v),eqT (v3 hv) (v3 hs.v)]
   exact⟨λz=>Jg N ht hl hs.len hv hs.v z,λz=>by rw[z]⟩
theorem Jh {n t:Nat}(N:cW vs)(ht:t<n)(h:eJ (n:Int) x.1.dd)(k:Known vs x)(hs:wF n vs st):dg (cV n t vs st) (il n t vs x.1.dd)=cV n t vs (dg st x.1.dd)/\wF n vs (dg st x.1.dd):=by
 rcases h with e|⟨c,v,e,c0,c1,_⟩
 . rw[e];exact⟨rfl,hs⟩
 . have hv:=k.dd c v e
   have hc:c.toNat<n:=by omega
   have p1:dg st x.1.dd=st.set c.toNat v:=by
     rw[e];unfold dg
     rw[abQ,if_pos (by rw[hs.len];exact hc)]
   have hl:(cV n t vs st).length=n:=by simp[cV]
   have p2:dg (cV n t vs st) (il n t vs x.1.dd)=(cV n t vs st).set (sp n t c.toNat) (nm vs v):=by
     rw[e]
     show afu (Int.toNat ((sp n t c.toNat:Nat):Int)) _++_::List.drop (Int.toNat ((sp n t c.toNat:Nat):Int)+1) _=_
     rw[abI,abQ,if_pos (by rw[hl];exact ua (by omega))]
   rw[p1,p2,Jf ht hs.len hc]
   refine⟨rfl,by simpa using hs.len,λu hu=>?_⟩
   rcases adX hu with hu|rfl
   . exact hs.v u hu
   . exact hv
theorem yh {n t:Nat}(N:cW vs)(ht:t<n):∀{l:List Rt} {st:List D},(∀x∈l,aS (n:Int) x/\Known vs x)->wF n vs st->cq (cV n t vs st) (l.map (cG n t vs))=cq st l
 | [],_,_,_=>rfl
 |x::l,st,h,hs=>by
  obtain⟨h1,h2⟩:=h x (by simp)
  obtain⟨e,u4⟩:=Jh N ht h1.r.dd h2 hs
  simp only[ZT,cq]
  rw[Nu N ht h1 h2 hs]
  show(_&&cq (dg (cV n t vs st) (il n t vs x.1.dd)) _)=_
  rw[e,yh N ht (λy hy=>h y (by simp[hy])) u4]
theorem qH {n t:Nat}(h:i<xs.length):ay (xs.map (cG n t vs)) i=cG n t vs (ay xs i):=by simp[ay,h]
theorem F7 {n t:Nat}(N:cW vs)(ht:t<n)(hx:∀x∈xs,aS (n:Int) x/\Known vs x)(bf:∀k∈ks,k<xs.length):fL (n:Int) (xs.map (cG n t vs)) ks=fL (n:Int) xs ks:=by
 have hz:wF n vs (zs (n:Int)):=⟨by simp[zs],λu hu=>by
  have:=(acI.mp hu).2
  subst this;exact N.zero.1⟩
 have ez:cV n t vs (zs (n:Int))=zs (n:Int):=by
  refine abK λr=>?_
  by_cases hr:r<n
  . rw[nc hr hz.len]
    have:(zs (n:Int)).getD (bk n t r) .az = .int 0:=(acI.mp (getD_mem (st:=zs (n:Int)) (by rw[hz.len];exact ub (by omega)))).2
    rw[this,N.zero.2]
    simp[zs,hr]
  . rw[Z3 (by simp[cV];omega),Z3 (by simp[zs];omega)]
 refine nS ?_
 rw[dP,dP]
 have eF:cq (zs (n:Int)) (ks.map (ay (xs.map (cG n t vs))))=cq (zs (n:Int)) (ks.map (ay xs)):=by
  have h1:ks.map (ay (xs.map (cG n t vs)))=(ks.map (ay xs)).map (cG n t vs):=by
    rw[Z0]
    exact aar λk hk=>qH (bf k hk)
  rw[h1,<- ez]
  conv=>rhs;rw[ez]
  exact yh N ht (λx hm=>by
    obtain⟨k,hk,rfl⟩:=Zu.mp hm
    exact hx _ (cx (bf k hk))) hz
 have eE:iI (xs.map (cG n t vs)) ks=iI xs ks:=by
  refine nS ?_
  rw[iK,iK]
  constructor
  . intro h i hi he
    exact h i (by simpa using hi) (by rw[qH hi];exact he)
  . intro h i hi he
    rw[ZN]at hi
    rw[qH hi]at he
    exact h i hi he
 have eT:∀(l seen:List Nat),(∀k∈l,k<xs.length)->(∀k∈seen,k<xs.length)->b9 (xs.map (cG n t vs)) seen l=b9 xs seen l:=by
  intro l
  induction l with
  |nil=>intro _ _ _;rfl
  |cons k l ih =>
    intro seen h1 h2
    simp only[b9]
    rw[ih (seen ++ [k]) (λj hj=>h1 j (by simp[hj])) (λj hj=>by
     rcases Zw.mp hj with hj|hj
     . exact h2 j hj
     . simp at hj;subst hj;exact h1 j (by simp))]
    have ea:∀i∈seen,cM (ay (xs.map (cG n t vs)) k) (ay (xs.map (cG n t vs)) i)=cM (ay xs k) (ay xs i):=λi hi=>by
     rw[qH (h1 k (by simp)),qH (h2 i hi),jT,jT]
     rfl
    congr 2
    refine nS ?_
    rw[aaW,aaW]
    exact⟨λ⟨i,hi,e⟩=>⟨i,hi,by rw[<- ea i hi];exact e⟩,λ⟨i,hi,e⟩=>⟨i,hi,by rw[ea i hi];exact e⟩⟩
 rw[eF,eE,eT ks [] bf (by simp)]
noncomputable def Nv:FE:=aj aR (cR (aa 1) cQ (cA (fC (.int 2)))) (aO aJ (af (aj b8 (fC (.int 3)) (aj ax (aa 1) (fC (.int 2)))) (af (oK (aF (aj xw (aj ax (aa 1) (fC (.int 3))) (fC .az))) (fC .az) (aj b8 (fC (.int 3)) (aj ax (aa 1) (fC (.int 3))))) (af (aj ax (aa 1) (fC (.int 4))) ag))))
noncomputable def wG:FS:=aG (aq cO (af (aU aV (bu (aa 0)) [none,none] (gN 1) aN Nv) ag))
def wH (p:Int)(f:Fn):Prop:=∀(xs:List Rt) g,(∀x∈xs,aS p x)->xs.length<=100->f [.tup (xs.map rt)] g=some (.tup ((xs.map x3).map rt),g)
theorem Nw {i:Int}:cT 3 i=true:=by simp[cT]
theorem i_ {a b c d e:D}{g:G}:eQ (.tup [a,b,c,d,e]) none (some 2) g=some (.tup [a,b],g):=rfl
theorem B9 {p:Int}:wH p (aC false 1 1 wG):=λxs g hx hl=>by
 refine bQ (σ':=[some (.tup (xs.map rt))]) rfl ?_ rfl
 have hz:aD xs.length=true:=aK (by omega)
 have c1:=cE (f:=rt) (h:=λx=>rt (x3 x)) (t:=gN 1) (c:=aN) (e:=Nv) (λσ=>∃o,σ = [none,o]) xs [none,none] g ⟨_,rfl⟩ (by
  rintro x hm σ ⟨o,rfl⟩
  refine⟨[none,some (rt x)],by simp,by simp,?_,⟨_,rfl⟩⟩
  have z3:aD 3=true:=by decide
  have z5:aD 5=true:=by decide
  unfold Nv
  cases he:x.1.e with
  |none=>simp[i_,rt,x3,he,eD,pf,vT,lD,isLit,cK,Nw,z3,z5]
  |some z=>simp[i_,rt,x3,he,eD,pf,vT,lD,isLit,cK,Nw,z3,z5])
 have sb:bH [none,none] [some (D.tup (xs.map rt))]= [none,none]:=rfl
 simp[wG,sb,c1,hz]
noncomputable def Nx:FG:=gT 2 (au (gN 3) (au (gT 5 (au (gN 4) (au (gN 5) (au (gN 6) (au (gN 7) (au (gN 8) aM)))))) aM))
noncomputable def lo1 (take:Fn):FS:=aA (aq mE (af (fC (.int 0)) (af (aj (aP a_ (· - ·)) (aa 6) (aq take (af (aa 0) (af (fC (.int 3)) ag)))) ag))) (gN 6)
noncomputable def Rr (take:Fn):FS:=bq (aF (aj cD (aa 7) (fC .az))) (aA (aj aR (aa 7) (aq take (af (aa 0) (af (fC (.int 4)) ag)))) (gN 7)) aL
noncomputable def Ny (take:Fn):FS:=bq (fX (aF (aj oEq (aj ax (aa 5) (fC (.int 0))) (fC (.str "put")))) (aF (aj oEq (aq take (af (aa 0) (af (fC (.int 6)) ag))) (fC (.int 0))))) (aA (fC .az) (gN 7)) aL
noncomputable def F8:FS:=da (bX isRef cw (aa 2) (af (aO aJ (af (aa 6) (af (aa 3) (af (aO aJ (af (aa 3) (af (aa 5) (af (aa 6) (af (aa 7) (af (aa 8) ag)))))) ag)))) ag))
noncomputable def Nz (take:Fn):FS:=av (lo1 take) (av (Rr take) (av (Ny take) F8))
noncomputable def F9 (i:Nat):FE:=aU aV (bu (aq gv (af (aa 2) ag))) [none,none,none,none] (gT 3 (au (gN 1) (au (gN 2) (au (gN 3) aM)))) aN (aa i)
noncomputable def rV (take:Fn):FS:=av (aA (aO mkRef ag) (gN 2)) (av (cj (dY (cR (aa 1) cQ (cA (fC (.int 10))))) Nx (Nz take)) (aG (aO aJ (af (aq cO (af (F9 3) ag)) (af (F9 2) ag)))))
noncomputable def jW (z:Nat×Rt):D:=.tup [.int z.2.1.b,.int (z.1:Nat),rt z.2]
noncomputable abbrev L9 (n:Nat)(R:Option D)(m:Nat)(o3 o4 o5 o6 o7 o8:Option D):Sg:=[some (.ref n),R,some (.ref m),o3,o4,o5,o6,o7,o8]
structure wI (p:Int)(i:Nat)(x y:Rt):Prop where
 l:Loose x y
 g:aS p y
 h:y.1.h=i
theorem NA (hx:aS p x)(hi:i<=9)(hb:0<=b)(jR:b<=x.1.b)(h1:∀z,e=some z->∃w,x.1.e=some w/\w<=z)(h2:bJ x.1.dd=true->e.isSome=x.1.e.isSome):wI p i x ({ x.1 with h:=i,b:=b,e:=e },x.2):=by
 obtain⟨⟨h0,h9,dd,b0,eb,pa,pb⟩,t⟩:=hx
 refine⟨⟨rfl,rfl,jR,h1⟩,⟨⟨by show(0:Int)<=i;omega,by show(i:Int)<=9;omega,dd,hb,λz hz=>?_,by show 4*b<x.1.pt;omega,λz hz=>?_⟩,?_⟩,rfl⟩
 . obtain⟨w,hw,sZ⟩:=h1 z hz
   have:=eb w hw
   show b<z
   omega
 . obtain⟨w,hw,sZ⟩:=h1 z hz
   have:=pb w hw
   show x.1.pt<4*z
   omega
 . show if bJ x.1.dd&&e.isSome then jl p x.2=true else x.2 = .az
   cases hl:bJ x.1.dd with
   |true=>rw[h2 hl];rw[hl]at t;exact t
   |false=>rw[hl]at t;exact t
theorem NB {dd:D}(h:eJ p dd):∃c,(c=true ↔ bJ dd=false) /\ ∀g,(aF (aj oEq (aj ax (aa 5) (fC (.int 0))) (fC (.str "put")))) (L9 n R m o3 o4 (some dd) o6 o7 o8) g=some (c,g):=by
 rcases h with rfl|⟨q,v,rfl,_⟩
 . refine⟨false,by simp[bJ],λg=>?_⟩
   simp[dF,oEq,flat,dep,Pd.eq_str,sX]
 . refine⟨true,?_,λg=>?_⟩
   . simp[bJ];decide
   . simp[dF,oEq,flat,dep,Pd.eq_str]
theorem P7 {take:Fn}(ht:dZ take){n i:Nat}{p B:Int}{R:Option D}{g gg:G}{acc:List D}{x:Rt}{Q:F×Sg×G->Prop}(hB:B+10<2 ^ 40)(hx:aS p x)(hi:i<=9)(ha:acc.length<=100)(M:Mk g gg n B acc)
  (q:∀y g',wI p i x y->Mk g g' n (B+3) (acc ++ [jW (i,y)])->Q (.nx,L9 n R g.length (some (.int i)) (some (.int x.1.h)) (some x.1.dd) (some (.int y.1.b)) (some (eD y.1.e)) (some x.2),g')):
  wp (Nz take (L9 n R g.length (some (.int i)) (some (.int x.1.h)) (some x.1.dd) (some (.int x.1.b)) (some (eD x.1.e)) (some x.2)) gg) Q:=by
 have zz:aD (acc.length+1)=true:=aK (by omega)
 have z3:aD 3=true:=by decide
 have z5:aD 5=true:=by decide
 have b0:=hx.r.b0
 have fin:∀(b:Int) (e:Option Int) (g':G) (B':Int),B'<=B+3->0<=b->b<=x.1.b->(∀z,e=some z->∃w,x.1.e=some w/\w<=z)->(bJ x.1.dd=true->e.isSome=x.1.e.isSome)->Mk g g' n B' acc->wp (F8 (L9 n R g.length (some (.int i)) (some (.int x.1.h)) (some x.1.dd) (some (.int b)) (some (eD e)) (some x.2)) g') Q:=by
  intro b e g' B' NC hb jR h1 h2 M'
  have a0:=M'.at_
  unfold F8
  simp[z3,z5,a0,zz]
  exact q _ _ (NA hx hi hb jR h1 h2) ((M'.mono NC).put)
 have mid:∀(b:Int) (e:Option Int) (g':G) (B':Int),B'<=B+2->0<=b->b<=x.1.b->(∀z,e=some z->∃w,x.1.e=some w/\w<=z)->(bJ x.1.dd=true->e.isSome=x.1.e.isSome)->Mk g g' n B' acc->wp (av (Ny take) F8 (L9 n R g.length (some (.int i)) (some (.int x.1.h)) (some x.1.dd) (some (.int b)) (some (eD e)) (some x.2)) g') Q:=by
  intro b e g' B' NC hb jR h1 h2 M'
  obtain⟨c,hc,ec⟩:=NB (n:=n) (R:=R) (m:=g.length) (o3:=some (.int i)) (o4:=some (.int x.1.h)) (o6:=some (.int b)) (o7:=some (eD e)) (o8:=some x.2) hx.r.dd
  rw[bV]
  unfold Ny
  rw[fE,HI,ec]
  cases c with
  |false =>
   simp
   exact fin b e g' B' (by omega) hb jR h1 h2 M'
  |true =>
   have hl:=hc.mp rfl
   simp
   refine ht.w (by omega) (by decide) (by decide) M'.hd λr g2 r0 r1 h3 f3=>?_
   have M2:=M'.step h3 f3
   by_cases hr:r=0
   . subst hr
     simp[oEq,flat,dep,eV]
     exact fin b none g2 (B'+1) (by omega) hb jR (λz hz=>by cases hz) (λhh=>by rw[hl]at hh;cases hh) M2
   . simp[oEq,flat,dep,eV,hr]
     exact fin b e g2 (B'+1) (by omega) hb jR h1 h2 M2
 unfold Nz
 refine fq ?_
 unfold lo1
 simp[-bV]
 refine ht.w (by omega) (by decide) (by decide) M.hd λr g2 r0 r1 h3 f3=>?_
 have M2:=M.step h3 f3
 obtain⟨b,eb,hb,jR⟩:∃b:Int,(if r<x.1.b then x.1.b-r else 0)=b/\0<=b/\b<=x.1.b:=⟨_,rfl,by split<;>omega,by split<;>omega⟩
 simp[eb,-bV]
 refine fq ?_
 unfold Rr
 cases he:x.1.e with
 |none =>
  simp[eD,isLit,cK,-bV]
  exact mid b none g2 (B+1) (by omega) hb jR (λz hz=>by cases hz) (λ_=>by rw[he]) M2
 |some w =>
  simp[eD,isLit,cK,-bV]
  refine ht.w (by omega) (by decide) (by decide) M2.hd λr' g3 Zi Zj h4 f4=>?_
  have M3:=M2.step h4 f4
  simp[-bV]
  exact mid b (some (w+r')) g3 (B+1+1) (by omega) hb jR (λz hz=>⟨w,he,by cases hz;omega⟩) (λ_=>by rw[he];rfl) M3
theorem yi (h:aS p x):L3.flat (rt x)=true/\dep (rt x)<=6:=by
 obtain⟨h1,h2⟩:=h.r.dd.flat
 obtain⟨h3,h4⟩:=aS.zx h
 have he:L3.flat (eD x.1.e)=true/\dep (eD x.1.e)=0:=by cases x.1.e<;>exact⟨rfl,rfl⟩
 constructor
 . simp[rt,L3.flat,aX,h1,h3,he.1]
 . simp[rt,dep,bS,he.2];omega
theorem ND {zs:List (Nat×Rt)}(hl:zs.length<=50)(hg:∀z∈zs,aS p z.2)(hk:∀z∈zs,∀w∈zs,z.1=w.1->z=w):xW (zs.map jW)=true:=by
 have fl:∀z∈zs,L3.flat (jW z)=true/\dep (jW z)<=7:=λz hz=>by
   obtain⟨h1,h2⟩:=yi (hg z hz)
   constructor
   . simp[jW,L3.flat,aX,h1]
   . simp[jW,dep,bS];omega
 obtain⟨h1,h2⟩:=lG (xs:=zs.map jW) (n:=7) λd hd=>by
   obtain⟨z,hz,rfl⟩:=Zu.mp hd
   exact fl z hz
 simp only[xW,Zn,aag,decide_eq_true_eq,ZH]
 refine⟨⟨⟨⟨by simp;omega,h1⟩,by omega⟩,.inr (.inl λx hx=>?_)⟩,λx hx y hy=>?_⟩
 . obtain⟨r,_,rfl⟩:=Zu.mp hx
   rfl
 . obtain⟨r,hr,rfl⟩:=Zu.mp hx
   obtain⟨s,hs,rfl⟩:=Zu.mp hy
   by_cases e1:r.2.1.b=s.2.1.b
   . by_cases e2:r.1=s.1
     . have:=hk r hr s hs e2
       subst this
       have:=iw _ (yi (hg r hr)).1
       simp[jW,ltN,fZ,eV,this]
     . have XQ:¬((r.1:Int)=(s.1:Int)):=by omega
       simp[jW,ltN,fZ,eV,e1,XQ]
   . simp[jW,ltN,fZ,eV,e1]
structure XR (p:Int)(xs:List Rt)(j:Nat)(zs:List (Nat×Rt)):Prop where
 len:zs.length=j
 at_:∀i z,zs[i]? = some z->z.1=i/\wI p i (ay xs i) z.2
def XS (n:Nat)(p B:Int)(g:G)(xs:List Rt)(j:Nat)(σ:Sg)(gg:G):Prop:=j<=xs.length->∃o3 o4 o5 o6 o7 o8 zs,σ=L9 n (some (.tup (xs.map rt))) g.length o3 o4 o5 o6 o7 o8/\XR p xs j zs/\Mk g gg n (B+3*j) (zs.map jW)
theorem P8 {ys:List D}(h:ys.length<=10):cutD ys none (some 10)=ys:=by
 unfold cutD
 have e0:HT.bG ys.length 0 none=0:=rfl
 have e1:HT.bG ys.length ys.length (some 10)=ys.length:=by
  have:=HT.kA ys.length ys.length 10
  rw[Nat.min_eq_right h]at this
  exact this
 rw[e0,e1];simp
set_option maxHeartbeats 1000000 in
theorem Ji {take:Fn}(ht:dZ take){n:Nat}{p B:Int}{g:G}{xs:List Rt}{Q:D×G->Prop}(hB:B+100<2 ^ 40)(hx:∀x∈xs,aS p x)(hl:xs.length<=10)(hd:Hd g n B)(hc:Clean g)
   (q:∀(L:Nat->Rt) (sp:List Nat) g',sp.Perm (Zx xs.length)->(∀k<xs.length,wI p k (ay xs k) (L k))->Hd g' n (B+40)->Fr n g g'->Q (.tup [.tup ((sp.map L).map rt),.lst (kD sp)],g')):
   wp (aC false 9 2 (rV take) [.ref n,.tup (xs.map rt)] g) Q:=by
 refine fN rfl ?_
 show wp (rV take (L9 n (some (.tup (xs.map rt))) g.length none none none none none none |>.set 2 none) g) _
 have sl:∀g,eQ (.tup (xs.map rt)) none (some 10) g=some (.tup (xs.map rt),g):=λg=>by
   show some (D.tup (cutD (xs.map rt) none (some 10)),g)=_
   rw[P8 (by simpa using hl)]
 unfold rV
 refine fq ?_
 have z0:aD 0=true:=by decide
 simp[z0,-bV]
 refine fq ?_
 simp[sl]
 have NC:(0:Int)<=3*((0:Nat):Int):=by simp
 refine iz (XS n p B g xs) _ 0 _ _ (λ_=>⟨_,_,_,_,_,_,[],rfl,⟨rfl,by simp⟩,by simpa using Mk.init hd⟩) ?_ ?_
 . intro j d σ gg hj hI
   rw[abq]at *
   rw[jA,Z1]at hj
   obtain⟨⟨x,i⟩,hz,rfl⟩:=ZF.mp hj
   have j0:j<xs.length:=by
     have:=(Zs.mp hz).1
     simpa using this
   have sV:x=ay xs j/\i=j:=by
     rw[adb,qF j0]at hz
     simp at hz
     exact⟨hz.1.symm,hz.2.symm⟩
   obtain⟨rfl,rfl⟩:=sV
   obtain⟨o3,o4,o5,o6,o7,o8,zs,rfl,Z,M⟩:=hI (by omega)
   have zl:=Z.len
   have tg:Nx (.tup [.int i,rt (ay xs i)]) (L9 n (some (.tup (xs.map rt))) g.length o3 o4 o5 o6 o7 o8) gg=some (L9 n (some (.tup (xs.map rt))) g.length (some (.int i)) (some (.int (ay xs i).1.h)) (some (ay xs i).1.dd) (some (.int (ay xs i).1.b)) (some (eD (ay xs i).1.e)) (some (ay xs i).2),gg):=by
     simp[Nx,rt]
   rw[tg]
   simp only[gM]
   refine P7 ht (by omega) (hx _ (cx j0)) (by omega) (by simp;omega) M λy g' hy M'=>?_
   refine λ_=>⟨_,_,_,_,_,_,zs ++ [(i,y)],rfl,⟨by simp[zl],λk z hk=>?_⟩,?_⟩
   . by_cases h:k<zs.length
     . rw[ZL h]at hk
       exact Z.at_ k z hk
     . rw[aas (by omega)]at hk
       have:k-zs.length=0:=by
         have:=(Zs.mp hk).1
         simp at this
         omega
       rw[this]at hk
       simp at hk
       subst hk
       have:k=i:=by omega
       subst this
       exact⟨rfl,hy⟩
   . rw[aaL]
     refine M'.mono ?_
     push_cast
     omega
 . intro σ gg hI
   rw[abq]at hI
   have el:(dD (xs.map rt)).length=xs.length:=by rw[jA];simp
   rw[el]at hI
   obtain⟨o3,o4,o5,o6,o7,o8,zs,rfl,Z,M⟩:=hI (Zy _)
   have zl:=Z.len
   have B_:∀z∈zs,zs[z.1]? = some z/\z.1<xs.length/\wI p z.1 (ay xs z.1) z.2:=λz hz=>by
     obtain⟨i,hi,e⟩:=aax.mp hz
     have h1:zs[i]? = some z:=by rw[Zq hi,e]
     obtain⟨h2,h3⟩:=Z.at_ i z h1
     subst h2
     exact⟨h1,by omega,h3⟩
   have so:=ND (zs:=zs) (p:=p) (by omega) (λz hz=>(B_ z hz).2.2.g) (λz hz w hw e=>by
     have h1:=(B_ z hz).1
     have h2:=(B_ w hw).1
     rw[e,h2]at h1
     exact(aaf h1).symm)
   obtain⟨ss,eA,kr⟩:=ph zs _ (p_ (zs.map jW))
   have i_:ss.length=xs.length:=by rw[eA.length_eq];exact zl
   have a0:=M.at_
   have sx:gv [.ref g.length] gg=some (.lst (ss.map jW),gg):=by
     show(match jQ [.ref g.length] gg with|some r=>some r|none=>jy [.ref g.length] gg)=_
     simp[jQ,ff,a0,so,kr]
   have zc:aD ss.length=true:=aK (by omega)
   have cc:∀(i:Nat) (h:Nat×Rt->D),(∀z,[D.int z.2.1.b,.int (z.1:Nat),rt z.2][i]? = some (h z))->F9 (i+1) (L9 n (some (.tup (xs.map rt))) g.length o3 o4 o5 o6 o7 o8) gg=some (.lst (ss.map h),gg):=by
     intro i h hh
     have c1:=cE (f:=jW) (h:=h) (t:=gT 3 (au (gN 1) (au (gN 2) (au (gN 3) aM)))) (c:=aN) (e:=aa (i+1)) (λσ=>∃a b c,σ = [none,a,b,c]) ss [none,none,none,none] gg ⟨_,_,_,rfl⟩ (by
       rintro z hm σ ⟨a,b,c,rfl⟩
       refine⟨[none,some (.int z.2.1.b),some (.int (z.1:Nat)),some (rt z.2)],by simp[jW],by simp,?_,⟨_,_,_,rfl⟩⟩
       have:=hh z
       match i,this with
       | 0,this=>simp at this;simp[this]
       | 1,this=>simp at this;simp[this]
       | 2,this=>simp at this;simp[this]
       |k+3,this=>simp at this)
     have sb:bH [none,none,none,none] (L9 n (some (.tup (xs.map rt))) g.length o3 o4 o5 o6 o7 o8)= [none,none,none,none]:=rfl
     simp[F9,sx,sb,c1,zc]
   have c3:=cc 2 (λz=>rt z.2) λz=>rfl
   have c2:=cc 1 (λz=>.int (z.1:Nat)) λz=>rfl
   simp[c3,c2,b4,zc]
   obtain⟨f1,f2⟩:=M.fin
   have er:ss.map (λz=>rt z.2)=((ss.map (·.1)).map λk=>(zs.getD k (0,x0)).2).map rt:=by
     rw[Z0,Z0]
     refine aar λz hz=>?_
     have:=(B_ z (eA.mem_iff.mp hz)).1
     simp[this]
   have ek:ss.map (λz=>D.int (z.1:Nat))=kD (ss.map (·.1)):=by
     unfold kD
     rw[Z0];rfl
   have nr:aY g.length (ss.map λz=>rt z.2)=true:=cF λd hd=>by
     obtain⟨z,hz,rfl⟩:=Zu.mp hd
     exact aS.bz (B_ z (eA.mem_iff.mp hz)).2.2.g _
   have nk:aY g.length (ss.map λz=>D.int (z.1:Nat))=true:=cF λd hd=>by
     obtain⟨z,hz,rfl⟩:=Zu.mp hd
     rfl
   refine⟨by simp[L3.bz,aY,nr,nk],λx hm=>(hc.fr f2 f1) x hm _,by have:=M.len;omega,?_⟩
   rw[er,ek]
   refine q _ _ _ ((eA.map (·.1)).trans ?_) (λk hk=>?_) (f1.mono (by omega)) f2
   . have:zs.map (·.1)=Zx xs.length:=by
       refine abK λi=>?_
       by_cases hi:i<xs.length
       . have hz:zs[i]? = some (zs[i]'(by omega)):=Zq _
         have:=(Z.at_ i _ hz).1
         rw[Z1,hz]
         simp[hi,this]
       . rw[Z3 (by simp;omega),Z3 (by simp;omega)]
     rw[this]
   . have hz:zs[k]? = some (zs[k]'(by omega)):=Zq _
     have:=(Z.at_ k _ hz).2
     rw[aaR,hz]
     exact this
def yj (p:Int)(f:Fn):Prop:=∀{n:Nat} {B:Int} {g:G} {xs:List Rt} {Q:D×G->Prop},B+100<2 ^ 40->(∀x∈xs,aS p x)->xs.length<=10->Hd g n B->Clean g ->
 (∀(L:Nat->Rt) (sp:List Nat) g',sp.Perm (Zx xs.length)->(∀k<xs.length,wI p k (ay xs k) (L k))->Hd g' n (B+40)->Fr n g g'->Q (.tup [.tup ((sp.map L).map rt),.lst (kD sp)],g'))->wp (f [.ref n,.tup (xs.map rt)] g) Q
noncomputable def Ru (loose:Fn):FS:=aA (aq loose (af (aa 0) (af (aa 2) ag))) (gT 2 (au (gN 4) (au (gN 5) aM)))
noncomputable def NF:FE:=aU aV (bu (aa 3)) [none,none,some 5] (gN 1) aN (bX dB cP (aa 2) (af (aa 1) ag))
noncomputable def NG (so:Fn):FS:=bq (fX (aF (aj oLt (aq cu (af (aa 2) ag)) (fC (.int 11)))) (b5 (bN (aq so (af (aa 1) (af (aa 4) (af (aq cO (af NF ag)) ag))))))) (aG (fC (.bl false))) aL
noncomputable def NH:FE:=aU aV (bu (aa 3)) [none,none,some 6] (gN 1) (aF (aj fF (aa 1) (aa 2))) (aj (aP a_ (· - ·)) (aa 1) (aq fY (af (aj oo (aa 1) (aa 2)) ag)))
noncomputable def NI:FE:=aj aR (cR (aa 2) cQ (cA (aa 6))) (cR (aa 2) (cA (aj aR (aa 6) (fC (.int 1)))) cQ)
noncomputable def NJ (so:Fn):FS:=bq (aF (aj oEq (aj ax (aj ax (aa 7) (fC (.int 1))) (fC (.int 0))) (fC (.str "look")))) (av (aA (aq cO (af NH ag)) (gN 8)) (bq (b5 (bN (aq so (af (aa 1) (af NI (af (aa 8) ag)))))) (aG (fC (.bl false))) aL)) aL
noncomputable def zL (loose so:Fn):FS:=av (Ru loose) (av (NG so) (av (cj (dY (aa 2)) (gT 2 (au (gN 6) (au (gN 7) aM))) (NJ so)) (aG (fC (.bl true)))))
theorem nT (hl:∀k∈ks,k<ys.length)(h:fL p ys ks=true):RB p ys (.tup (kD ks))=true:=by
 simp only[RB,PZ hl,MH,h,Bool.and_self]
theorem uc:nf (.tup (kD ks))=true:=by
 have:=BF (xs:=kD ks) λx hx=>(by obtain⟨i,_,rfl⟩:=Zu.mp hx;rfl:nf x=true)
 simpa[nf]using this
theorem wJ:∀{sp:List Nat} {k:Nat},k∈sp->iA (kD sp) (.int (k:Nat))=some (sp.idxOf k)
 |s::sp,k,h=>by
  unfold iA kD
  rw[ZT,afq,eV]
  by_cases e:s=k
  . subst e;simp
  . have:¬((s:Int)=(k:Int)):=by omega
    have hk:k∈sp:=by
     rcases ZE.mp h with h|h
     . exact absurd h.symm e
     . exact h
    have ih:=wJ hk
    unfold iA kD at ih
    simp only[this,decide_false,ZG,if_false,ih,aab]
    rw[List.idxOf_cons,show(s == k)=false by simpa using e]
    rfl
noncomputable abbrev lZ (n:Nat)(p:Int)(xs:List Rt)(ks:List Nat)(o4 o5 o6 o7 o8:Option D):Sg:=[some (.ref n),some (.int p),some (.tup (xs.map rt)),some (.tup (kD ks)),o4,o5,o6,o7,o8]
theorem NK {L:Nat->Rt}{sp:List Nat}{so:Fn}(sU:kO p so)(hx:∀x∈xs,aS p x)(hl:xs.length<=10)(bf:∀k∈ks,k<xs.length)(hk:fL p xs ks=true)(hp:sp.Perm (Zx xs.length))(hL:∀k<xs.length,wI p k (ay xs k) (L k)):
  NG so (lZ n p xs ks (some (.tup ((sp.map L).map rt))) (some (.lst (kD sp))) o6 o7 o8) g=some (.nx,lZ n p xs ks (some (.tup ((sp.map L).map rt))) (some (.lst (kD sp))) o6 o7 o8,g):=by
 have mem:∀k,k<xs.length->k∈sp:=λk hk=>hp.mem_iff.mpr (ZJ.mpr hk)
 have sl:sp.length=xs.length:=by rw[hp.length_eq];simp
 have kl:ks.length<=xs.length:=kf (dP.mp hk).1 bf
 have zk:aD ks.length=true:=aK (by omega)
 have hf:(kD sp).all dw=true:=ZH.mpr λd hd=>by obtain⟨i,_,rfl⟩:=Zu.mp hd;rfl
 have c1:=cE (f:=λ(k:Nat)=>D.int k) (h:=λk=>D.int ((sp.idxOf k:Nat):Int)) (t:=gN 1) (c:=aN) (e:=bX dB cP (aa 2) (af (aa 1) ag)) (λσ=>∃a,σ = [none,a,some (.lst (kD sp))]) ks [none,none,some (.lst (kD sp))] g ⟨_,rfl⟩ (by
  rintro k hm σ ⟨a,rfl⟩
  refine⟨[none,some (.int (k:Nat)),some (.lst (kD sp))],by simp,by simp,?_,⟨_,rfl⟩⟩
  have:cP (.lst (kD sp)) [.int (k:Nat)] g=some (.int (sp.idxOf k:Nat),g):=by
   have h1:(dw (.int (k:Nat))&&(kD sp).all dw)=true:=by rw[hf];rfl
   show(if(dw (.int (k:Nat))&&(kD sp).all dw)=true then(iA (kD sp) (.int (k:Nat))).map λ(j:Nat)=>(D.int (j:Int),g)else none)=_
   rw[if_pos h1,wJ (mem k (bf k hm))]
   rfl
  simp[this])
 have e1:NF (lZ n p xs ks (some (.tup ((sp.map L).map rt))) (some (.lst (kD sp))) o6 o7 o8) g=some (.lst (kD (ks.map λk=>sp.idxOf k)),g):=by
  have sb:bH [none,none,some 5] (lZ n p xs ks (some (.tup ((sp.map L).map rt))) (some (.lst (kD sp))) o6 o7 o8)= [none,none,some (.lst (kD sp))]:=rfl
  have ek:kD (ks.map λk=>sp.idxOf k)=ks.map λk=>D.int ((sp.idxOf k:Nat):Int):=by unfold kD;rw[Z0];rfl
  have ec:b6 (gN 1) aN (bX dB cP (aa 2) (af (aa 1) ag)) (kD ks) [none,none,some (.lst (kD sp))] g=some (kD (ks.map λk=>sp.idxOf k),g):=by rw[ek];exact c1
  have zl:aD (kD ks).length=true:=by simpa[kD]using zk
  have lV:aD (kD (ks.map λk=>sp.idxOf k)).length=true:=by simpa[kD]using zk
  simp[NF,sb,ec,zl,lV]
 have ok:=Eo (L:=L) hp (λk hk=>(hL k hk).l) bf hk
 have hy:∀x∈sp.map L,aS p x:=λx hm=>by
  obtain⟨k,hk,rfl⟩:=Zu.mp hm
  exact(hL k (ZJ.mp (hp.mem_iff.mp hk))).g
 have e2:=sU (sp.map L) (.tup (kD (ks.map λk=>sp.idxOf k))) g hy (by simp;omega) uc
 rw[nT (λk hk=>by
  obtain⟨j,hj,rfl⟩:=Zu.mp hk
  rw[ZN]
  exact abE (mem j (bf j hj))) ok]at e2
 have lV:aD (kD (ks.map λk=>sp.idxOf k)).length=true:=by simpa[kD]using zk
 have MB:((xs.length:Int)<11):=by omega
 unfold NG
 generalize (sp.map L).map rt=YY at *
 generalize kD (ks.map λk=>sp.idxOf k)=KK at *
 simp[e1,e2,b4,lV,MB]
theorem NL (hl:xs.length<=10)(bf:∀k∈ks,k<xs.length)(hn:ks.length<=10):NH (lZ n p xs ks o4 o5 (some (.int (i:Nat))) o7 o8) g=some (.lst (kD ((ks.filter (· ≠ i)).map (fw i))),g):=by
 have c1:=fK (f:=λ(k:Nat)=>D.int k) (h:=λk=>D.int ((fw i k:Nat):Int)) (cB:=λk=>decide (k≠i)) (t:=gN 1) (c:=aF (aj fF (aa 1) (aa 2))) (e:=aj (aP a_ (· - ·)) (aa 1) (aq fY (af (aj oo (aa 1) (aa 2)) ag))) (λσ=>∃a,σ = [none,a,some (.int (i:Nat))]) ks [none,none,some (.int (i:Nat))] g ⟨_,rfl⟩ (by
  rintro k hm σ ⟨a,rfl⟩
  refine⟨[none,some (.int (k:Nat)),some (.int (i:Nat))],by simp,?_,λhh=>?_,⟨_,rfl⟩⟩
  . have:((k:Int)=(i:Int))↔ k=i:=by omega
    simp[fF,flat,dep,eV,this]
  . by_cases h:i<k
    . have h1:(k:Int)>(i:Int):=by omega
      have h2:fw i k=k-1:=by unfold fw;rw[if_pos h]
      have h3:((k-1:Nat):Int)=(k:Int)-1:=by omega
      simp[h1,h2,h3,fY]
    . have h1:¬((k:Int)>(i:Int)):=by omega
      have h2:fw i k=k:=by unfold fw;rw[if_neg h]
      simp[h1,h2,fY])
 have sb:bH [none,none,some 6] (lZ n p xs ks o4 o5 (some (.int (i:Nat))) o7 o8)= [none,none,some (.int (i:Nat))]:=rfl
 have ek:kD ((ks.filter (· ≠ i)).map (fw i))=(ks.filter λk=>decide (k≠i)).map λk=>D.int ((fw i k:Nat):Int):=by unfold kD;rw[Z0];rfl
 have fl:(ks.filter (· ≠ i)).length<=ks.length:=aaC _ _
 have ec:b6 (gN 1) (aF (aj fF (aa 1) (aa 2))) (aj (aP a_ (· - ·)) (aa 1) (aq fY (af (aj oo (aa 1) (aa 2)) ag))) (kD ks) [none,none,some (.int (i:Nat))] g=some (kD ((ks.filter (· ≠ i)).map (fw i)),g):=by rw[ek];exact c1
 have zl:aD (kD ks).length=true:=aK (by simp[kD];omega)
 have lV:aD (kD ((ks.filter (· ≠ i)).map (fw i))).length=true:=aK (by simp[kD]at fl ⊢;omega)
 generalize kD ((ks.filter (· ≠ i)).map (fw i))=KK at *
 simp[NH,sb,ec,zl,lV]
theorem NM {so:Fn}(sU:kO p so)(hx:∀x∈xs,aS p x)(hl:xs.length<=10)(bf:∀k∈ks,k<xs.length)(hk:fL p xs ks=true)(hi:i<xs.length):
  ∃Rv,NJ so (lZ n p xs ks o4 o5 (some (.int (i:Nat))) (some (rt (ay xs i))) o8) g=some (.nx,lZ n p xs ks o4 o5 (some (.int (i:Nat))) (some (rt (ay xs i))) Rv,g):=by
 have kl:ks.length<=xs.length:=kf (dP.mp hk).1 bf
 have ec:∀o8 g,(aF (aj oEq (aj ax (aj ax (aa 7) (fC (.int 1))) (fC (.int 0))) (fC (.str "look")))) (lZ n p xs ks o4 o5 (some (.int (i:Nat))) (some (rt (ay xs i))) o8) g=some (bJ (ay xs i).1.dd,g):=λo8 g=>by
  rcases (hx _ (cx hi)).r.dd with e|⟨q,v,e,_⟩
  . simp[rt,e,dF,fJ,oEq,flat,dep,Pd.eq_str,bJ]
  . have:bJ (.tup [.str "put",.int q,v])=false:=by simp[bJ];decide
    simp[rt,e,dF,fJ,oEq,flat,dep,Pd.eq_str,vZ,this]
 unfold NJ
 cases BM:bJ (ay xs i).1.dd with
 |false =>
  refine⟨o8,?_⟩
  rw[fE,ec,BM]
  simp
 |true =>
  have ok:=P6 hx hi BM bf hk
  have e1:=λo8 g=>NL (n:=n) (p:=p) (o4:=o4) (o5:=o5) (o7:=some (rt (ay xs i))) (o8:=o8) (i:=i) (g:=g) hl bf (by omega)
  have fl:((ks.filter (· ≠ i)).map (fw i)).length<=ks.length:=by simp;exact aaC _ _
  have e2:=sU (m_ xs i) (.tup (kD ((ks.filter (· ≠ i)).map (fw i)))) g (TJ hx) (by rw[wA hi];omega) uc
  rw[nT (λk hk=>by
    obtain⟨j,hj,rfl⟩:=Zu.mp hk
    obtain⟨h1,h2⟩:=ZU.mp hj
    have h1:=bf j h1
    have h2:j≠i:=by simpa using h2
    rw[wA hi]
    unfold fw
    split<;>omega) ok]at e2
  have s1:eQ (.tup (xs.map rt)) none (some (i:Int)) g=some (.tup ((xs.take i).map rt),g):=by
    show some (D.tup (cutD (xs.map rt) none (some (i:Int))),g)=_
    unfold cutD
    rw[HT.kW,HT.kA,abR,Nat.sub_zero,aeo (by simp;omega),List.map_take]
  have s2:eQ (.tup (xs.map rt)) (some ((i:Int)+1)) none g=some (.tup ((xs.drop (i+1)).map rt),g):=by
    show some (D.tup (cutD (xs.map rt) (some ((i:Int)+1)) none),g)=_
    unfold cutD
    rw[HT.kW,show((i:Int)+1)=((i+1:Nat):Int) by omega,HT.kA,aeo (by simp;omega),List.map_drop,aa8 (by simp)]
  have ea:aR (.tup ((xs.take i).map rt)) (.tup ((xs.drop (i+1)).map rt)) g=some (.tup ((m_ xs i).map rt),g):=by
    have hz:aD (((xs.take i).map rt).length+((xs.drop (i+1)).map rt).length)=true:=aK (by simp;omega)
    show(if aD _=true then some (D.tup ((xs.take i).map rt++(xs.drop (i+1)).map rt),g)else none)=_
    rw[if_pos hz,<- aaL]
    rfl
  have lV:aD (kD ((ks.filter (· ≠ i)).map (fw i))).length=true:=aK (by simp[kD]at fl ⊢;omega)
  generalize kD ((ks.filter (· ≠ i)).map (fw i))=KK at *
  generalize (m_ xs i).map rt=YY at *
  refine⟨some (.tup KK),?_⟩
  rw[fE,ec,BM]
  have e3:NI (lZ n p xs ks o4 o5 (some (.int (i:Nat))) (some (rt (ay xs i))) (some (.tup KK))) g=some (.tup YY,g):=by
    simp only[NI,pV,HS]
    simp only[gL,HN,C_,tO,abv,abZ,Zv]
    have e4:aR (.int (i:Nat)) (.int 1) g=some (.int ((i:Int)+1),g):=rfl
    simp only[pV,gL,tO,abv,abZ,Zv,e4,s1,s2]
    exact ea
  simp[e1,e2,e3,b4,lV]
def XT (n:Nat)(p:Int)(xs:List Rt)(ks:List Nat)(g0:G)(j:Nat)(σ:Sg)(g:G):Prop:=g=g0 /\ ∃o4 o5 o6 o7 o8,σ=lZ n p xs ks o4 o5 o6 o7 o8
theorem TK {lo so:Fn}{n:Nat}{p B:Int}{g:G}{xs:List Rt}{ks:List Nat}{Q:D×G->Prop}(sA:yj p lo)(sU:kO p so)(hB:B+100<2 ^ 40)(hx:∀x∈xs,aS p x)(hl:xs.length<=10)(bf:∀k∈ks,k<xs.length)(hk:fL p xs ks=true)(hd:Hd g n B)(hc:Clean g)
   (q:∀g',Hd g' n (B+40)->Fr n g g'->Q (.bl true,g')):wp (aC false 9 4 (zL lo so) [.ref n,.int p,.tup (xs.map rt),.tup (kD ks)] g) Q:=by
 refine fN rfl ?_
 show wp (zL lo so (lZ n p xs ks none none none none none) g) _
 unfold zL
 refine fq ?_
 unfold Ru
 simp[-bV]
 refine sA hB hx hl hd hc λL sp g' hp hL h1 f1=>?_
 simp[-bV,-Z0]
 refine fq ⟨_,NK sU hx hl bf hk hp hL,rfl,?_⟩
 refine fq ?_
 simp[-Z0]
 refine iz (XT n p xs ks g') _ 0 _ _ ⟨rfl,_,_,_,_,_,rfl⟩ ?_ ?_
 . rintro j d σ gg hj ⟨rfl,o4,o5,o6,o7,o8,rfl⟩
   rw[jA,Z1]at hj
   obtain⟨⟨x,i⟩,hz,rfl⟩:=ZF.mp hj
   have j0:j<xs.length:=by
    have:=(Zs.mp hz).1
    simpa using this
   have sV:x=ay xs j/\i=j:=by
    rw[adb,qF j0]at hz
    simp at hz
    exact⟨hz.1.symm,hz.2.symm⟩
   obtain⟨rfl,rfl⟩:=sV
   obtain⟨Rv,e⟩:=NM (n:=n) (o4:=o4) (o5:=o5) (o8:=o8) (g:=gg) sU hx hl bf hk j0
   simp[-Z0]
   exact⟨_,e,rfl,_,_,_,_,_,rfl⟩
 . rintro σ gg ⟨rfl,o4,o5,o6,o7,o8,rfl⟩
   have tk:gg.take g.length=gg:=aa8 (by rw[f1.1];exact Zy _)
   simp[L3.bz,tk]
   exact⟨λx hm=>(hc.fr f1 h1) x hm _,by rw[f1.1];exact Zy _,q gg h1 f1⟩
noncomputable def Ca:FE:=aj aR (qW (aj ax (aa 6) (fC (.int 4))) (aO aJ ag)) (cR (aj ax (aa 6) (fC (.int 1))) (cA (fC (.int 2))) cQ)
noncomputable def yk:FS:=da (bX fg iE (aa 5) (af (aa 7) (af (aO aJ (af (aq lA (af (aa 5) ag)) (af (fC (.int 7)) ag))) ag)))
noncomputable def NO:FS:=cj (bu (aa 2)) (gN 6) (cj (bu Ca) (gN 7) yk)
noncomputable def NP:FE:=aU aV (fS (af (aa 1) ag)) [none,none,some 5,some 4,some 13] (gN 1) aN (aj ax (aa 2) (aj ax (aa 4) (bX dB cP (aa 3) (af (aa 1) ag))))
noncomputable def oF:FS:=bq (aF (aj oEq (aj ax (aa 10) (fC (.int 0))) (fC (.str "put")))) (aA (aO aJ (af (fC (.str "put")) (af (aj ax (aa 4) (aj ax (aa 10) (fC (.int 1)))) (af (aj ax (aa 5) (aj ax (aa 10) (fC (.int 2)))) ag)))) (gN 10)) (bq (aF (aj cD (aa 13) (fC .az))) (aA (aq cO (af NP ag)) (gN 13)) aL)
noncomputable def qI:FS:=da (bX isRef cw (aa 8) (af (aO aJ (af (aa 9) (af (aa 10) (af (aa 11) (af (aa 12) (af (aa 13) ag)))))) ag))
noncomputable def Cb:FG:=gT 5 (au (gN 9) (au (gN 10) (au (gN 11) (au (gN 12) (au (gN 13) aM)))))
noncomputable def NQ:FE:=aU aV (fS (af (aa 1) ag)) [none,none,some 1,some 3] (gN 1) aN (aj (aP cC (· % ·)) (aj aR (aa 1) (aa 3)) (aa 2))
noncomputable def nU (take:Fn):FS:=av (aA (aq take (af (aa 0) (af (aa 1) ag))) (gN 3)) (av (aA NQ (gN 4)) (av (aA (gq [(fC (.int 0),fC (.int 0))]) (gN 5)) (av NO (av (aA (aO mkRef ag) (gN 8)) (av (cj (bu (aa 2)) Cb (av oF qI)) (aG (aq cO (af (aa 8) ag))))))))
noncomputable def lL (vs:List D)(d:D):List D:=if(aW (dW 0 vs) d).isSome then vs else vs ++ [d]
theorem ym (N:cW vs)(hd:isVal 3 d=true)(hl:vs.length<400):cW (lL vs d)/\d∈lL vs d/\(∀u∈vs,u∈lL vs d)/\(lL vs d).length<=vs.length+1:=by
 unfold lL
 by_cases h:d∈vs
 . obtain⟨j,_,_,e,_⟩:=N.get h
   rw[e]
   exact⟨N,h,λ_ hu=>hu,by simp⟩
 . obtain⟨e,_⟩:=rT (i:=0) N.v3 hd h
   rw[e]
   exact⟨N.add hd h hl,by simp,λ_ hu=>by simp[hu],by simp⟩
noncomputable def ng (vs ds:List D):List D:=ds.foldl lL vs
theorem yn:∀{ds vs:List D},cW vs->(∀d∈ds,isVal 3 d=true)->vs.length+ds.length<=400->cW (ng vs ds)/\(∀d∈ds,d∈ng vs ds)/\(∀u∈vs,u∈ng vs ds)/\(ng vs ds).length<=vs.length+ds.length
 | [],vs,N,_,_=>⟨N,by simp,λ_ h=>h,by simp[ng]⟩
 |d::ds,vs,N,h,hl=>by
  simp only[abc]at hl
  obtain⟨h1,h2,h3,h4⟩:=ym N (h d (by simp)) (by omega)
  obtain⟨i1,i2,i3,i4⟩:=yn (ds:=ds) h1 (λe he=>h e (by simp[he])) (by omega)
  refine⟨i1,λe he=>?_,λu hu=>i3 u (h3 u hu),by show(ng (lL vs d) ds).length<=_;simp only[abc];omega⟩
  rcases ZE.mp he with rfl|he
  . exact i3 _ h2
  . exact i2 e he
theorem zM (h:isVal 3 d=true):bD 6 d=true:=rR 3 5 d h (by omega)
noncomputable abbrev cX (n:Nat)(p:Int)(xs:List Rt)(t:Nat)(sps:D)(m:Nat)(o6 o7 o8 o9 o10 o11 o12 o13:Option D):Sg:=[some (.ref n),some (.int p),some (.tup (xs.map rt)),some (.int (t:Nat)),some sps,some (.aI m),o6,o7,o8,o9,o10,o11,o12,o13]
theorem NR {g:G}(N:cW vs)(hd:isVal 3 d=true)(hl:vs.length<400):yk (cX n p xs t sps g.length o6 (some d) o8 o9 o10 o11 o12 o13) (g ++ [dW 0 vs])=some (.nx,cX n p xs t sps g.length o6 (some d) o8 o9 o10 o11 o12 o13,g ++ [dW 0 (lL vs d)]):=by
 have hk:=zM hd
 have l1:1<=vs.length:=by
   have:=(Zs.mp N.z).1
   omega
 have ln:lA [.aI g.length] (g ++ [dW 0 vs])=some (.int (vs.length:Nat),g ++ [dW 0 vs]):=by
   simp[lA,wB]
 have z2:aD 2=true:=by decide
 have sz:j6 (dW 0 vs)=true:=ql (by rw[wB];omega)
 have nI:D.tup [.int (vs.length:Nat),.int 7]=lY vs.length:=by
   obtain⟨k,e⟩:∃k,vs.length=k+1:=⟨vs.length-1,by omega⟩
   rw[e];rfl
 unfold yk lL
 by_cases h:d∈vs
 . obtain⟨j,_,_,e,_⟩:=N.get h
   simp[ln,z2,iE,hk,sz,e]
 . obtain⟨e,e2⟩:=rT (i:=0) N.v3 hd h
   rw[abq]at e2
   simp[ln,z2,iE,hk,sz,e,nI,e2]
theorem qJ {g:G}:∀{ds vs:List D} {o7:Option D},cW vs->(∀d∈ds,isVal 3 d=true)->vs.length+ds.length<=400 ->
  ∃Cc,forL (gN 7) yk ds (cX n p xs t sps g.length o6 o7 o8 o9 o10 o11 o12 o13) (g ++ [dW 0 vs])=some (.nx,cX n p xs t sps g.length o6 Cc o8 o9 o10 o11 o12 o13,g ++ [dW 0 (ng vs ds)])
 | [],vs,o7,_,_,_=>⟨o7,rfl⟩
 |d::ds,vs,o7,N,h,hl=>by
  simp only[abc]at hl
  obtain⟨h1,h2,h3,h4⟩:=ym N (h d (by simp)) (by omega)
  obtain⟨o,ih⟩:=qJ (g:=g) (ds:=ds) (o7:=some d) h1 (λe he=>h e (by simp[he])) (by omega)
  refine⟨o,?_⟩
  have e1:gN 7 d (cX n p xs t sps g.length o6 o7 o8 o9 o10 o11 o12 o13) (g ++ [dW 0 vs])=some (cX n p xs t sps g.length o6 (some d) o8 o9 o10 o11 o12 o13,g ++ [dW 0 vs]):=by simp
  simp only[forL,e1,Zv,NR N (h d (by simp)) (by omega)]
  exact ih
noncomputable def oG:D->List D
 |.tup st=>st
 |_=>[]
noncomputable def l_:D->List D
 |.tup [.str _,.int _,v]=>[v]
 |_=>[]
noncomputable def wK (x:Rt):List D:=oG x.2++l_ x.1.dd
theorem Cd {k:Nat}(hx:aS (k:Int) x)(hk:k<=5):(∀d∈wK x,isVal 3 d=true)/\(wK x).length<=6:=by
 have h1:(∀d∈oG x.2,isVal 3 d=true)/\(oG x.2).length<=5:=by
   rcases qG hx with e|⟨st,e,h⟩
   . rw[e];simp[oG]
   . rw[e];exact⟨h.2,by show st.length<=5;have:=h.1;omega⟩
 have h2:(∀d∈l_ x.1.dd,isVal 3 d=true)/\(l_ x.1.dd).length<=1:=by
   rcases hx.r.dd with e|⟨c,v,e,_,_,hv⟩
   . rw[e];simp[l_]
   . rw[e];simpa[l_]using jz hv
 refine⟨λd hd=>?_,by simp[wK];omega⟩
 rcases Zw.mp hd with h|h
 . exact h1.1 d h
 . exact h2.1 d h
theorem NS {k:Nat}{xs:List Rt}(hx:aS (k:Int) x)(hk:k<=5)(k0:0<k):Ca (cX n p xs t sps m (some (rt x)) o7 o8 o9 o10 o11 o12 o13) g=some (.tup (wK x),g):=by
 obtain⟨_,hl⟩:=Cd hx hk
 have z0:aD 0=true:=by decide
 have e1:(qW (aj ax (aa 6) (fC (.int 4))) (aO aJ ag)) (cX n p xs t sps m (some (rt x)) o7 o8 o9 o10 o11 o12 o13) g=some (.tup (oG x.2),g):=by
  rcases qG hx with e|⟨st,e,h⟩
  . simp[rt,lD,e,gE,z0,oG]
  . have:st.isEmpty=false:=by
     cases st with
     |nil=>have:=h.1;simp at this;omega
     |cons _ _=>rfl
    simp[rt,lD,e,gE,this,oG]
 have e2:(cR (aj ax (aa 6) (fC (.int 1))) (cA (fC (.int 2))) cQ) (cX n p xs t sps m (some (rt x)) o7 o8 o9 o10 o11 o12 o13) g=some (.tup (l_ x.1.dd),g):=by
  rcases hx.r.dd with e|⟨c,v,e,_,_,hv⟩
  . have:eQ (.tup [.str "look"]) (some 2) none g=some (.tup [],g):=rfl
    simp[rt,fJ,e,this,l_]
  . have:eQ (.tup [.str "put",.int c,v]) (some 2) none g=some (.tup [v],g):=rfl
    simp[rt,fJ,e,this,l_]
 have hz:aD ((oG x.2).length+(l_ x.1.dd).length)=true:=aK (by simp[wK]at hl;omega)
 unfold Ca
 rw[pV,e1,Zv,e2,Zv]
 show(if aD ((oG x.2).length+(l_ x.1.dd).length)=true then some (D.tup (oG x.2++l_ x.1.dd),g)else none)=_
 rw[if_pos hz]
 rfl
theorem Ep {vs:List D}(h:∀d∈wK x,d∈vs):Known vs x:=by
 refine⟨λc v e=>h v (aad _ (by rw[e];simp[l_])),λst e u hu=>h u (ac1 _ (by rw[e];exact hu))⟩
theorem Ce {k:Nat}{xs:List Rt}{g:G}(hk:k<=5)(k0:0<k):∀{rest:List Rt} {vs:List D} {o6 o7:Option D},cW vs->(∀x∈rest,aS (k:Int) x)->vs.length+6*rest.length<=400 ->
  ∃sI NT Cc,cW sI/\(∀u∈vs,u∈sI)/\(∀x∈rest,Known sI x)/\forL (gN 6) (cj (bu Ca) (gN 7) yk) (rest.map rt) (cX n p xs t sps g.length o6 o7 o8 o9 o10 o11 o12 o13) (g ++ [dW 0 vs])=some (.nx,cX n p xs t sps g.length NT Cc o8 o9 o10 o11 o12 o13,g ++ [dW 0 sI])
 | [],vs,o6,o7,N,_,_=>⟨vs,o6,o7,N,λ_ h=>h,by simp,rfl⟩
 |x::rest,vs,o6,o7,N,h,hl=>by
  simp only[abc]at hl
  obtain⟨v1,v2⟩:=Cd (h x (by simp)) hk
  obtain⟨a1,a2,a3,a4⟩:=yn N v1 (by omega)
  obtain⟨sI,NT,Cc,i1,i2,i3,i4⟩:=Ce (xs:=xs) (g:=g) hk k0 (rest:=rest) (o6:=some (rt x)) (o7:=(qJ (n:=n) (p:=p) (xs:=xs) (t:=t) (sps:=sps) (o6:=some (rt x)) (o7:=o7) (o8:=o8) (o9:=o9) (o10:=o10) (o11:=o11) (o12:=o12) (o13:=o13) (g:=g) N v1 (by omega)).choose) a1 (λy hy=>h y (by simp[hy])) (by omega)
  have sp:=(qJ (n:=n) (p:=p) (xs:=xs) (t:=t) (sps:=sps) (o6:=some (rt x)) (o7:=o7) (o8:=o8) (o9:=o9) (o10:=o10) (o11:=o11) (o12:=o12) (o13:=o13) (g:=g) N v1 (by omega)).choose_spec
  refine⟨sI,NT,Cc,i1,λu hu=>i2 u (a3 u hu),λy hy=>?_,?_⟩
  . rcases ZE.mp hy with rfl|hy
    . exact Ep λd hd=>i2 d (a2 d hd)
    . exact i3 y hy
  . have e1:gN 6 (rt x) (cX n p xs t sps g.length o6 o7 o8 o9 o10 o11 o12 o13) (g ++ [dW 0 vs])=some (cX n p xs t sps g.length (some (rt x)) o7 o8 o9 o10 o11 o12 o13,g ++ [dW 0 vs]):=by simp
    have e2:(cj (bu Ca) (gN 7) yk) (cX n p xs t sps g.length (some (rt x)) o7 o8 o9 o10 o11 o12 o13) (g ++ [dW 0 vs])=some (.nx,cX n p xs t sps g.length (some (rt x)) (qJ (n:=n) (p:=p) (xs:=xs) (t:=t) (sps:=sps) (o6:=some (rt x)) (o7:=o7) (o8:=o8) (o9:=o9) (o10:=o10) (o11:=o11) (o12:=o12) (o13:=o13) (g:=g) N v1 (by omega)).choose o8 o9 o10 o11 o12 o13,g ++ [dW 0 (ng vs (wK x))]):=by
      rw[kJ]
      simp[NS (h x (by simp)) hk k0,b4]
      exact sp
    rw[ZT]
    simp only[forL,e1,e2,Zv]
    exact i4
noncomputable def sps (k t:Nat):List Nat:=(Zx k).map (sp k t)
theorem Cf (hq:q<k):(sps k t)[q]? = some (sp k t q):=by simp[sps,hq]
theorem Jj (ht:t<k)(hr:r<k):iA (kD (sps k t)) (.int (r:Nat))=some (bk k t r):=by
 have hb:=ub (n:=k) (t:=t) (r:=r) (by omega)
 have h1:=Cf (t:=t) hb
 rw[F6 ht hr]at h1
 have nd:(sps k t).Nodup:=by
  unfold sps
  rw[aeW,ab_]
  refine(ad7 (n:=k)).imp_of_mem fun {a b} ha fT gZ e=>gZ ?_
  rw[<- t_ ht (ZJ.mp ha),<- t_ ht (ZJ.mp fT),e]
 rw[wJ (Z_ h1)]
 obtain⟨hl,e⟩:=Zs.mp h1
 have:=nd.idxOf_getElem _ hl
 rw[e]at this
 rw[this]
theorem Cg {k:Nat}{fa:FE}{σ:Sg}{g:G}(hk:k<=100)(h:fa σ g=some (.int (k:Nat),g)):fS (af fa ag) σ g=some (cU 0 k,g):=by
 obtain⟨q,e,hq⟩:wp (fS (af fa ag) σ g) λq=>q=(cU 0 k,g):=by
  refine nJ ?_
  simp[h]
  omega
 rw[e,hq]
theorem NU {k t:Nat}{xs:List Rt}{g:G}(hk:k<=5)(k0:0<k):NQ [some (.ref n),some (.int (k:Nat)),some (.tup (xs.map rt)),some (.int (t:Nat)),o4,o5,o6,o7,o8,o9,o10,o11,o12,o13] g=some (.lst (kD (sps k t)),g):=by
 have c1:=cE (f:=λ(q:Nat)=>D.int (0+q)) (h:=λq=>D.int ((sp k t q:Nat):Int)) (t:=gN 1) (c:=aN) (e:=aj (aP cC (· % ·)) (aj aR (aa 1) (aa 3)) (aa 2)) (λσ=>∃a,σ = [none,a,some (.int (k:Nat)),some (.int (t:Nat))]) (Zx k) [none,none,some (.int (k:Nat)),some (.int (t:Nat))] g ⟨_,rfl⟩ (by
  rintro q hm σ ⟨a,rfl⟩
  refine⟨[none,some (.int (0+q)),some (.int (k:Nat)),some (.int (t:Nat))],by simp,by simp,?_,⟨_,rfl⟩⟩
  have:cC ((q:Int)+t) (k:Nat)=true:=by
   unfold cC
   rw[Nat.ble_eq]
   simp;omega
  have e:((q:Int)+t) % (k:Int)=((sp k t q:Nat):Int):=by unfold sp;push_cast;rfl
  simp[aP,this,e])
 have sb:bH [none,none,some 1,some 3] [some (.ref n),some (.int (k:Nat)),some (.tup (xs.map rt)),some (.int (t:Nat)),o4,o5,o6,o7,o8,o9,o10,o11,o12,o13]= [none,none,some (.int (k:Nat)),some (.int (t:Nat))]:=rfl
 have ir:=Cg (k:=k) (fa:=aa 1) (σ:=[some (.ref n),some (.int (k:Nat)),some (.tup (xs.map rt)),some (.int (t:Nat)),o4,o5,o6,o7,o8,o9,o10,o11,o12,o13]) (g:=g) (by omega) (by simp)
 have ek:kD (sps k t)=(Zx k).map λq=>D.int ((sp k t q:Nat):Int):=by unfold kD sps;rw[Z0];rfl
 have ec:b6 (gN 1) aN (aj (aP cC (· % ·)) (aj aR (aa 1) (aa 3)) (aa 2)) (cU 0 k) [none,none,some (.int (k:Nat)),some (.int (t:Nat))] g=some (kD (sps k t),g):=by rw[ek];exact c1
 have zl:aD (cU 0 k).length=true:=aK (by rw[gQ];omega)
 unfold NQ
 simp[ir,sb,ec,zl]
theorem P9 {vs:List D}{v:D}{g:G}(N:cW vs)(hv:v∈vs)(h:g[m]? = some (dW 0 vs)):ax (.aI m) v g=some (nm vs v,g):=by
 obtain⟨j,_,_,e,e2⟩:=N.get hv
 simp[h,zM (N.v3 v hv),e,e2]
theorem NV {k t:Nat}{xs:List Rt}{vs st:List D}{g:G}(hk:k<=5)(ht:t<k)(N:cW vs)(hs:wF k vs st)(hg:g[m]? = some (dW 0 vs)):NP (cX n (k:Nat) xs t (.lst (kD (sps k t))) m o6 o7 o8 o9 o10 o11 o12 (some (.tup st))) g=some (.lst (cV k t vs st),g):=by
 have hf:(kD (sps k t)).all dw=true:=ZH.mpr λd hd=>by obtain⟨i,_,rfl⟩:=Zu.mp hd;rfl
 have c1:=cE (f:=λ(q:Nat)=>D.int (0+q)) (h:=λr=>nm vs (st.getD (bk k t r) .az)) (t:=gN 1) (c:=aN) (e:=aj ax (aa 2) (aj ax (aa 4) (bX dB cP (aa 3) (af (aa 1) ag)))) (λσ=>∃a,σ = [none,a,some (.aI m),some (.lst (kD (sps k t))),some (.tup st)]) (Zx k) [none,none,some (.aI m),some (.lst (kD (sps k t))),some (.tup st)] g ⟨_,rfl⟩ (by
  rintro r hm σ ⟨a,rfl⟩
  have hr:=ZJ.mp hm
  refine⟨[none,some (.int (0+r)),some (.aI m),some (.lst (kD (sps k t))),some (.tup st)],by simp,by simp,?_,⟨_,rfl⟩⟩
  have hb:=ub (n:=k) (t:=t) (r:=r) (by omega)
  have e1:cP (.lst (kD (sps k t))) [.int (0+(r:Int))] g=some (.int (bk k t r:Nat),g):=by
   rw[Int.zero_add]
   have h1:(dw (.int (r:Nat))&&(kD (sps k t)).all dw)=true:=by rw[hf];rfl
   show(if(dw (.int (r:Nat))&&(kD (sps k t)).all dw)=true then(iA (kD (sps k t)) (.int (r:Nat))).map λ(j:Nat)=>(D.int (j:Int),g)else none)=_
   rw[if_pos h1,Jj ht hr]
   rfl
  have h2:st[bk k t r]? = some (st.getD (bk k t r) .az):=by
   rw[aaR,Zq (by rw[hs.len];exact hb)];rfl
  have e2:ax (.tup st) (.int (bk k t r:Nat)) g=some (st.getD (bk k t r) .az,g):=by
   simp[eH h2]
  have e3:=P9 N (hs.v _ (getD_mem (by rw[hs.len];exact hb))) hg
  simp only[pV,xY,gL,jM,ny,abv,abZ,Zv,DR,if_true,e1,e2,e3])
 have sb:bH [none,none,some 5,some 4,some 13] (cX n (k:Nat) xs t (.lst (kD (sps k t))) m o6 o7 o8 o9 o10 o11 o12 (some (.tup st)))= [none,none,some (.aI m),some (.lst (kD (sps k t))),some (.tup st)]:=rfl
 have ir:=Cg (k:=k) (fa:=aa 1) (σ:=cX n (k:Nat) xs t (.lst (kD (sps k t))) m o6 o7 o8 o9 o10 o11 o12 (some (.tup st))) (g:=g) (by omega) (by simp)
 have ec:b6 (gN 1) aN (aj ax (aa 2) (aj ax (aa 4) (bX dB cP (aa 3) (af (aa 1) ag)))) (cU 0 k) [none,none,some (.aI m),some (.lst (kD (sps k t))),some (.tup st)] g=some (cV k t vs st,g):=c1
 have zl:aD (cU 0 k).length=true:=aK (by rw[gQ];omega)
 have lV:aD (cV k t vs st).length=true:=aK (by simp[cV];omega)
 unfold NP
 generalize cV k t vs st=NN at *
 simp[ir,sb,ec,zl,lV]
theorem NW {k t:Nat}{xs:List Rt}{vs acc:List D}{x:Rt}{g:G}(hk:k<=5)(ht:t<k)(N:cW vs)(hx:aS (k:Int) x)(kn:Known vs x)(ha:acc.length<=100):
   ∃o10 o13,av oF qI (cX n (k:Nat) xs t (.lst (kD (sps k t))) g.length o6 o7 (some (.ref (g.length+1))) (some (.int x.1.h)) (some x.1.dd) (some (.int x.1.b)) (some (eD x.1.e)) (some x.2)) (g ++ [dW 0 vs,acc])=
     some (.nx,cX n (k:Nat) xs t (.lst (kD (sps k t))) g.length o6 o7 (some (.ref (g.length+1))) (some (.int x.1.h)) o10 (some (.int x.1.b)) (some (eD x.1.e)) o13,g ++ [dW 0 vs,acc ++ [rt (cG k t vs x)]]):=by
 have a0:(g ++ [dW 0 vs,acc])[g.length]? = some (dW 0 vs):=FF
 have a1:(g ++ [dW 0 vs,acc])[g.length+1]? = some acc:=BG
 have zz:aD (acc.length+1)=true:=aK (by omega)
 have z3:aD 3=true:=by decide
 have z5:aD 5=true:=by decide
 have fin:∀dd tl,qI (cX n (k:Nat) xs t (.lst (kD (sps k t))) g.length o6 o7 (some (.ref (g.length+1))) (some (.int x.1.h)) (some dd) (some (.int x.1.b)) (some (eD x.1.e)) (some tl)) (g ++ [dW 0 vs,acc])=some (.nx,cX n (k:Nat) xs t (.lst (kD (sps k t))) g.length o6 o7 (some (.ref (g.length+1))) (some (.int x.1.h)) (some dd) (some (.int x.1.b)) (some (eD x.1.e)) (some tl),g ++ [dW 0 vs,acc ++ [.tup [.int x.1.h,dd,.int x.1.b,eD x.1.e,tl]]]):=by
   intro dd tl
   unfold qI
   simp[z5,a1,zz]
 rw[bV]
 rcases hx.r.dd with e|⟨c,v,e,c0,c1,hv⟩
 . have nd:il k t vs x.1.dd=x.1.dd:=by rw[e];rfl
   rcases qG hx with e2|⟨st,e2,cH⟩
   . refine⟨some x.1.dd,some x.2,?_⟩
     have eP:oF (cX n (k:Nat) xs t (.lst (kD (sps k t))) g.length o6 o7 (some (.ref (g.length+1))) (some (.int x.1.h)) (some x.1.dd) (some (.int x.1.b)) (some (eD x.1.e)) (some x.2)) (g ++ [dW 0 vs,acc])=some (.nx,cX n (k:Nat) xs t (.lst (kD (sps k t))) g.length o6 o7 (some (.ref (g.length+1))) (some (.int x.1.h)) (some x.1.dd) (some (.int x.1.b)) (some (eD x.1.e)) (some x.2),g ++ [dW 0 vs,acc]):=by
      unfold oF
      simp[e,e2,dF,oEq,flat,dep,Pd.eq_str,sX,isLit,cK]
     rw[eP,Zv]
     show qI _ _=_
     rw[fin]
     have:rt (cG k t vs x)= .tup [.int x.1.h,x.1.dd,.int x.1.b,eD x.1.e,x.2]:=by
      show D.tup [.int x.1.h,il k t vs x.1.dd,.int x.1.b,eD x.1.e,tv k t vs x.2]=_
      rw[nd,e2];rfl
     rw[this]
   . have hs:wF k vs st:=⟨by have:=cH.1;omega,kn.tl st e2⟩
     have eT:=NV (n:=n) (xs:=xs) (o6:=o6) (o7:=o7) (o8:=some (.ref (g.length+1))) (o9:=some (.int x.1.h)) (o10:=some x.1.dd) (o11:=some (.int x.1.b)) (o12:=some (eD x.1.e)) hk ht N hs a0
     have lV:aD (cV k t vs st).length=true:=aK (by simp[cV];omega)
     refine⟨some x.1.dd,some (.tup (cV k t vs st)),?_⟩
     have eP:oF (cX n (k:Nat) xs t (.lst (kD (sps k t))) g.length o6 o7 (some (.ref (g.length+1))) (some (.int x.1.h)) (some x.1.dd) (some (.int x.1.b)) (some (eD x.1.e)) (some x.2)) (g ++ [dW 0 vs,acc])=some (.nx,cX n (k:Nat) xs t (.lst (kD (sps k t))) g.length o6 o7 (some (.ref (g.length+1))) (some (.int x.1.h)) (some x.1.dd) (some (.int x.1.b)) (some (eD x.1.e)) (some (.tup (cV k t vs st))),g ++ [dW 0 vs,acc]):=by
      unfold oF
      rw[e]at eT ⊢
      rw[e2]
      generalize cV k t vs st=NN at *
      simp[dF,oEq,flat,dep,Pd.eq_str,sX,isLit,cK,eT,b4,lV]
     rw[eP,Zv]
     show qI _ _=_
     rw[fin]
     have:rt (cG k t vs x)= .tup [.int x.1.h,x.1.dd,.int x.1.b,eD x.1.e,.tup (cV k t vs st)]:=by
      show D.tup [.int x.1.h,il k t vs x.1.dd,.int x.1.b,eD x.1.e,tv k t vs x.2]=_
      rw[nd,e2];rfl
     rw[this]
 . obtain⟨c,rfl⟩:∃j:Nat,c=j:=⟨c.toNat,by omega⟩
   have hc:c<k:=by omega
   have nd:il k t vs x.1.dd = .tup [.str "put",.int (sp k t c:Nat),nm vs v]:=by rw[e];simp[il]
   have e4:(kD (sps k t))[c]? = some (.int (sp k t c:Nat)):=by
     unfold kD
     rw[Z1,Cf hc];rfl
   have tl:tv k t vs x.2=x.2:=by
     have t0:=hx.t
     have:bJ (.tup [.str "put",.int (c:Int),v])=false:=by simp[bJ];decide
     rw[e,this]at t0
     simp at t0
     rw[t0];rfl
   refine⟨some (il k t vs x.1.dd),some x.2,?_⟩
   have eP:oF (cX n (k:Nat) xs t (.lst (kD (sps k t))) g.length o6 o7 (some (.ref (g.length+1))) (some (.int x.1.h)) (some x.1.dd) (some (.int x.1.b)) (some (eD x.1.e)) (some x.2)) (g ++ [dW 0 vs,acc])=some (.nx,cX n (k:Nat) xs t (.lst (kD (sps k t))) g.length o6 o7 (some (.ref (g.length+1))) (some (.int x.1.h)) (some (il k t vs x.1.dd)) (some (.int x.1.b)) (some (eD x.1.e)) (some x.2),g ++ [dW 0 vs,acc]):=by
     unfold oF
     rw[nd,e]
     have Rw:=kn.dd _ v e
     obtain⟨j,_,_,e5,e6⟩:=N.get Rw
     have Bh:=zM (N.v3 v Rw)
     simp[dF,fJ,pf,oEq,flat,dep,Pd.eq_str,eH e4,e5,e6,Bh,z3]
   rw[eP,Zv]
   show qI _ _=_
   rw[fin]
   have:rt (cG k t vs x)= .tup [.int x.1.h,il k t vs x.1.dd,.int x.1.b,eD x.1.e,x.2]:=by
     show D.tup [.int x.1.h,il k t vs x.1.dd,.int x.1.b,eD x.1.e,tv k t vs x.2]=_
     rw[tl]
   rw[this]
theorem Ci {k t:Nat}{xs:List Rt}{vs:List D}{g:G}(hk:k<=5)(ht:t<k)(N:cW vs):∀{rest:List Rt} {acc:List D} {o9 o10 o11 o12 o13:Option D},(∀x∈rest,aS (k:Int) x/\Known vs x)->acc.length+rest.length<=100 ->
  ∃XU TM TN TQ TR,forL Cb (av oF qI) (rest.map rt) (cX n (k:Nat) xs t (.lst (kD (sps k t))) g.length o6 o7 (some (.ref (g.length+1))) o9 o10 o11 o12 o13) (g ++ [dW 0 vs,acc])=
   some (.nx,cX n (k:Nat) xs t (.lst (kD (sps k t))) g.length o6 o7 (some (.ref (g.length+1))) XU TM TN TQ TR,g ++ [dW 0 vs,acc++(rest.map (cG k t vs)).map rt])
 | [],acc,o9,o10,o11,o12,o13,_,_=>⟨o9,o10,o11,o12,o13,by simp[forL]⟩
 |x::rest,acc,o9,o10,o11,o12,o13,h,hl=>by
  simp only[abc]at hl
  obtain⟨h1,h2⟩:=h x (by simp)
  obtain⟨XW,XX,e⟩:=NW (n:=n) (xs:=xs) (o6:=o6) (o7:=o7) (acc:=acc) (g:=g) hk ht N h1 h2 (by omega)
  obtain⟨q9,XY,XZ,X0,X1,ih⟩:=Ci (xs:=xs) (g:=g) hk ht N (rest:=rest) (acc:=acc ++ [rt (cG k t vs x)]) (o9:=some (.int x.1.h)) (o10:=XW) (o11:=some (.int x.1.b)) (o12:=some (eD x.1.e)) (o13:=XX) (λy hy=>h y (by simp[hy])) (by simp;omega)
  refine⟨q9,XY,XZ,X0,X1,?_⟩
  have tg:Cb (rt x) (cX n (k:Nat) xs t (.lst (kD (sps k t))) g.length o6 o7 (some (.ref (g.length+1))) o9 o10 o11 o12 o13) (g ++ [dW 0 vs,acc])=some (cX n (k:Nat) xs t (.lst (kD (sps k t))) g.length o6 o7 (some (.ref (g.length+1))) (some (.int x.1.h)) (some x.1.dd) (some (.int x.1.b)) (some (eD x.1.e)) (some x.2),g ++ [dW 0 vs,acc]):=by
   simp[Cb,rt]
  rw[ZT]
  simp only[forL,tg,e,Zv]
  rw[ih]
  simp
theorem yo {take:Fn}(Qg:dZ take){n k:Nat}{B:Int}{g:G}{xs:List Rt}{Q:D×G->Prop}(hB:B+100<2 ^ 40)(k0:0<k)(hk:k<=5)(hx:∀x∈xs,aS (k:Int) x)(hl:xs.length<=10)(hd:Hd g n B)(hc:Clean g)
  (q:∀t vs g',t<k->cW vs->(∀x∈xs,Known vs x)->Hd g' n (B+1)->Fr n g g'->Q (.tup ((xs.map (cG k t vs)).map rt),g')):wp (aC false 14 3 (nU take) [.ref n,.int (k:Nat),.tup (xs.map rt)] g) Q:=by
 refine fN rfl ?_
 show wp (nU take [some (.ref n),some (.int (k:Nat)),some (.tup (xs.map rt)),none,none,none,none,none,none,none,none,none,none,none] g) _
 unfold nU
 refine fq ?_
 simp[-bV]
 refine Qg.w (by omega) (by omega) (by omega) hd λr g1 r0 r1 h1 f1=>?_
 obtain⟨t,rfl⟩:∃t:Nat,r=t:=⟨r.toNat,by omega⟩
 have ht:t<k:=by omega
 simp[-bV]
 refine fq ?_
 simp[NU (n:=n) (t:=t) (xs:=xs) hk k0,-bV]
 refine fq ?_
 have dn:(gq [(fC (.int 0),fC (.int 0))]) [some (.ref n),some (.int (k:Nat)),some (.tup (xs.map rt)),some (.int (t:Nat)),some (.lst (kD (sps k t))),none,none,none,none,none,none,none,none,none] g1=some (.aI g1.length,g1 ++ [dW 0 [.int 0]]):=by
  simp[gq,qZ,putAll,bU,dW,lY]
  decide
 simp[dn,-bV]
 have N0:cW [.int 0]:=⟨λu hu=>by simp at hu;subst hu;decide,by simp,rfl,by simp⟩
 obtain⟨vs,o6,o7,N,_,kn,eN⟩:=Ce (n:=n) (p:=(k:Nat)) (xs:=xs) (g:=g1) (t:=t) (sps:=.lst (kD (sps k t))) (o6:=none) (o7:=none) (o8:=none) (o9:=none) (o10:=none) (o11:=none) (o12:=none) (o13:=none) hk k0 (rest:=xs) N0 hx (by simp;omega)
 have X2:NO (cX n (k:Nat) xs t (.lst (kD (sps k t))) g1.length none none none none none none none none) (g1 ++ [dW 0 [.int 0]])=some (.nx,cX n (k:Nat) xs t (.lst (kD (sps k t))) g1.length o6 o7 none none none none none none,g1 ++ [dW 0 vs]):=by
  unfold NO
  rw[kJ]
  simpa[b4]using eN
 refine fq ⟨_,X2,rfl,?_⟩
 refine fq ?_
 have z0:aD 0=true:=by decide
 simp[z0,-bV]
 obtain⟨o9,o10,o11,o12,o13,eL⟩:=Ci (n:=n) (xs:=xs) (o6:=o6) (o7:=o7) (g:=g1) hk ht N (rest:=xs) (acc:=[]) (o9:=none) (o10:=none) (o11:=none) (o12:=none) (o13:=none) (λx hm=>⟨hx x hm,kn x hm⟩) (by simp;omega)
 rw[aaK]at eL
 have gx:∀x∈xs.map (cG k t vs),aS (k:Int) x:=λx hm=>by
  obtain⟨y,hy,rfl⟩:=Zu.mp hm
  exact zK N k0 (hx y hy) (kn y hy)
 have eF:(cj (bu (aa 2)) Cb (av oF qI)) (cX n (k:Nat) xs t (.lst (kD (sps k t))) g1.length o6 o7 (some (.ref (g1.length+1))) none none none none none) (g1 ++ [dW 0 vs,[]])=some (.nx,cX n (k:Nat) xs t (.lst (kD (sps k t))) g1.length o6 o7 (some (.ref (g1.length+1))) o9 o10 o11 o12 o13,g1 ++ [dW 0 vs,(xs.map (cG k t vs)).map rt]):=by
  rw[kJ]
  simpa[b4]using eL
 refine fq ⟨_,eF,rfl,?_⟩
 have a1:(g1 ++ [dW 0 vs,(xs.map (cG k t vs)).map rt])[g1.length+1]? = some ((xs.map (cG k t vs)).map rt):=BG
 have zl:aD ((xs.map (cG k t vs)).map rt).length=true:=aK (by simp;omega)
 have nr:bz g.length (.tup ((xs.map (cG k t vs)).map rt))=true:=by
  have:=cF (n:=g.length) (xs:=(xs.map (cG k t vs)).map rt) λd hd=>by
   obtain⟨z,hz,rfl⟩:=Zu.mp hd
   exact aS.bz (gx z hz) _
  simpa[L3.bz]using this
 have gl:g1.length=g.length:=f1.1
 generalize Rx:(xs.map (cG k t vs)).map rt=YY at *
 have tk:afu g.length (g1 ++ [dW 0 vs,YY])=g1:=by rw[<- gl];simp
 simp[a1,b4,zl,nr,tk]
 refine⟨λx hm=>(hc.fr f1 h1) x hm _,by omega,?_⟩
 rw[<- Rx]
 exact q t vs g1 ht N kn h1 f1
end Sd
namespace K54
open PySem PySem.Spec PyProof.Rows L2 L3 RI
noncomputable def top (i:Nat):Stmt:=PySem.Challenge.pw_wholeglance_k54_whole_stories_loosened.main.body.getD i (.Pass ⟨0,0,0,0⟩)
noncomputable def NX:bw:=⟨"is_whole",["thing"],["thing"],top 1,false,[],false⟩
noncomputable def NY:bw:=⟨"is_within",["thing","least","most"],["thing","least","most"],top 2,false,[],false⟩
noncomputable def NZ:bw:=⟨"is_figured",["thing","most"],["thing","most"],top 3,false,[],false⟩
noncomputable def N1:bw:=⟨"is_tuple_of",["thing","least","most"],["thing","least","most"],top 4,false,[],false⟩
noncomputable def N2:bw:=⟨"zeros",["count"],["count"],top 7,false,[],false⟩
noncomputable def N3:bw:=⟨"is_value",["thing"],["thing"],top 12,false,[],false⟩
noncomputable def N4:bw:=⟨"is_value_within",["thing","deep"],["thing","deep"],top 13,false,[],false⟩
noncomputable def N5:bw:=⟨"is_ahead",["row","other"],["row","other"],top 15,false,[],false⟩
noncomputable def N6:bw:=⟨"bits_of",["numbers"],["numbers"],top 17,false,[],false⟩
noncomputable def N7:bw:=⟨"ended_bits",["story"],["story"],top 18,false,[],false⟩
noncomputable def F_:bw:=⟨"plan_of",["story"],["story","plan","number","row","ahead"],top 19,false,["plan"],false⟩
noncomputable def Ga:bw:=⟨"leads",["plan","done","state"],["plan","done","state","found","number","ahead","row","bit"],top 20,false,["found"],false⟩
noncomputable def Gb:bw:=⟨"fits",["row","state"],["row","state"],top 21,false,[],false⟩
noncomputable def Ge:bw:=⟨"state_behind",["row","state"],["row","state","deed"],top 22,false,[],false⟩
noncomputable def Gf:bw:=⟨"shows_order",["places","story","thing"],["places","story","thing"],top 24,false,[],false⟩
noncomputable def Gg:bw:=⟨"are_rows",["story","thing"],["story","thing"],top 25,false,[],false⟩
noncomputable def Gh:bw:=⟨"has_ended",["story","order"],["story","order"],top 26,false,[],false⟩
noncomputable def Gi:bw:=⟨"keeps_turns",["story","order"],["story","order","place","number"],top 27,false,[],false⟩
noncomputable def Gj:bw:=⟨"fits_all",["places","rows"],["places","rows","state","row"],top 28,false,[],false⟩
noncomputable def Gk:bw:=⟨"shows_none",["places","story","thing"],["places","story","thing","values","known","pair"],top 29,false,["known","*known"],false⟩
noncomputable def Gm:bw:=⟨"lead_nowhere_else",["story","known"],["story","known","plan","ended","done","state"],top 30,false,["*known"],false⟩
noncomputable def Gn:bw:=⟨"is_room",["places","story","values","thing"],["places","story","values","thing"],top 31,false,[],false⟩
noncomputable def Gp:bw:=⟨"is_rising",["story","thing"],["story","thing"],top 32,false,[],false⟩
noncomputable def Gq:bw:=⟨"is_state_of",["places","values","thing"],["places","values","thing"],top 33,false,[],false⟩
noncomputable def Gr:bw:=⟨"way_to",["came","room"],["came","room","way"],top 35,false,["way"],false⟩
noncomputable def Gs:bw:=⟨"ordered",["places","story"],["places","story","plan","ended","first","came","still","room","number","behind"],top 37,false,["still","came","*came"],false⟩
noncomputable def Gu:bw:=⟨"rows_done",["done","rows"],["done","rows"],top 38,false,[],false⟩
noncomputable def Gv:bw:=⟨"_law_hand",["_law_script","_law_k"],["_law_script","_law_k","_law_cell"],top 40,true,[],false⟩
noncomputable def Gw:bw:=⟨"_law_take",["_law_hand_here","_law_many"],["_law_hand_here","_law_many","_law_digit","_law_turn","_law_mixed","_law_other"],top 41,false,["_law_hand_here"],false⟩
noncomputable def Gx:bw:=⟨"_law_pick",["_law_hand_here","_law_some"],["_law_hand_here","_law_some"],top 42,false,[],false⟩
noncomputable def Gy:bw:=⟨"_law_some_value",["_law_hand_here"],["_law_hand_here"],top 43,false,[],false⟩
noncomputable def Gz:bw:=⟨"_law_rows",["_law_hand_here","_law_places","_law_most"],["_law_hand_here","_law_places","_law_most","_law_rows_here","_law_begin","_law_open_hands","_law_ends","_law_hands","_law_k","_law_some","_law_one","_law_point","_law_deed"],top 44,false,["_law_ends","_law_rows_here","_law_open_hands","*_law_open_hands","*_law_ends"],false⟩
noncomputable def GA:bw:=⟨"_law_told",["_law_places","_law_rows_here"],["_law_places","_law_rows_here","_law_state","_law_telling","_law_order","_law_point","_law_k","_law_one","_law_deed","_law_begin","_law_end","_law_numbers"],top 45,false,["_law_order","_law_telling","*_law_telling"],false⟩
noncomputable def GB:bw:=⟨"_law_bent",["_law_hand_here","_law_places","_law_rows_here"],["_law_hand_here","_law_places","_law_rows_here","_law_some","_law_turn","_law_at","_law_hand_own","_law_deed","_law_begin","_law_end","_law_told_here","_law_place","_law_tellings","_law_changed"],top 46,false,["_law_some"],false⟩
noncomputable def GC:bw:=⟨"_law_thrice",["_law_rows_here"],["_law_rows_here"],top 47,false,[],false⟩
noncomputable def GD:bw:=⟨"_law_loose",["_law_hand_here","_law_rows_here"],["_law_hand_here","_law_rows_here","_law_some","_law_k","_law_own","_law_deed","_law_begin","_law_end","_law_told_here"],top 48,false,["_law_some"],false⟩
noncomputable def GF:bw:=⟨"_law_named",["_law_hand_here","_law_places","_law_rows_here"],["_law_hand_here","_law_places","_law_rows_here","_law_turn","_law_spots","_law_names","_law_row","_law_value","_law_found","_law_own","_law_deed","_law_begin","_law_end","_law_told_here"],top 49,false,["_law_found","*_law_names"],false⟩
noncomputable def GG:bw:=⟨"_law_of_order",["_law_hand_here","_law_places","_law_rows_here","_law_order"],["_law_hand_here","_law_places","_law_rows_here","_law_order","_law_wide","_law_spots","_law_at","_law_row","_law_fewer"],top 50,false,[],false⟩
noncomputable def GH:bw:=⟨"law",["_law_script"],["_law_script","_law_k","_law_hand_here","_law_places","_law_rows_here","_law_word","_law_thing","_law_named_here"],top 51,false,[],false⟩
noncomputable def ds:List bw:=[NX,NY,NZ,N1,N2,N3,N4,N5,N6,N7,F_,Ga,Gb,Ge,Gf,Gg,Gh,Gi,Gj,Gk,Gm,Gn,Gp,Gq,Gr,Gs,Gu,Gv,Gw,Gx,Gy,Gz,GA,GB,GC,GD,GF,GG,GH]
noncomputable def pk:Pk:=⟨[SO,SX,SY,SQ,SR,SS,SU,SV,SW,Mm],[PH],[Dz,PJ,Iq,PK,DQ],[Io,Me],[S_,PM,PN,Ta,DP,PR]⟩
noncomputable def mo:Mo:=⟨ds,["len","max","min","int","tuple","list","all","any","sum","sorted","bool","set","range","enumerate","isinstance","reversed"],[("TWELVE_FIGURES",.int 999999999999),("MOST_PARTS",.int 8),("MOST_DEEP",.int 3)],[],pk,1000000⟩
noncomputable def X3 (T:Nat->Fn):FS:=aG (dS (iy .int (aa 0)) (pL (iy .bool (aa 0))))
noncomputable def X4 (T:Nat->Fn):FS:=aG (dS (aq (T 0) (af (aa 0) ag)) (gU oLe oLe (aa 1) (aa 0) (aa 2)))
noncomputable def X5 (T:Nat->Fn):FS:=aG (aq (T 1) (af (aa 0) (af (uG oP (aa 1)) (af (aa 1) ag))))
noncomputable def X6 (T:Nat->Fn):FS:=aG (dS (iy .tuple (aa 0)) (gU oLe oLe (aa 1) (aq cu (af (aa 0) ag)) (aa 2)))
noncomputable def X7 (T:Nat->Fn):FS:=aG (aj b8 (aO aJ (af (fC (.int 0)) ag)) (aa 0))
noncomputable def X8 (T:Nat->Fn):FS:=aG (aq (T 6) (af (aa 0) (af (fC (.int 3)) ag)))
noncomputable def X9 (T:Nat->Fn):FS:=av (bq (gW (aF (aj oEq (aa 1) (fC (.int 0)))) (b5 (bN (iy .tuple (aa 0))))) (aG (aq (T 2) (af (aa 0) (af (fC (.int 999999999999)) ag)))) aL) (av (bq (b5 (bN (aq (T 3) (af (aa 0) (af (fC (.int 0)) (af (fC (.int 8)) ag)))))) (aG (fC (.bl false))) aL) (aG (aq eZ (af (aU aV (bu (aa 0)) [none,none,some 1] (gN 1) aN (aq (T 6) (af (aa 1) (af (aj (aP a_ (· - ·)) (aa 2) (fC (.int 1))) ag)))) ag))))
noncomputable def X_ (T:Nat->Fn):FS:=aG (dS (aj cD (aj ax (aa 0) (fC (.int 3))) (fC .az)) (aj oLe (aj ax (aa 0) (fC (.int 3))) (aj ax (aa 1) (fC (.int 2)))))
noncomputable def Ya (T:Nat->Fn):FS:=aG (aq lb (af (aU aV (bu (aa 0)) [none,none] (gN 1) aN (aj (aP cN (λi j=>i*2 ^ j.toNat)) (fC (.int 1)) (aa 1))) ag))
noncomputable def Yb (T:Nat->Fn):FS:=aG (aq (T 8) (af (aU aV (dY (aa 0)) [none,none,none] (gT 2 (au (gN 1) (au (gN 2) aM))) (aF (aj cD (aj ax (aa 2) (fC (.int 3))) (fC .az))) (aa 1)) ag))
noncomputable def TU (T:Nat->Fn):FS:=av (aA (aO mkRef ag) (gN 1)) (av (cj (dY (aa 0)) (gT 2 (au (gN 2) (au (gN 3) aM))) (av (aA (aU aV (dY (aa 0)) [none,none,none,some 3] (gT 2 (au (gN 1) (au (gN 2) aM))) (bN (aq (T 7) (af (aa 2) (af (aa 3) ag)))) (aa 1)) (gN 4)) (da (bX isRef cw (aa 1) (af (aO aJ (af (aa 2) (af (aq (T 8) (af (aa 4) ag)) (af (aa 3) ag)))) ag))))) (aG (aa 1)))
noncomputable def TV (T:Nat->Fn):FS:=av (aA (aO mkRef ag) (gN 3)) (av (cj (bu (aa 0)) (gT 3 (au (gN 4) (au (gN 5) (au (gN 6) aM)))) (av (aA (aj (aP cN (λi j=>i*2 ^ j.toNat)) (fC (.int 1)) (aa 4)) (gN 7)) (bq (fX (aF (aj oEq (aj (aP a_ Z9) (aa 1) (aa 7)) (fC (.int 0)))) (fX (aF (aj oEq (aj (aP a_ Z9) (aa 1) (aa 5)) (aa 5))) (bN (aq (T 12) (af (aa 6) (af (aa 2) ag)))))) (da (bX isRef cw (aa 3) (af (aO aJ (af (aa 4) (af (aO aJ (af (aj (aP a_ ab0) (aa 1) (aa 7)) (af (aq (T 13) (af (aa 6) (af (aa 2) ag))) ag))) ag))) ag))) aL))) (aG (aa 3)))
noncomputable def TX (T:Nat->Fn):FS:=aG (mw (aj oEq (aj ax (aj ax (aa 0) (fC (.int 1))) (fC (.int 0))) (fC (.str "put"))) (aj oEq (aj ax (aa 0) (fC (.int 4))) (aa 1)))
noncomputable def TY (T:Nat->Fn):FS:=av (aA (aj ax (aa 0) (fC (.int 1))) (gN 2)) (av (bq (aF (aj oEq (aj ax (aa 2) (fC (.int 0))) (fC (.str "look")))) (aG (aa 1)) aL) (aG (aj aR (aj aR (cR (aa 1) cQ (cA (aj ax (aa 2) (fC (.int 1))))) (aO aJ (af (aj ax (aa 2) (fC (.int 2))) ag))) (cR (aa 1) (cA (aj aR (aj ax (aa 2) (fC (.int 1))) (fC (.int 1)))) cQ))))
noncomputable def TZ (T:Nat->Fn):FS:=av (bq (gW (b5 (bN (aq (T 3) (af (aa 2) (af (fC (.int 0)) (af (aq cu (af (aa 1) ag)) ag)))))) (b5 (bN (aq (T 15) (af (aa 1) (af (aa 2) ag)))))) (aG (fC (.bl false))) aL) (av (bq (gW (aF (aj oLt (iD (aa 2)) (aq cu (af (aa 2) ag)))) (b5 (bN (aq (T 16) (af (aa 1) (af (aa 2) ag)))))) (aG (fC (.bl false))) aL) (aG (dS (aq (T 17) (af (aa 1) (af (aa 2) ag))) (aq (T 18) (af (aa 0) (af (aU aV (bu (aa 2)) [none,none,some 1] (gN 1) aN (aj ax (aa 2) (aa 1))) ag))))))
noncomputable def T1 (T:Nat->Fn):FS:=aG (aq eZ (af (aU aV (bu (aa 1)) [none,none,some 0] (gN 1) aN (aq (T 1) (af (aa 1) (af (fC (.int 0)) (af (aj (aP a_ (· - ·)) (aq cu (af (aa 2) ag)) (fC (.int 1))) ag))))) ag))
noncomputable def T2 (T:Nat->Fn):FS:=aG (aq eZ (af (aU aV (dY (aa 0)) [none,none,none,some 1] (gT 2 (au (gN 1) (au (gN 2) aM))) (aF (aj cD (aj ax (aa 2) (fC (.int 3))) (fC .az))) (aj hG (aa 1) (aa 3))) ag))
noncomputable def T3 (T:Nat->Fn):FS:=av (cj (dY (aa 1)) (gT 2 (au (gN 2) (au (gN 3) aM))) (bq (bN (aq js (af (aU aV (bu (cR (aa 1) cQ (cA (aa 2)))) [none,none,some 3,some 0] (gN 1) aN (aq (T 7) (af (aj ax (aa 3) (aa 2)) (af (aj ax (aa 3) (aa 1)) ag)))) ag))) (aG (fC (.bl false))) aL)) (aG (fC (.bl true)))
noncomputable def T4 (T:Nat->Fn):FS:=av (aA (aq (T 4) (af (aa 0) ag)) (gN 2)) (av (cj (bu (aa 1)) (gN 3) (av (bq (b5 (bN (aq (T 12) (af (aa 3) (af (aa 2) ag))))) (aG (fC (.bl false))) aL) (aA (aq (T 13) (af (aa 3) (af (aa 2) ag))) (gN 2)))) (aG (fC (.bl true))))
noncomputable def T5 (T:Nat->Fn):FS:=av (aA (aU aV (bu (aa 1)) [none,none] (gN 1) (aF (aj oEq (aj ax (aj ax (aa 1) (fC (.int 1))) (fC (.int 0))) (fC (.str "put")))) (aj ax (aj ax (aa 1) (fC (.int 1))) (fC (.int 2)))) (gN 3)) (av (bq (gW (b5 (bN (iy .tuple (aa 2)))) (b5 (bN (aq eZ (af (aU aV (bu (aa 2)) [none,none,some 0,some 1,some 3] (gN 1) aN (aq (T 21) (af (aa 2) (af (aa 3) (af (aa 4) (af (aa 1) ag)))))) ag))))) (aG (fC (.bl false))) aL) (av (aA hJ (gN 4)) (av (cj (bu (aa 2)) (gN 5) (aA (fC (.bl true)) (eR (aa 4) (aO aJ (af (aq (T 8) (af (aj ax (aa 5) (fC (.int 0))) ag)) (af (aj ax (aa 5) (fC (.int 1))) ag)))))) (aG (dS (aj hG (aO aJ (af (fC (.int 0)) (af (aq (T 4) (af (aa 0) ag)) ag))) (aa 4)) (aq (T 20) (af (aa 1) (af (aa 4) ag))))))))
noncomputable def T6 (T:Nat->Fn):FS:=av (aA (aq (T 10) (af (aa 0) ag)) (gN 2)) (av (aA (aq (T 9) (af (aa 0) ag)) (gN 3)) (av (j8 (i7 (aa 1)) (gT 2 (au (gN 4) (au (gN 5) aM))) (av (bq (aF (aj oEq (aj (aP a_ Z9) (aa 4) (aa 3)) (aa 3))) (aG (fC (.bl false))) aL) (bq (b5 (bN (aq eZ (af (aU aV (bu (aq (T 11) (af (aa 2) (af (aa 4) (af (aa 5) ag))))) [none,none,none,some 1] (gT 2 (au (gN 1) (au (gN 2) aM))) aN (aj hG (aa 2) (aa 3))) ag)))) (aG (fC (.bl false))) aL))) (aG (fC (.bl true)))))
noncomputable def T7 (T:Nat->Fn):FS:=av (bq (b5 (bN (aq (T 3) (af (aa 3) (af (fC (.int 2)) (af (fC (.int 2)) ag)))))) (aG (fC (.bl false))) aL) (aG (dS (aq (T 22) (af (aa 1) (af (aj ax (aa 3) (fC (.int 0))) ag))) (aq (T 23) (af (aa 0) (af (aa 2) (af (aj ax (aa 3) (fC (.int 1))) ag))))))
noncomputable def T8 (T:Nat->Fn):FS:=av (bq (gW (b5 (bN (aq (T 3) (af (aa 1) (af (fC (.int 0)) (af (aq cu (af (aa 0) ag)) ag)))))) (b5 (bN (aq (T 15) (af (aa 0) (af (aa 1) ag)))))) (aG (fC (.bl false))) aL) (aG (aq eZ (af (aU aV (sD (af (fC (.int 1)) (af (aq cu (af (aa 1) ag)) ag))) [none,none,some 1] (gN 1) aN (aj oLt (aj ax (aa 2) (aj (aP a_ (· - ·)) (aa 1) (fC (.int 1)))) (aj ax (aa 2) (aa 1)))) ag)))
noncomputable def T9 (T:Nat->Fn):FS:=av (bq (b5 (bN (aq (T 3) (af (aa 2) (af (aa 0) (af (aa 0) ag)))))) (aG (fC (.bl false))) aL) (aG (aq eZ (af (aU aV (bu (aa 2)) [none,none,some 1] (gN 1) aN (mw (aq (T 5) (af (aa 1) ag)) (aq js (af (aU aV (bu (aa 2)) [none,none,some 1] (gN 1) aN ck) ag)))) ag)))
noncomputable def T_ (T:Nat->Fn):FS:=av (aA (aO mkRef ag) (gN 2)) (av (mx 1000000 (aF (aj cD (aj ax (aa 0) (aa 1)) (fC .az))) (av (da (bX isRef cw (aa 2) (af (aj ax (aj ax (aa 0) (aa 1)) (fC (.int 0))) ag))) (aA (aj ax (aj ax (aa 0) (aa 1)) (fC (.int 1))) (gN 1)))) (aG (qb (aa 2))))
noncomputable def Ua (T:Nat->Fn):FS:=av (aA (aq (T 10) (af (aa 1) ag)) (gN 2)) (av (aA (aq (T 9) (af (aa 1) ag)) (gN 3)) (av (aA (aO aJ (af (fC (.int 0)) (af (aq (T 4) (af (aa 0) ag)) ag))) (gN 4)) (av (aA (gq [(aa 4,fC .az)]) (gN 5)) (av (aA (aO mkRef (af (aa 4) ag)) (gN 6)) (av (mx 1000000 (aF (aj oo (aq cu (af (aa 6) ag)) (fC (.int 0)))) (av (aA (bX isRef rn (aa 6) ag) (gN 7)) (av (bq (aF (aj oEq (aj (aP a_ Z9) (aj ax (aa 7) (fC (.int 0))) (aa 3)) (aa 3))) (aG (aO aJ (af (fC (.str "order")) (af (aq (T 24) (af (aa 5) (af (aa 7) ag))) ag)))) aL) (cj (bu (aq (T 11) (af (aa 2) (af (aj ax (aa 7) (fC (.int 0))) (af (aj ax (aa 7) (fC (.int 1))) ag))))) (gT 2 (au (gN 8) (au (gN 9) aM))) (bq (aF (aj gO (aa 9) (aa 5))) (av (aA (aO aJ (af (aa 8) (af (aa 7) ag))) (eR (aa 5) (aa 9))) (da (bX isRef cw (aa 6) (af (aa 9) ag)))) aL))))) (aG (aO aJ (af (fC (.str "none")) (af (aq cO (af (iW aV (i7 (aa 5)) [none,none,none,some 1] (gT 2 (au (gN 1) (au (gN 2) aM))) aN (aO aJ (af (aq (T 26) (af (aa 1) (af (aq cu (af (aa 3) ag)) ag))) (af (aa 2) ag)))) ag)) ag)))))))))
noncomputable def Ub (T:Nat->Fn):FS:=aG (aq cO (af (aU aV (fS (af (aa 1) ag)) [none,none,some 0] (gN 1) (aF (aj fF (aj (aP a_ Z9) (aa 2) (aj (aP cN (λi j=>i*2 ^ j.toNat)) (fC (.int 1)) (aa 1))) (fC (.int 0)))) (aa 1)) ag))
noncomputable def Uc (T:Nat->Fn):FS:=av (aA (fC (.int 0)) (gN 2)) (av (bq (aF (aj oLt (aa 1) (aq cu (af (aa 0) ag)))) (aA (aj ax (aa 0) (aa 1)) (gN 2)) aL) (aG (aO mkRef (af (aj b8 (aa 2) (aq fY (af (aj AH (aa 2) (aj (aP cN (λi j=>i ^ j.toNat)) (fC (.int 10)) (fC (.int 18)))) ag))) (af (aj aR (aj aR (aj (aP cC (· % ·)) (aa 2) (fC (.int 2305843009213693951))) (aj b8 (fC (.int 7919)) (aa 1))) (fC (.int 3))) (af (fC (.int 0)) ag))))))
noncomputable def Ud (T:Nat->Fn):FS:=av (bq (aF (aj oo (aj ax (aa 0) (fC (.int 0))) (fC (.int 0)))) (av (aA (aj (aP cC (· % ·)) (aj ax (aa 0) (fC (.int 0))) (aa 1)) (gN 2)) (av (aA (aj (aP fM (· / ·)) (aj ax (aa 0) (fC (.int 0))) (aa 1)) (eR (aa 0) (fC (.int 0)))) (aG (aa 2)))) aL) (av (aA (aj aR (aj ax (aa 0) (fC (.int 2))) (fC (.int 1))) (eR (aa 0) (fC (.int 2)))) (av (aA (aj ax (aa 0) (fC (.int 2))) (gN 3)) (av (aA (aj (aP cC (· % ·)) (aj b8 (aj ax (aa 0) (fC (.int 1))) (aj aR (aj aR (fC (.int 48271)) (aj b8 (aj b8 (fC (.int 2)) (aa 3)) (aa 3))) (aj b8 (fC (.int 65537)) (aa 3)))) (fC (.int 2305843009213693921))) (gN 4)) (av (aA (aj aR (aj aR (aj (aP cC (· % ·)) (aa 4) (fC (.int 1000003))) (aj b8 (aa 3) (fC (.int 99991)))) (fC (.int 11))) (gN 5)) (av (aA (aj (aP cC (· % ·)) (aj b8 (aa 4) (aa 5)) (fC (.int 2305843009213693907))) (gN 4)) (aG (aj (aP cC (· % ·)) (aj aR (aj (aP fM (· / ·)) (aa 4) (fC (.int 97))) (aj (aP fM (· / ·)) (aa 4) (fC (.int 1000033)))) (aa 1))))))))
noncomputable def Ue (T:Nat->Fn):FS:=aG (aj ax (aa 1) (aq (T 28) (af (aa 0) (af (aq cu (af (aa 1) ag)) ag))))
noncomputable def Ug (T:Nat->Fn):FS:=aG (aq (T 29) (af (aa 0) (af (aO c_ (af (fC (.int 1)) (af (fC (.int 1)) (af (fC (.int 2)) (af (fC (.int 3)) (af (fC (.int 0)) (af (aO aJ ag) (af (aO aJ (af (fC (.int 1)) (af (fC (.int 2)) ag))) (af (uG oP (fC (.int 5))) ag))))))))) ag)))
noncomputable def Uh (T:Nat->Fn):FS:=av (aA (aO aJ (af (aO mkRef ag) (af (fC (.int 0)) (af hJ (af hJ ag))))) (gT 4 (au (gN 3) (au (gN 4) (au (gN 5) (au (gN 6) aM)))))) (av (aA (aq (T 29) (af (aa 0) (af (aO c_ (af (fC (.int 1)) (af (fC (.int 2)) (af (fC (.int 3)) (af (fC (.int 3)) (af (fC (.int 4)) (af (fC (.int 5)) ag))))))) ag))) (gN 7)) (av (cj (fS (af (aq (T 28) (af (aa 0) (af (aj aR (aa 2) (fC (.int 1))) ag))) ag)) (gN 8) (av (aA (aj aR (aa 4) (aq (T 29) (af (aa 0) (af (aO c_ (af (fC (.int 0)) (af (fC (.int 1)) (af (fC (.int 1)) (af (fC (.int 2)) (af (fC (.int 5)) ag)))))) ag)))) (gN 4)) (av (aA (aU aV (fS (af (aa 7) ag)) [none,none,some 4,some 6,some 5] (gN 1) (fX (aF (aj gO (aa 1) (aa 4))) (aF (aj oLe (bX fg i6 (aa 3) (af (aa 1) (af (fC (.int 0)) ag))) (aa 2)))) (aa 1)) (gN 9)) (bq (aF (aj fF (aa 9) (aO c_ ag))) (av (aA (aq (T 29) (af (aa 0) (af (aa 9) ag))) (gN 10)) (av (aA (aj aR (aj aR (aa 4) (fC (.int 1))) (aq (T 29) (af (aa 0) (af (aO c_ (af (fC (.int 0)) (af (fC (.int 1)) (af (fC (.int 2)) (af (fC (.int 4)) (af (fC (.int 9)) ag)))))) ag)))) (eR (aa 6) (aa 10))) (av (aA (aj aR (aj aR (aj b8 (fC (.int 4)) (aa 4)) (fC (.int 1))) (aq (T 28) (af (aa 0) (af (aj (aP a_ (· - ·)) (aj b8 (fC (.int 4)) (aj (aP a_ (· - ·)) (aj ax (aa 6) (aa 10)) (aa 4))) (fC (.int 1))) ag)))) (gN 11)) (av (aA (aO aJ (af (fC (.str "look")) ag)) (gN 12)) (av (bq (aF (aj oLt (aq (T 28) (af (aa 0) (af (fC (.int 5)) ag))) (fC (.int 3)))) (aA (aO aJ (af (fC (.str "put")) (af (aq (T 28) (af (aa 0) (af (aa 1) ag))) (af (aq (T 30) (af (aa 0) ag)) ag)))) (gN 12)) aL) (av (bq (aF (aj oEq (aq (T 28) (af (aa 0) (af (fC (.int 8)) ag))) (fC (.int 0)))) (aA (fC (.bl true)) (eR (aa 5) (aa 10))) aL) (da (bX isRef cw (aa 3) (af (aO aJ (af (aa 11) (af (aa 8) (af (aO aJ (af (aa 10) (af (aa 12) (af (aa 4) (af (oK (aF (aj hG (aa 10) (aa 5))) (fC .az) (aj ax (aa 6) (aa 10))) ag))))) ag)))) ag))))))))) aL)))) (aG (aa 3))))
noncomputable def Ui (T:Nat->Fn):FS:=av (aA (aO aJ (af (aj b8 (aO aJ (af (fC (.int 0)) ag)) (aa 0)) (af hJ (af (aO mkRef ag) ag)))) (gT 3 (au (gN 2) (au (gN 3) (au (gN 4) aM))))) (av (cj (bu (aq gv (af (aa 1) ag))) (gT 3 (au (gN 5) (au (gN 6) (au (gT 4 (au (gN 7) (au (gN 8) (au (gN 9) (au (gN 10) aM))))) aM)))) (av (bq (aF (aj oEq (aj ax (aa 8) (fC (.int 0))) (fC (.str "put")))) (aA (aj aR (aj aR (cR (aa 2) cQ (cA (aj ax (aa 8) (fC (.int 1))))) (aO aJ (af (aj ax (aa 8) (fC (.int 2))) ag))) (cR (aa 2) (cA (aj aR (aj ax (aa 8) (fC (.int 1))) (fC (.int 1)))) cQ)) (gN 2)) aL) (av (bq (gW (aF (aj oEq (aj ax (aa 8) (fC (.int 0))) (fC (.str "put")))) (aF (aj cD (aa 10) (fC .az)))) (da (bX isRef cw (aa 4) (af (aa 6) ag))) aL) (bq (fX (aF (aj oEq (aj ax (aa 8) (fC (.int 0))) (fC (.str "look")))) (aF (aj cD (aa 10) (fC .az)))) (aA (aa 2) (eR (aa 3) (aa 6))) aL)))) (av (aA (aU aV (bu (aa 1)) [none,none,none,none] (gT 3 (au (gN 1) (au (gN 2) (au (gN 3) aM)))) aN (aa 2)) (gN 11)) (aG (aO aJ (af (aq cO (af (aU aV (bu (aa 1)) [none,none,none,none,some 3] (gT 3 (au (gN 1) (au (gN 2) (au (gN 3) aM)))) aN (aj aR (aa 3) (aO aJ (af (bX fg i6 (aa 4) (af (aa 2) ag)) ag)))) ag)) (af (aq cO (af (fH aV (mJ (aa 4)) [none,none,some 11] (gN 1) aN (bX dB cP (aa 2) (af (aa 1) ag))) ag)) ag))))))
noncomputable def Uj (T:Nat->Fn):FS:=av (aA (aq nu (af (aa 2) ag)) (gN 3)) (av (cj (fS (af (aj b8 (aq (T 29) (af (aa 0) (af (aO c_ (af (fC (.int 0)) (af (fC (.int 1)) (af (fC (.int 1)) (af (fC (.int 2)) (af (fC (.int 3)) ag)))))) ag))) (aq fY (af (aj mP (aa 3) (aO c_ ag)) ag))) ag)) (gN 4) (av (aA (aq (T 28) (af (aa 0) (af (aq cu (af (aa 3) ag)) ag))) (gN 5)) (av (aA (aj ax (aa 3) (aa 5)) (gT 5 (au (gN 6) (au (gN 7) (au (gN 8) (au (gN 9) (au (gN 10) aM))))))) (bq (aF (aj cD (aa 10) (fC .az))) (av (aA (aq (T 28) (af (aa 0) (af (aa 1) ag))) (gN 11)) (av (aA (fH aV (mJ (aa 3)) [none,none] (gN 1) (aF (aj cD (aj ax (aa 1) (fC (.int 4))) (fC .az))) (aj ax (aa 1) (fC (.int 4)))) (gN 12)) (av (aA (aj aR (aj aR (cR (aa 10) cQ (cA (aa 11))) (aO aJ (af (aq (T 30) (af (aa 0) ag)) ag))) (cR (aa 10) (cA (aj aR (aa 11) (fC (.int 1)))) cQ)) (gN 13)) (aA (aO aJ (af (aa 6) (af (aa 7) (af (aa 8) (af (aa 9) (af (aq (T 29) (af (aa 0) (af (aO c_ (af (aa 13) (af (aq (T 29) (af (aa 0) (af (aa 12) ag))) ag))) ag))) ag)))))) (eR (aa 3) (aa 5)))))) aL)))) (aG (aq cO (af (aa 3) ag))))
noncomputable def Uk (T:Nat->Fn):FS:=aG (aq cO (af (aU aV (bu (aa 0)) [none,none] (gN 1) aN (aj aR (cR (aa 1) cQ (cA (fC (.int 2)))) (aO aJ (af (aj b8 (fC (.int 3)) (aj ax (aa 1) (fC (.int 2)))) (af (oK (aF (aj xw (aj ax (aa 1) (fC (.int 3))) (fC .az))) (fC .az) (aj b8 (fC (.int 3)) (aj ax (aa 1) (fC (.int 3))))) (af (aj ax (aa 1) (fC (.int 4))) ag)))))) ag))
noncomputable def Ul (T:Nat->Fn):FS:=av (aA (aO mkRef ag) (gN 2)) (av (cj (dY (cR (aa 1) cQ (cA (fC (.int 10))))) (gT 2 (au (gN 3) (au (gT 5 (au (gN 4) (au (gN 5) (au (gN 6) (au (gN 7) (au (gN 8) aM)))))) aM))) (av (aA (aq mE (af (fC (.int 0)) (af (aj (aP a_ (· - ·)) (aa 6) (aq (T 28) (af (aa 0) (af (fC (.int 3)) ag)))) ag))) (gN 6)) (av (bq (aF (aj cD (aa 7) (fC .az))) (aA (aj aR (aa 7) (aq (T 28) (af (aa 0) (af (fC (.int 4)) ag)))) (gN 7)) aL) (av (bq (fX (aF (aj oEq (aj ax (aa 5) (fC (.int 0))) (fC (.str "put")))) (aF (aj oEq (aq (T 28) (af (aa 0) (af (fC (.int 6)) ag))) (fC (.int 0))))) (aA (fC .az) (gN 7)) aL) (da (bX isRef cw (aa 2) (af (aO aJ (af (aa 6) (af (aa 3) (af (aO aJ (af (aa 3) (af (aa 5) (af (aa 6) (af (aa 7) (af (aa 8) ag)))))) ag)))) ag))))))) (aG (aO aJ (af (aq cO (af (aU aV (bu (aq gv (af (aa 2) ag))) [none,none,none,none] (gT 3 (au (gN 1) (au (gN 2) (au (gN 3) aM)))) aN (aa 3)) ag)) (af (aU aV (bu (aq gv (af (aa 2) ag))) [none,none,none,none] (gT 3 (au (gN 1) (au (gN 2) (au (gN 3) aM)))) aN (aa 2)) ag)))))
noncomputable def Um (T:Nat->Fn):FS:=av (aA (aq (T 28) (af (aa 0) (af (aa 1) ag))) (gN 3)) (av (aA (aU aV (fS (af (aa 1) ag)) [none,none,some 1,some 3] (gN 1) aN (aj (aP cC (· % ·)) (aj aR (aa 1) (aa 3)) (aa 2))) (gN 4)) (av (aA (gq [(fC (.int 0),fC (.int 0))]) (gN 5)) (av (cj (bu (aa 2)) (gN 6) (cj (bu (aj aR (qW (aj ax (aa 6) (fC (.int 4))) (aO aJ ag)) (cR (aj ax (aa 6) (fC (.int 1))) (cA (fC (.int 2))) cQ))) (gN 7) (da (bX fg iE (aa 5) (af (aa 7) (af (aO aJ (af (aq lA (af (aa 5) ag)) (af (fC (.int 7)) ag))) ag)))))) (av (aA (aO mkRef ag) (gN 8)) (av (cj (bu (aa 2)) (gT 5 (au (gN 9) (au (gN 10) (au (gN 11) (au (gN 12) (au (gN 13) aM)))))) (av (bq (aF (aj oEq (aj ax (aa 10) (fC (.int 0))) (fC (.str "put")))) (aA (aO aJ (af (fC (.str "put")) (af (aj ax (aa 4) (aj ax (aa 10) (fC (.int 1)))) (af (aj ax (aa 5) (aj ax (aa 10) (fC (.int 2)))) ag)))) (gN 10)) (bq (aF (aj cD (aa 13) (fC .az))) (aA (aq cO (af (aU aV (fS (af (aa 1) ag)) [none,none,some 5,some 4,some 13] (gN 1) aN (aj ax (aa 2) (aj ax (aa 4) (bX dB cP (aa 3) (af (aa 1) ag))))) ag)) (gN 13)) aL)) (da (bX isRef cw (aa 8) (af (aO aJ (af (aa 9) (af (aa 10) (af (aa 11) (af (aa 12) (af (aa 13) ag)))))) ag))))) (aG (aq cO (af (aa 8) ag))))))))
noncomputable def Uo (T:Nat->Fn):FS:=av (aA (aq (T 35) (af (aa 0) (af (aa 2) ag))) (gT 2 (au (gN 4) (au (gN 5) aM)))) (av (bq (fX (aF (aj oLt (aq cu (af (aa 2) ag)) (fC (.int 11)))) (b5 (bN (aq (T 14) (af (aa 1) (af (aa 4) (af (aq cO (af (aU aV (bu (aa 3)) [none,none,some 5] (gN 1) aN (bX dB cP (aa 2) (af (aa 1) ag))) ag)) ag))))))) (aG (fC (.bl false))) aL) (av (cj (dY (aa 2)) (gT 2 (au (gN 6) (au (gN 7) aM))) (bq (aF (aj oEq (aj ax (aj ax (aa 7) (fC (.int 1))) (fC (.int 0))) (fC (.str "look")))) (av (aA (aq cO (af (aU aV (bu (aa 3)) [none,none,some 6] (gN 1) (aF (aj fF (aa 1) (aa 2))) (aj (aP a_ (· - ·)) (aa 1) (aq fY (af (aj oo (aa 1) (aa 2)) ag)))) ag)) (gN 8)) (bq (b5 (bN (aq (T 14) (af (aa 1) (af (aj aR (cR (aa 2) cQ (cA (aa 6))) (cR (aa 2) (cA (aj aR (aa 6) (fC (.int 1)))) cQ)) (af (aa 8) ag)))))) (aG (fC (.bl false))) aL)) aL)) (aG (fC (.bl true)))))
noncomputable def N8 (T:Nat->Fn):FS:=av (cj (fS (af (aq mE (af (fC (.int 1)) (af (aq qQ (af (fC (.int 4)) (af (aq cu (af (aa 0) ag)) ag))) ag))) ag)) (gN 1) (av (aA (aq (T 27) (af (aa 0) (af (aa 1) ag))) (gN 2)) (av (aA (aj aR (fC (.int 1)) (aq (T 28) (af (aa 2) (af (fC (.int 5)) ag)))) (gN 3)) (av (aA (aq (T 33) (af (aa 2) (af (aa 3) (af (aj ax (aq (T 32) (af (aa 3) (af (aq (T 31) (af (aa 2) (af (aa 3) (af (fC (.int 9)) ag)))) ag))) (fC (.int 0))) ag)))) (gN 4)) (av (aA (aq (T 25) (af (aa 3) (af (aa 4) ag))) (gT 2 (au (gN 5) (au (gN 6) aM)))) (av (aA (aq (T 36) (af (aa 2) (af (aa 3) (af (aa 4) ag)))) (gN 7)) (bq (aF (aj oEq (aa 5) (fC (.str "none")))) (bq (gW (b5 (bN (aq (T 19) (af (aa 3) (af (aq (T 34) (af (aa 4) ag)) (af (aa 6) ag)))))) (aF (aj fF (aj ax (aq (T 25) (af (aa 3) (af (aa 7) ag))) (fC (.int 0))) (fC (.str "none"))))) (aG (fC (.bl false))) aL) (bq (gW (b5 (bN (aq (T 37) (af (aa 2) (af (aa 3) (af (aa 4) (af (aa 6) ag))))))) (b5 (bN (aq (T 14) (af (aa 3) (af (aa 7) (af (aa 6) ag))))))) (aG (fC (.bl false))) (bq (b5 (bN (aq (T 14) (af (aa 3) (af (aq (T 34) (af (aa 4) ag)) (af (aa 6) ag)))))) (aG (fC (.bl false))) aL))))))))) (aG (fC (.bl true)))
noncomputable def tab:Nat->Nat->Fn
 | 0,_=>λ_ _=>none
 |k+1,0=>(aC false 1 1 (X3 (tab k)))
 |k+1,1=>(aC false 3 3 (X4 (tab k)))
 |k+1,2=>(aC false 2 2 (X5 (tab k)))
 |k+1,3=>(aC false 3 3 (X6 (tab k)))
 |k+1,4=>(aC false 1 1 (X7 (tab k)))
 |k+1,5=>(aC false 1 1 (X8 (tab k)))
 |k+1,6=>(aC false 2 2 (X9 (tab k)))
 |k+1,7=>(aC false 2 2 (X_ (tab k)))
 |k+1,8=>(aC false 1 1 (Ya (tab k)))
 |k+1,9=>(aC false 1 1 (Yb (tab k)))
 |k+1,10=>(aC false 5 1 (TU (tab k)))
 |k+1,11=>(aC false 8 3 (TV (tab k)))
 |k+1,12=>(aC false 2 2 (TX (tab k)))
 |k+1,13=>(aC false 3 2 (TY (tab k)))
 |k+1,14=>(aC false 3 3 (TZ (tab k)))
 |k+1,15=>(aC false 2 2 (T1 (tab k)))
 |k+1,16=>(aC false 2 2 (T2 (tab k)))
 |k+1,17=>(aC false 4 2 (T3 (tab k)))
 |k+1,18=>(aC false 4 2 (T4 (tab k)))
 |k+1,19=>(aC false 6 3 (T5 (tab k)))
 |k+1,20=>(aC false 6 2 (T6 (tab k)))
 |k+1,21=>(aC false 4 4 (T7 (tab k)))
 |k+1,22=>(aC false 2 2 (T8 (tab k)))
 |k+1,23=>(aC false 3 3 (T9 (tab k)))
 |k+1,24=>(aC false 3 2 (T_ (tab k)))
 |k+1,25=>(aC false 10 2 (Ua (tab k)))
 |k+1,26=>(aC false 2 2 (Ub (tab k)))
 |k+1,27=>(aC true 3 2 (Uc (tab k)))
 |k+1,28=>(aC false 6 2 (Ud (tab k)))
 |k+1,29=>(aC false 2 2 (Ue (tab k)))
 |k+1,30=>(aC false 1 1 (Ug (tab k)))
 |k+1,31=>(aC false 13 3 (Uh (tab k)))
 |k+1,32=>(aC false 12 2 (Ui (tab k)))
 |k+1,33=>(aC false 14 3 (Uj (tab k)))
 |k+1,34=>(aC false 1 1 (Uk (tab k)))
 |k+1,35=>(aC false 9 2 (Ul (tab k)))
 |k+1,36=>(aC false 14 3 (Um (tab k)))
 |k+1,37=>(aC false 9 4 (Uo (tab k)))
 |k+1,38=>(aC false 8 1 (N8 (tab k)))
 |_+1,_=>λ_ _=>none
theorem Yc (k:Nat):tab (k+1) 0=NX.run mo (tab k) k:=by kernel_rfl
theorem Yd (k:Nat):tab (k+1) 1=NY.run mo (tab k) k:=by kernel_rfl
theorem Ye (k:Nat):tab (k+1) 2=NZ.run mo (tab k) k:=by kernel_rfl
theorem Yf (k:Nat):tab (k+1) 3=N1.run mo (tab k) k:=by kernel_rfl
theorem Yg (k:Nat):tab (k+1) 4=N2.run mo (tab k) k:=by kernel_rfl
theorem Yh (k:Nat):tab (k+1) 5=N3.run mo (tab k) k:=by kernel_rfl
theorem Yi (k:Nat):tab (k+1) 6=N4.run mo (tab k) k:=by kernel_rfl
theorem Yj (k:Nat):tab (k+1) 7=N5.run mo (tab k) k:=by kernel_rfl
theorem Yk (k:Nat):tab (k+1) 8=N6.run mo (tab k) k:=by kernel_rfl
theorem Yl (k:Nat):tab (k+1) 9=N7.run mo (tab k) k:=by kernel_rfl
theorem Up (k:Nat):tab (k+1) 10=F_.run mo (tab k) k:=by kernel_rfl
theorem Uq (k:Nat):tab (k+1) 11=Ga.run mo (tab k) k:=by kernel_rfl
theorem Ur (k:Nat):tab (k+1) 12=Gb.run mo (tab k) k:=by kernel_rfl
theorem Us (k:Nat):tab (k+1) 13=Ge.run mo (tab k) k:=by kernel_rfl
theorem Ut (k:Nat):tab (k+1) 14=Gf.run mo (tab k) k:=by kernel_rfl
theorem Uu (k:Nat):tab (k+1) 15=Gg.run mo (tab k) k:=by kernel_rfl
theorem Uv (k:Nat):tab (k+1) 16=Gh.run mo (tab k) k:=by kernel_rfl
theorem Uw (k:Nat):tab (k+1) 17=Gi.run mo (tab k) k:=by kernel_rfl
theorem Ux (k:Nat):tab (k+1) 18=Gj.run mo (tab k) k:=by kernel_rfl
theorem Uy (k:Nat):tab (k+1) 19=Gk.run mo (tab k) k:=by kernel_rfl
theorem Uz (k:Nat):tab (k+1) 20=Gm.run mo (tab k) k:=by kernel_rfl
theorem UA (k:Nat):tab (k+1) 21=Gn.run mo (tab k) k:=by kernel_rfl
theorem UB (k:Nat):tab (k+1) 22=Gp.run mo (tab k) k:=by kernel_rfl
theorem UC (k:Nat):tab (k+1) 23=Gq.run mo (tab k) k:=by kernel_rfl
theorem UD (k:Nat):tab (k+1) 24=Gr.run mo (tab k) k:=by kernel_rfl
theorem UE (k:Nat):tab (k+1) 25=Gs.run mo (tab k) k:=by kernel_rfl
theorem UG (k:Nat):tab (k+1) 26=Gu.run mo (tab k) k:=by kernel_rfl
theorem UH (k:Nat):tab (k+1) 27=Gv.run mo (tab k) k:=by kernel_rfl
theorem UI (k:Nat):tab (k+1) 28=Gw.run mo (tab k) k:=by kernel_rfl
theorem UJ (k:Nat):tab (k+1) 29=Gx.run mo (tab k) k:=by kernel_rfl
theorem UK (k:Nat):tab (k+1) 30=Gy.run mo (tab k) k:=by kernel_rfl
theorem UL (k:Nat):tab (k+1) 31=Gz.run mo (tab k) k:=by kernel_rfl
theorem UM (k:Nat):tab (k+1) 32=GA.run mo (tab k) k:=by kernel_rfl
theorem UN (k:Nat):tab (k+1) 33=GB.run mo (tab k) k:=by kernel_rfl
theorem UO (k:Nat):tab (k+1) 34=GC.run mo (tab k) k:=by kernel_rfl
theorem UP (k:Nat):tab (k+1) 35=GD.run mo (tab k) k:=by kernel_rfl
theorem UQ (k:Nat):tab (k+1) 36=GF.run mo (tab k) k:=by kernel_rfl
theorem UR (k:Nat):tab (k+1) 37=GG.run mo (tab k) k:=by kernel_rfl
theorem US (k:Nat):tab (k+1) 38=GH.run mo (tab k) k:=by kernel_rfl
theorem good:Good mo tab:=⟨λ_ _ _=>rfl,λk j d h=>by
 match j,h with
 | 0,h=>cases h;exact Yc k
 | 1,h=>cases h;exact Yd k
 | 2,h=>cases h;exact Ye k
 | 3,h=>cases h;exact Yf k
 | 4,h=>cases h;exact Yg k
 | 5,h=>cases h;exact Yh k
 | 6,h=>cases h;exact Yi k
 | 7,h=>cases h;exact Yj k
 | 8,h=>cases h;exact Yk k
 | 9,h=>cases h;exact Yl k
 | 10,h=>cases h;exact Up k
 | 11,h=>cases h;exact Uq k
 | 12,h=>cases h;exact Ur k
 | 13,h=>cases h;exact Us k
 | 14,h=>cases h;exact Ut k
 | 15,h=>cases h;exact Uu k
 | 16,h=>cases h;exact Uv k
 | 17,h=>cases h;exact Uw k
 | 18,h=>cases h;exact Ux k
 | 19,h=>cases h;exact Uy k
 | 20,h=>cases h;exact Uz k
 | 21,h=>cases h;exact UA k
 | 22,h=>cases h;exact UB k
 | 23,h=>cases h;exact UC k
 | 24,h=>cases h;exact UD k
 | 25,h=>cases h;exact UE k
 | 26,h=>cases h;exact UG k
 | 27,h=>cases h;exact UH k
 | 28,h=>cases h;exact UI k
 | 29,h=>cases h;exact UJ k
 | 30,h=>cases h;exact UK k
 | 31,h=>cases h;exact UL k
 | 32,h=>cases h;exact UM k
 | 33,h=>cases h;exact UN k
 | 34,h=>cases h;exact UO k
 | 35,h=>cases h;exact UP k
 | 36,h=>cases h;exact UQ k
 | 37,h=>cases h;exact UR k
 | 38,h=>cases h;exact US k
 |j+39,h=>exact absurd h (by simp[mo,ds]),λd hd=>Bn (show xX ds=true by decide +kernel) d hd⟩
end K54
namespace K54
open PySem L3 L2 Pd Od Sd RI
theorem Ym (k:Nat):rF (tab (k+1) 0):=DU
theorem N9 (k:Nat):lB (tab (k+2) 1):=BC (Ym k)
theorem Ry (k:Nat):iY (tab (k+3) 2):=zt (N9 k)
theorem wL (k:Nat):eK (tab (k+1) 3):=zu
theorem N_ (k:Nat):∀n,vS (tab (k+4+n) 6) n
 | 0=>Mp (Ry k)
 |n+1=>Mq (show iY (tab (k+4+n) 2) by rw[show k+4+n=(k+1+n)+3 by omega];exact Ry _) (show eK (tab (k+4+n) 3) by rw[show k+4+n=(k+3+n)+1 by omega];exact wL _) (N_ k n)
theorem Yn (k:Nat):zr (tab (k+8) 5):=Mr (N_ k 3)
theorem Oa (k:Nat)(h0:0<=p)(h1:p<=100):kM p (tab (k+1) 4):=D8 h0 h1
theorem Ob (k:Nat)(p:Int):iG p (tab (k+1) 7):=DX
theorem Oc (k:Nat):mX (tab (k+1) 8):=IV
theorem UT (k:Nat):nQ (tab (k+1) 8):=El
theorem Oe (k:Nat):t6 (tab (k+2) 9):=MS (Oc k)
theorem Of (k:Nat)(p:Int):qz p (tab (k+2) 10):=IW (Ob k p) (Oc k)
theorem Og (k:Nat)(p:Int):jS p (tab (k+1) 12):=IL
theorem Oh (k:Nat)(h1:p<=100):iH p (tab (k+1) 13):=BH h1
theorem Oi (k:Nat)(h1:p<=100):jB p (tab (k+2) 11):=Ei (Og k p) (Oh k h1)
theorem UU (k:Nat)(xs:List Rt)(p:Int):t8 xs p (tab (k+1) 24):=M4
theorem UW (k:Nat):jv (tab (k+1) 26):=P2
theorem Oj (k:Nat)(h0:0<=p)(h1:p<=100):F1 p (tab (k+3) 25):=Nb h0 (Oa (k+1) h0 h1) (Of k p) (Oe k) (Oi k h1) (λxs=>UU (k+1) xs p) (UW (k+1))
theorem Ol (k:Nat):tZ (tab (k+3) 15):=ME (N9 k)
theorem UX (k:Nat)(p:Int):rM p (tab (k+1) 16):=D9
theorem UY (k:Nat)(p:Int):rN p (tab (k+2) 17):=D_ (Ob k p)
theorem UZ (k:Nat)(h0:0<=p)(h1:p<=100):mV p (tab (k+2) 18):=zy h0 (Oa k h0 h1) (Og k p) (Oh k h1)
theorem Er (k:Nat)(h0:0<=p)(h1:p<=100):kO p (tab (k+4) 14):=Eb (wL (k+2)) (Ol k) (UX (k+2) p) (UY (k+1) p) (UZ (k+1) h0 h1)
theorem U0 (k:Nat):zF (tab (k+4) 22):=Nc (wL (k+2)) (Ol k)
theorem U1 (k:Nat)(h1:p<=100):zH p (tab (k+9) 23):=Nd h1 (wL (k+7)) (Yn k)
theorem U2 (k:Nat)(h1:p<=100):qE p (tab (k+10) 21):=I_ (wL (k+8)) (U0 (k+5)) (U1 k h1)
theorem U3 (k:Nat)(h1:p<=100)(xs:List Rt)(hx:∀x∈xs,aS p x)(hn:xs.length<=100):zJ xs p (tab (k+3) 20):=Nh hx hn (Of k p) (Oe k) (Oi k h1)
theorem U4 (k:Nat)(h0:0<=p)(h1:p<=100):F3 p (tab (k+11) 19):=Np h0 (UT (k+9)) (Oa (k+9) h0 h1) (U2 k h1) (λxs hx hn=>U3 (k+7) h1 xs hx hn)
theorem Yo (k:Nat):qf (tab (k+1) 27):=IB
theorem wM (k:Nat):dZ (tab (k+1) 28):=Iz
theorem Om (k:Nat):gw (tab (k+2) 29):=IA (wM k)
theorem Oo (k:Nat):gy (tab (k+3) 30):=IE (Om k)
theorem Rz (k:Nat):tab (k+4) 31=aC false 13 3 (vX (tab (k+3) 28) (tab (k+3) 29) (tab (k+3) 30)):=rfl
theorem RA (k:Nat):tab (k+1) 32=aC false 12 2 vY:=rfl
theorem RC (k:Nat):tab (k+4) 33=aC false 14 3 (wb (tab (k+3) 28) (tab (k+3) 29) (tab (k+3) 30)):=rfl
theorem Oq (k:Nat):wH p (tab (k+1) 34):=B9
theorem U5 (k:Nat)(p:Int):yj p (tab (k+2) 35):=fun {n B g xs Q} hB hx hl hd hc q=>Ji (wM k) hB hx hl hd hc q
theorem Ot (k:Nat):tab (k+2) 36=aC false 14 3 (nU (tab (k+1) 28)):=rfl
theorem RD (k:Nat):tab (k+1) 37=aC false 9 4 (zL (tab k 35) (tab k 14)):=rfl
noncomputable def Ou (T:Nat->Fn):FS:=bq (gW (b5 (bN (aq (T 19) (af (aa 3) (af (aq (T 34) (af (aa 4) ag)) (af (aa 6) ag)))))) (aF (aj fF (aj ax (aq (T 25) (af (aa 3) (af (aa 7) ag))) (fC (.int 0))) (fC (.str "none"))))) (aG (fC (.bl false))) aL
noncomputable def Ov (T:Nat->Fn):FS:=bq (gW (b5 (bN (aq (T 37) (af (aa 2) (af (aa 3) (af (aa 4) (af (aa 6) ag))))))) (b5 (bN (aq (T 14) (af (aa 3) (af (aa 7) (af (aa 6) ag))))))) (aG (fC (.bl false))) (bq (b5 (bN (aq (T 14) (af (aa 3) (af (aq (T 34) (af (aa 4) ag)) (af (aa 6) ag)))))) (aG (fC (.bl false))) aL)
noncomputable def wN (T:Nat->Fn):FS:=bq (aF (aj oEq (aa 5) (fC (.str "none")))) (Ou T) (Ov T)
noncomputable def iter (T:Nat->Fn):FS:=av (aA (aq (T 27) (af (aa 0) (af (aa 1) ag))) (gN 2)) (av (aA (aj aR (fC (.int 1)) (aq (T 28) (af (aa 2) (af (fC (.int 5)) ag)))) (gN 3)) (av (aA (aq (T 33) (af (aa 2) (af (aa 3) (af (aj ax (aq (T 32) (af (aa 3) (af (aq (T 31) (af (aa 2) (af (aa 3) (af (fC (.int 9)) ag)))) ag))) (fC (.int 0))) ag)))) (gN 4)) (av (aA (aq (T 25) (af (aa 3) (af (aa 4) ag))) (gT 2 (au (gN 5) (au (gN 6) aM)))) (av (aA (aq (T 36) (af (aa 2) (af (aa 3) (af (aa 4) ag)))) (gN 7)) (wN T)))))
noncomputable def GI (T:Nat->Fn):FS:=av (cj (fS (af (aq mE (af (fC (.int 1)) (af (aq qQ (af (fC (.int 4)) (af (aq cu (af (aa 0) ag)) ag))) ag))) ag)) (gN 1) (iter T)) (aG (fC (.bl true)))
theorem Ow (T:Nat->Fn):N8 T=GI T:=rfl
noncomputable abbrev S8 (s:Option D)(o1:Option D)(n:Nat)(p:Nat)(xs:List Rt)(w t nn:Option D):Sg:=[s,o1,some (.ref n),some (.int (p:Nat)),some (.tup (xs.map rt)),w,t,nn]
theorem Ox:oEq (.str "none") (.str "none") g=some (.bl true,g)/\oEq (.str "order") (.str "none") g=some (.bl false,g):=by
 have:¬(ZW "order" = ZW "none"):=by decide
 constructor<;>(unfold oEq;simp[flat,dep,Pd.eq_str,this])
theorem P_ {k p t:Nat}{xs:List Rt}{vs:List D}{es:List (aQ×D)}{g:G}(k0:0<p)(hk:p<=5)(ht:t<p)(hx:∀x∈xs,aS (p:Int) x)(hl:xs.length<=10)(hc:Clean g)(N:cW vs)(kn:∀x∈xs,Known vs x)(C:dq xs p es)(hC:i5 xs p es):
  Ou (tab (k+11)) (S8 s o1 n p xs (some (.str "none")) (some (.tup ((keys es).map (bL xs)))) (some (.tup ((xs.map (cG p t vs)).map rt)))) g=some (.nx,S8 s o1 n p xs (some (.str "none")) (some (.tup ((keys es).map (bL xs)))) (some (.tup ((xs.map (cG p t vs)).map rt))),g):=by
 have q0:(0:Int)<=p:=by omega
 have q1:(p:Int)<=100:=by omega
 have gx:∀x∈xs.map (cG p t vs),aS (p:Int) x:=λx hm=>by
  obtain⟨y,hy,rfl⟩:=Zu.mp hm
  exact zK N k0 (hx y hy) (kn y hy)
 have g3:∀x∈xs.map x3,aS (p:Int) x:=λx hm=>by
  obtain⟨y,hy,rfl⟩:=Zu.mp hm
  exact Nr (hx y hy)
 have e1:=Oq (p:=(p:Int)) (k+10) xs g hx (by omega)
 have bx:=zD q0 hx (by omega:xs.length<=12)
 have e2:=(U4 k q0 q1).ok (xs.map x3) es g g3 (by simp;omega) (Jc C) (bx es C) (B7 hC) hc
 have en:(keys es).map (bL (xs.map x3))=(keys es).map (bL xs):=aar λr _=>by simp[bL]
 rw[en]at e2
 obtain⟨d,eo,_,ho⟩:=Oj (k+8) q0 q1 (xs.map (cG p t vs)) g gx (by simp;omega) (zD q0 gx (by simp;omega)) hc
 have hd:∃t',d = .tup [.str "none",t']:=by
  rcases ho with⟨ks,v,e,hP,hE⟩|⟨bY,e,_,_⟩
  . have bf:∀k∈ks,k<xs.length:=λk hk=>by simpa using hP.lt k hk
    have ok:=hP.ok hE
    rw[F7 N ht (λx hm=>⟨hx x hm,kn x hm⟩) bf]at ok
    obtain⟨r,kI,Yp⟩:=Jb hx bf ok
    have:=(hC.no kI).2
    rw[Yp]at this;cases this
  . exact⟨_,e⟩
 obtain⟨t',rfl⟩:=hd
 have fs:flat (.str "none")=true:=rfl
 have ds:dep (.str "none")<=60:=aae _
 have er:=iw _ fs
 unfold Ou
 generalize (keys es).map (bL xs)=ZZ at *
 generalize (xs.map (cG p t vs)).map rt=YY at *
 generalize (xs.map x3).map rt=TT at *
 simp[e1,e2,eo,dF,fs,ds,er]
theorem U6 {k p t:Nat}{xs:List Rt}{vs:List D}{ks:List Nat}{g:G}{B:Int}{Q:F×Sg×G->Prop}(hB:B+100<2 ^ 40)(k0:0<p)(hk:p<=5)(ht:t<p)(hx:∀x∈xs,aS (p:Int) x)(hl:xs.length<=10)(hd:Hd g n B)(hc:Clean g)(N:cW vs)(kn:∀x∈xs,Known vs x)(hP:Path xs p ks r)(hE:dN xs r.1=true)
  (q:∀g',Hd g' n (B+40)->Fr n g g'->Q (.nx,S8 s o1 n p xs (some (.str "order")) (some (.tup (kD ks))) (some (.tup ((xs.map (cG p t vs)).map rt))),g')):
  wp (Ov (tab (k+11)) (S8 s o1 n p xs (some (.str "order")) (some (.tup (kD ks))) (some (.tup ((xs.map (cG p t vs)).map rt)))) g) Q:=by
 have q0:(0:Int)<=p:=by omega
 have q1:(p:Int)<=100:=by omega
 have gx:∀x∈xs.map (cG p t vs),aS (p:Int) x:=λx hm=>by
  obtain⟨y,hy,rfl⟩:=Zu.mp hm
  exact zK N k0 (hx y hy) (kn y hy)
 have g3:∀x∈xs.map x3,aS (p:Int) x:=λx hm=>by
  obtain⟨y,hy,rfl⟩:=Zu.mp hm
  exact Nr (hx y hy)
 have ok:=hP.ok hE
 have e1:=λg=>Oq (p:=(p:Int)) (k+10) xs g hx (by omega)
 have e2:=λg=>Er (k+7) q0 q1 (xs.map (cG p t vs)) (.tup (kD ks)) g gx (by simp;omega) uc
 have e3:=λg=>Er (k+7) q0 q1 (xs.map x3) (.tup (kD ks)) g g3 (by simp;omega) uc
 rw[nT (λk hk=>by simpa using hP.lt k hk) (by rw[F7 N ht (λx hm=>⟨hx x hm,kn x hm⟩) hP.lt];exact ok)]at e2
 rw[nT (λk hk=>by simpa using hP.lt k hk) (P4 hP.lt ok)]at e3
 unfold Ov
 rw[RD (k+10)]
 generalize Rx:(xs.map (cG p t vs)).map rt=YY at *
 generalize Zk:(xs.map x3).map rt=TT at *
 simp
 refine TK (U5 (k+8) p) (Er (k+6) q0 q1) hB hx hl hP.lt ok hd hc λg' h1 f1=>?_
 simp[gE,e1,e2,e3]
 exact q g' h1 f1
def Yq (ns:List Int)(i:Nat)(σ:Sg)(g:G):Prop:=(∃o1 o2 o3 o4 o5 o6 o7,σ = [some (.lst (ns.map .int)),o1,o2,o3,o4,o5,o6,o7])/\Clean g
set_option maxHeartbeats 4000000 in
theorem Es (ns:List Int)(hl:ns.length<=63):∃g',tab 60 38 [.lst (ns.map .int)] []=some (.bl true,g'):=by
 have main:wp (tab 60 38 [.lst (ns.map .int)] []) λr=>r.1 = .bl true:=by
  refine fN rfl ?_
  simp only[Ow,GI,bV,wp_bind,kJ]
  refine nJ ?_
  simp
  refine⟨by split<;>omega,by split<;>omega,?_⟩
  refine iz (Yq ns) _ 0 _ _ ⟨⟨_,_,_,_,_,_,_,rfl⟩,λx hx=>by simp at hx⟩ ?_ ?_
  . rintro j d σ g hd ⟨⟨o1,o2,o3,o4,o5,o6,o7,rfl⟩,hc⟩
    obtain⟨hj,rfl⟩:=lC hd
    have Zl:j<10:=by
      revert hj;split<;>omega
    simp[iter]
    refine(Yo 58).w (by omega) λcs hh=>?_
    have v5:=hc.app hh
    simp
    generalize g.length=n at *
    refine(wM 58).w (by decide) (by decide) (by decide) hh λr g1 r0 r1 h1 f1=>?_
    have ja:=v5.fr f1 h1
    obtain⟨p,hp⟩:∃p:Nat,1+r=p:=⟨(1+r).toNat,by omega⟩
    have k0:0<p:=by omega
    have hk:p<=5:=by omega
    simp[hp]
    rw[Rz 55]
    refine My (most:=9) (wM 57) (Om 56) (Oo 55) (by decide) (by omega) (by omega) (by omega) h1 ja λrws g3 R h3 f3=>?_
    have Oy:=ja.fr f3 h3
    simp only
    rw[RA 58]
    refine MC (by omega) (by omega) (by omega) R Oy λh_ sY T=>?_
    obtain⟨w1,w2,w3⟩:=IJ R T
    have hlen:=R.len
    have xl:(rws.map λr=>(r,h_ r)).length=rws.length:=by simp
    rw[w1]
    generalize (rws.map λr=>(r,h_ r))=xs at *
    simp[dF]
    rw[RC 55]
    refine MQ (wM 57) (Om 56) (Oo 55) (by decide) (by omega) (by omega) w2 (by omega) h3 Oy λys g6 hy Yr h6 f6=>?_
    have Cj:=Oy.fr f6 h6
    have yl:ys.length=xs.length:=by simpa using congrArg adx Yr
    have q0:(0:Int)<=p:=by omega
    have q1:(p:Int)<=100:=by omega
    simp
    obtain⟨d,eo,_,ho⟩:=Oj 56 q0 q1 ys g6 hy (by omega) (zD q0 hy (by omega)) Cj
    refine⟨_,eo,?_⟩
    rcases ho with⟨ks,v,rfl,hP,hE⟩|⟨es,rfl,C,hC⟩
    . generalize Oz:kD ks=KK
      simp
      rw[Ot 57]
      refine yo (wM 57) (by omega) k0 hk hy (by omega) h6 Cj λt vs g7 ht N kn h7 f7=>?_
      have Ck:=Cj.fr f7 h7
      have e5:(aF (aj oEq (aa 5) (fC (.str "none")))) (S8 (some (.lst (ns.map .int))) (some (.int (j:Nat))) n p ys (some (.str "order")) (some (.tup (kD ks))) (some (.tup ((ys.map (cG p t vs)).map rt)))) g7=some (false,g7):=by
       simp[(Ox (g:=g7)).2,-Z0]
      rw[<- Oz]
      simp only
      show wp (wN (tab 59) (S8 (some (.lst (ns.map .int))) (some (.int (j:Nat))) n p ys (some (.str "order")) (some (.tup (kD ks))) (some (.tup ((ys.map (cG p t vs)).map rt)))) g7) _
      unfold wN
      rw[fE,e5,Zv]
      simp only[ZG,if_false]
      refine U6 (k:=48) (by omega) k0 hk ht hy (by omega) h7 Ck N kn hP hE λg8 h8 f8=>?_
      exact⟨⟨_,_,_,_,_,_,_,rfl⟩,Ck.fr f8 h8⟩
    . generalize Oz:(keys es).map (bL ys)=KK
      simp
      rw[Ot 57]
      refine yo (wM 57) (by omega) k0 hk hy (by omega) h6 Cj λt vs g7 ht N kn h7 f7=>?_
      have Ck:=Cj.fr f7 h7
      have e5:(aF (aj oEq (aa 5) (fC (.str "none")))) (S8 (some (.lst (ns.map .int))) (some (.int (j:Nat))) n p ys (some (.str "none")) (some (.tup ((keys es).map (bL ys)))) (some (.tup ((ys.map (cG p t vs)).map rt)))) g7=some (true,g7):=by
       simp[(Ox (g:=g7)).1,-Z0]
      rw[<- Oz]
      simp only
      show wp (wN (tab 59) (S8 (some (.lst (ns.map .int))) (some (.int (j:Nat))) n p ys (some (.str "none")) (some (.tup ((keys es).map (bL ys)))) (some (.tup ((ys.map (cG p t vs)).map rt)))) g7) _
      unfold wN
      rw[fE,e5,Zv]
      simp only[if_true]
      rw[P_ (k:=48) k0 hk ht hy (by omega) Ck N kn C hC]
      simp only[gM]
      exact⟨⟨_,_,_,_,_,_,_,rfl⟩,Ck⟩
  . rintro σ g ⟨⟨o1,o2,o3,o4,o5,o6,o7,rfl⟩,hc⟩
    simp
    rfl
 obtain⟨⟨d,g'⟩,e,h⟩:=main
 cases h
 exact⟨g',e⟩
end K54
namespace K54
open PySem PySem.Spec PyProof.Rows L2 L3 RI
theorem walk {l:aci}{q:ZY}{loose:List Str}{XP:(Str->Option Value)->Heap->Prop}{YP:World->Heap->Prop}{d:DefRec}{K:Params->ZC}(hn:l.most=some 63)(uF:d.params.defaults = [])(Mf:d.name = "law")
  (hY:∀(w:World) (h:Heap),YP w h->(K w.params).In h)
  (F:∀(w:World) (mg:Str->Option Value) (h:Heap),(K w.params).In h->h.Ns aal mg->At (K w.params) w mg mo):
  aeZ q loose XP YP l.row.toRowW d [] (λf vs=>aeO f vs):=
 RI.Ir (i:=38) (R:=60) (x:="_law_script") hn ⟨rfl,by decide,by decide,rfl⟩ uF Mf hY F rfl rfl rfl good Es
end K54
open PySem PySem.W PyProof.Rows
namespace PySem.W.Fast
theorem te4559221938766273987:1=1:=rfl
theorem tw13624989252632632638:1=1:=rfl
theorem tw12127477171422430041:1=1:=rfl
theorem tw16537798980586550046:1=1:=rfl
theorem tw12673788926226847273:1=1:=rfl
theorem tw14419633982485224747:1=1:=rfl
theorem tw1367287327639509148:1=1:=rfl
theorem tw1592085418421809626:1=1:=rfl
theorem tw2792783457096687091:1=1:=rfl
theorem tw12020146168252829710:1=1:=rfl
theorem tw16319732700323345626:1=1:=rfl
theorem tw18291768174485082524:1=1:=rfl
theorem tw1992046708317561243:1=1:=rfl
theorem tw11378852493228576389:1=1:=rfl
theorem tw5534686337074117031:1=1:=rfl
theorem tw7681811503103987351:1=1:=rfl
theorem tw17138843674854236281:1=1:=rfl
theorem tw16647840392414139428:1=1:=rfl
theorem tw2541276955540935560:1=1:=rfl
theorem tw2452356389126307598:1=1:=rfl
theorem tw6052804252226821233:1=1:=rfl
theorem tw5453354691709219374:1=1:=rfl
theorem tw15063243744974170837:1=1:=rfl
theorem tw15828869425267722252:1=1:=rfl
theorem tw270361601187116581:1=1:=rfl
theorem tw7134489874314711296:1=1:=rfl
theorem tw12713922735075805271:1=1:=rfl
theorem tw11215513492902506368:1=1:=rfl
theorem tw13763422458597376439:1=1:=rfl
theorem tw2045494771905745504:1=1:=rfl
theorem tw7294236003667552419:1=1:=rfl
theorem tw2399836599630901818:1=1:=rfl
theorem tw6614849427427771731:1=1:=rfl
theorem tw13171998304019648858:1=1:=rfl
theorem tw11691591210876319323:1=1:=rfl
theorem tw187192596039082655:1=1:=rfl
theorem tw9840139874782921393:1=1:=rfl
theorem tw4515672818653230670:1=1:=rfl
theorem tw2087317747653360021:1=1:=rfl
theorem tw10782611150498367520:1=1:=rfl
theorem tw6734408165325274605:1=1:=rfl
theorem tw17081835259966201074:1=1:=rfl
theorem tw7810537869308348151:1=1:=rfl
theorem tw7169082349763526692:1=1:=rfl
theorem tw1509607114474861702:1=1:=rfl
theorem tw14280911911915262074:1=1:=rfl
theorem tw11543583837221400268:1=1:=rfl
theorem tw1732936008945333126:1=1:=rfl
theorem tw8740121676217043472:1=1:=rfl
theorem tw16240073791351639565:1=1:=rfl
theorem tw17195132625212334872:1=1:=rfl
theorem tw1920716179981210659:1=1:=rfl
theorem tw3377971524951613609:1=1:=rfl
theorem tw16276776551851220127:1=1:=rfl
theorem tw14534418411720410384:1=1:=rfl
theorem tw18371181719045903877:1=1:=rfl
theorem tw15701407780844223874:1=1:=rfl
theorem tw5474340793227755252:1=1:=rfl
theorem tw15547604925728387316:1=1:=rfl
theorem tw16819601937759070027:1=1:=rfl
theorem tw10936149773762407964:1=1:=rfl
theorem tw11703356816400979254:1=1:=rfl
theorem tw2460367371929650422:1=1:=rfl
theorem tw1818780854767230149:1=1:=rfl
theorem tw15196578302008928656:1=1:=rfl
theorem tw7630032613562809545:1=1:=rfl
theorem tw7413189864340781037:1=1:=rfl
theorem tw6539295699756994430:1=1:=rfl
theorem tw6709896945119672643:1=1:=rfl
theorem tw2133285622564784505:1=1:=rfl
theorem tw14567030187517026701:1=1:=rfl
theorem tw16791159294346028536:1=1:=rfl
theorem tw1931744462903581179:1=1:=rfl
theorem tw6248595594734067373:1=1:=rfl
theorem tw12077534043815328138:1=1:=rfl
theorem tw1275450317924911955:1=1:=rfl
theorem tw17799437799477103999:1=1:=rfl
theorem tw17459602070472865191:1=1:=rfl
theorem tw10142385041280259232:1=1:=rfl
theorem tw13068180103575285702:1=1:=rfl
theorem tw6025960643609386102:1=1:=rfl
theorem tw15915801285670751022:1=1:=rfl
theorem tw12058905652008886424:1=1:=rfl
theorem tw11047640017113281326:1=1:=rfl
theorem tw6339397306454133084:1=1:=rfl
theorem tw12371029001087287137:1=1:=rfl
theorem tw7472423566143632462:1=1:=rfl
theorem tw12080862218971498566:1=1:=rfl
theorem tw5872027154284902443:1=1:=rfl
theorem tw2977456565707676113:1=1:=rfl
theorem tw7516823223849229167:1=1:=rfl
theorem tw14151092385967790263:1=1:=rfl
theorem tw349186917246329181:1=1:=rfl
theorem tw12804934088492772485:1=1:=rfl
theorem tw5296398125877621088:1=1:=rfl
theorem tw12252147564072752039:1=1:=rfl
theorem tw5434263099525275475:1=1:=rfl
theorem tw10755684834192163735:1=1:=rfl
theorem tw1162248933242483690:1=1:=rfl
theorem tw14534279151916700561:1=1:=rfl
theorem tw12386985524865045451:1=1:=rfl
theorem tw10371693620286188359:1=1:=rfl
theorem tw2709899740661068205:1=1:=rfl
theorem tw15505281545535467487:1=1:=rfl
theorem tw9236750784686561084:1=1:=rfl
theorem tw7123171186937362736:1=1:=rfl
theorem tw1327248131883845018:1=1:=rfl
theorem tw17792413202918714638:1=1:=rfl
theorem tw13567012002818526869:1=1:=rfl
theorem tw677083363310866558:1=1:=rfl
theorem tw14099169122331791770:1=1:=rfl
theorem tw15417448646106697460:1=1:=rfl
theorem tw4757096868468087102:1=1:=rfl
theorem tw10094747805902763563:1=1:=rfl
theorem tw14289153467351706626:1=1:=rfl
theorem tw4130621226368433033:1=1:=rfl
theorem tw15635000558676490976:1=1:=rfl
theorem tw6921625393266662524:1=1:=rfl
theorem tw13197326513034161745:1=1:=rfl
theorem tw1672186222156047080:1=1:=rfl
theorem tw11009219261878647044:1=1:=rfl
theorem tw2590455000952511319:1=1:=rfl
theorem tw8424576409912322137:1=1:=rfl
theorem tw10168838365203933704:1=1:=rfl
theorem tw9520510795126766822:1=1:=rfl
theorem tw3471127218196026772:1=1:=rfl
theorem tw768760547466869151:1=1:=rfl
theorem tw11884587708043494778:1=1:=rfl
theorem tw16152853570758117743:1=1:=rfl
theorem tw3004922227108596794:1=1:=rfl
theorem tw7079659558535136896:1=1:=rfl
theorem tw11621557414450023613:1=1:=rfl
theorem tw2737265231014604701:1=1:=rfl
theorem tw9329595273072639739:1=1:=rfl
theorem tw11081813565182172368:1=1:=rfl
theorem tw3011860384614415731:1=1:=rfl
theorem tw8354559864996544353:1=1:=rfl
theorem tw14711270318069080336:1=1:=rfl
theorem tw12912500114769933682:1=1:=rfl
theorem tw13838268631522245969:1=1:=rfl
theorem tw14680090244030141244:1=1:=rfl
theorem tw64467630004821998:1=1:=rfl
theorem tw3192489631408835401:1=1:=rfl
theorem tw15584776776482636454:1=1:=rfl
theorem tw17869322583919372912:1=1:=rfl
theorem tw17897903227747167572:1=1:=rfl
theorem tw12150231734530913837:1=1:=rfl
theorem tw7724725994418126299:1=1:=rfl
theorem tw3372191358064742026:1=1:=rfl
theorem tw5229982518883381263:1=1:=rfl
theorem tw5959094809481680206:1=1:=rfl
theorem tw8420639567934673288:1=1:=rfl
theorem tw3338362372491568096:1=1:=rfl
theorem tw8708765238490726991:1=1:=rfl
theorem tw2830337095108513731:1=1:=rfl
theorem tw6615052465880673337:1=1:=rfl
theorem tw12123852360955337135:1=1:=rfl
theorem tw9409779176550063503:1=1:=rfl
theorem tw7328972616033229295:1=1:=rfl
theorem tw7424062041038790477:1=1:=rfl
end PySem.W.Fast
set_option maxRecDepth 100000 in
set_option maxHeartbeats 0 in
theorem PySem.Challenge.cw_wholeglance_k54_whole_stories_loosened_holds : PySem.Challenge.rw_wholeglance_k54_whole_stories_loosened.Holds := by
  w_on; o_law; k_head; (case hw => w_witness2)
  k_fill
  refine K54.walk (l := PySem.Challenge.rw_wholeglance_k54_whole_stories_loosened) rfl rfl rfl (fun w h Y => by first | exact PySem.W.kIn_of Y | exact PySem.W.km_in_of Y) ?F
  case F =>
    intro w mg h KX G
    refine' ⟨_, _, (RI.bO.cons (nm := "is_whole") (ps := ["thing"]) (st := K54.top 1) ?a0 ?l0 ?e0 ?k0 (RI.oy (fun _ => rfl))
    (RI.bO.cons (nm := "is_within") (ps := ["thing", "least", "most"]) (st := K54.top 2) ?a1 ?l1 ?e1 ?k1 (RI.p8 (fun _ _ _ => rfl))
    (RI.bO.cons (nm := "is_figured") (ps := ["thing", "most"]) (st := K54.top 3) ?a2 ?l2 ?e2 ?k2 (RI.hX (fun _ _ => rfl))
    (RI.bO.cons (nm := "is_tuple_of") (ps := ["thing", "least", "most"]) (st := K54.top 4) ?a3 ?l3 ?e3 ?k3 (RI.p8 (fun _ _ _ => rfl))
    (RI.bO.cons (nm := "zeros") (ps := ["count"]) (st := K54.top 7) ?a4 ?l4 ?e4 ?k4 (RI.oy (fun _ => rfl))
    (RI.bO.cons (nm := "is_value") (ps := ["thing"]) (st := K54.top 12) ?a5 ?l5 ?e5 ?k5 (RI.oy (fun _ => rfl))
    (RI.bO.cons (nm := "is_value_within") (ps := ["thing", "deep"]) (st := K54.top 13) ?a6 ?l6 ?e6 ?k6 (RI.hX (fun _ _ => rfl))
    (RI.bO.cons (nm := "is_ahead") (ps := ["row", "other"]) (st := K54.top 15) ?a7 ?l7 ?e7 ?k7 (RI.hX (fun _ _ => rfl))
    (RI.bO.cons (nm := "bits_of") (ps := ["numbers"]) (st := K54.top 17) ?a8 ?l8 ?e8 ?k8 (RI.oy (fun _ => rfl))
    (RI.bO.cons (nm := "ended_bits") (ps := ["story"]) (st := K54.top 18) ?a9 ?l9 ?e9 ?k9 (RI.oy (fun _ => rfl))
    (RI.bO.cons (nm := "plan_of") (ps := ["story"]) (st := K54.top 19) ?a10 ?l10 ?e10 ?k10 (RI.oy (fun _ => rfl))
    (RI.bO.cons (nm := "leads") (ps := ["plan", "done", "state"]) (st := K54.top 20) ?a11 ?l11 ?e11 ?k11 (RI.p8 (fun _ _ _ => rfl))
    (RI.bO.cons (nm := "fits") (ps := ["row", "state"]) (st := K54.top 21) ?a12 ?l12 ?e12 ?k12 (RI.hX (fun _ _ => rfl))
    (RI.bO.cons (nm := "state_behind") (ps := ["row", "state"]) (st := K54.top 22) ?a13 ?l13 ?e13 ?k13 (RI.hX (fun _ _ => rfl))
    (RI.bO.cons (nm := "shows_order") (ps := ["places", "story", "thing"]) (st := K54.top 24) ?a14 ?l14 ?e14 ?k14 (RI.p8 (fun _ _ _ => rfl))
    (RI.bO.cons (nm := "are_rows") (ps := ["story", "thing"]) (st := K54.top 25) ?a15 ?l15 ?e15 ?k15 (RI.hX (fun _ _ => rfl))
    (RI.bO.cons (nm := "has_ended") (ps := ["story", "order"]) (st := K54.top 26) ?a16 ?l16 ?e16 ?k16 (RI.hX (fun _ _ => rfl))
    (RI.bO.cons (nm := "keeps_turns") (ps := ["story", "order"]) (st := K54.top 27) ?a17 ?l17 ?e17 ?k17 (RI.hX (fun _ _ => rfl))
    (RI.bO.cons (nm := "fits_all") (ps := ["places", "rows"]) (st := K54.top 28) ?a18 ?l18 ?e18 ?k18 (RI.hX (fun _ _ => rfl))
    (RI.bO.cons (nm := "shows_none") (ps := ["places", "story", "thing"]) (st := K54.top 29) ?a19 ?l19 ?e19 ?k19 (RI.p8 (fun _ _ _ => rfl))
    (RI.bO.cons (nm := "lead_nowhere_else") (ps := ["story", "known"]) (st := K54.top 30) ?a20 ?l20 ?e20 ?k20 (RI.hX (fun _ _ => rfl))
    (RI.bO.cons (nm := "is_room") (ps := ["places", "story", "values", "thing"]) (st := K54.top 31) ?a21 ?l21 ?e21 ?k21 (RI.QN (fun _ _ _ _ => rfl))
    (RI.bO.cons (nm := "is_rising") (ps := ["story", "thing"]) (st := K54.top 32) ?a22 ?l22 ?e22 ?k22 (RI.hX (fun _ _ => rfl))
    (RI.bO.cons (nm := "is_state_of") (ps := ["places", "values", "thing"]) (st := K54.top 33) ?a23 ?l23 ?e23 ?k23 (RI.p8 (fun _ _ _ => rfl))
    (RI.bO.cons (nm := "way_to") (ps := ["came", "room"]) (st := K54.top 35) ?a24 ?l24 ?e24 ?k24 (RI.hX (fun _ _ => rfl))
    (RI.bO.cons (nm := "ordered") (ps := ["places", "story"]) (st := K54.top 37) ?a25 ?l25 ?e25 ?k25 (RI.hX (fun _ _ => rfl))
    (RI.bO.cons (nm := "rows_done") (ps := ["done", "rows"]) (st := K54.top 38) ?a26 ?l26 ?e26 ?k26 (RI.hX (fun _ _ => rfl))
    (RI.bO.cons (nm := "_law_hand") (ps := ["_law_script", "_law_k"]) (st := K54.top 40) ?a27 ?l27 ?e27 ?k27 (RI.hX (fun _ _ => rfl))
    (RI.bO.cons (nm := "_law_take") (ps := ["_law_hand_here", "_law_many"]) (st := K54.top 41) ?a28 ?l28 ?e28 ?k28 (RI.hX (fun _ _ => rfl))
    (RI.bO.cons (nm := "_law_pick") (ps := ["_law_hand_here", "_law_some"]) (st := K54.top 42) ?a29 ?l29 ?e29 ?k29 (RI.hX (fun _ _ => rfl))
    (RI.bO.cons (nm := "_law_some_value") (ps := ["_law_hand_here"]) (st := K54.top 43) ?a30 ?l30 ?e30 ?k30 (RI.oy (fun _ => rfl))
    (RI.bO.cons (nm := "_law_rows") (ps := ["_law_hand_here", "_law_places", "_law_most"]) (st := K54.top 44) ?a31 ?l31 ?Rz ?k31 (RI.p8 (fun _ _ _ => rfl))
    (RI.bO.cons (nm := "_law_told") (ps := ["_law_places", "_law_rows_here"]) (st := K54.top 45) ?a32 ?l32 ?RA ?k32 (RI.hX (fun _ _ => rfl))
    (RI.bO.cons (nm := "_law_bent") (ps := ["_law_hand_here", "_law_places", "_law_rows_here"]) (st := K54.top 46) ?a33 ?l33 ?RC ?k33 (RI.p8 (fun _ _ _ => rfl))
    (RI.bO.cons (nm := "_law_thrice") (ps := ["_law_rows_here"]) (st := K54.top 47) ?a34 ?l34 ?e34 ?k34 (RI.oy (fun _ => rfl))
    (RI.bO.cons (nm := "_law_loose") (ps := ["_law_hand_here", "_law_rows_here"]) (st := K54.top 48) ?a35 ?l35 ?e35 ?k35 (RI.hX (fun _ _ => rfl))
    (RI.bO.cons (nm := "_law_named") (ps := ["_law_hand_here", "_law_places", "_law_rows_here"]) (st := K54.top 49) ?a36 ?l36 ?Ot ?k36 (RI.p8 (fun _ _ _ => rfl))
    (RI.bO.cons (nm := "_law_of_order") (ps := ["_law_hand_here", "_law_places", "_law_rows_here", "_law_order"]) (st := K54.top 50) ?a37 ?l37 ?RD ?k37 (RI.QN (fun _ _ _ _ => rfl))
    (RI.bO.cons (nm := "law") (ps := ["_law_script"]) (st := K54.top 51) ?a38 ?l38 ?e38 ?k38 (RI.oy (fun _ => rfl))
    RI.bO.nil))))))))))))))))))))))))))))))))))))))),
    (RI.bc ?z_len (RI.bc ?z_max (RI.bc ?z_min (RI.bc ?z_int (RI.bc ?z_tuple (RI.bc ?z_list (RI.bc ?z_all (RI.bc ?z_any (RI.bc ?z_sum (RI.bc ?z_sorted (RI.bc ?z_bool (RI.bc ?z_set (RI.bc ?z_range (RI.bc ?z_enumerate (RI.bc ?z_isinstance (RI.bc ?z_reversed RI.bn)))))))))))))))),
    (RI.cc (RI.cI ?q_TWELVE_FIGURES) (RI.cc (RI.cI ?q_MOST_PARTS) (RI.cc (RI.cI ?q_MOST_DEEP) RI.QT))), RI.QT⟩
    all_goals try first | k_is | rfl
