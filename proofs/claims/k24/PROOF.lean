import PyProof.Rows.All
import Wide.All
import OpenK.AllK
import Wide.FinOn
import Lean
import PyProof.EqAt
import PyProof.EqKinds
import PyProof.TupleCall
import PySem.Challenge.RW_wholeglance_k24_whole_quiet_boxes
open PySem renaming wpAny_bind->Zm,Shared->Zo,wpAny_pure->Zp,sizeLine->ZM,starEach->ZO,Program->ZW,Around->ZY,mem_of_lookup->Z5,mainGlobals->Z_,wpAny_holding->aaa,wpAny_newObj_type->aae,DictEntry->aaf,wpAny_call_entry->aai,foldedSetIterable->aaq,wpAny_callSpecial?_slot->aaw,compareOp->aaB,wpAny_ite_split->aaD,binaryOp->aaH,placesWithHash->aaK,FuncData->aaM,cellsFrom->aaV,wpAny_Call_Name_kw->aa8,Builtin->aa9,assignEach->abb,wpAny_field->abd,wpAny_rule->abf,backTo->abp,NameKind->aby,sizeLine_eq->abC,codeAny_builtin->abF,wpAny_truthy_bool->abH,bootBuiltins->abU,wpAny_passesOwn->abW,Comprehension->ab1,holding->ab3,wpAny_seqItems->ab4,rawInt->ab5,IsPart->ab6,wpAny_typeOf->ab7,wpAny_askSetting->ab9,wpAny_forIn_list->acb,swappedStores->acd,sysModules->ace,call_meets->acf,wpAny_dictEpoch->acg,wpAny_sequenceKey->acj,wpAny_setState_of->ack,codeAny_mono->acp,builtinLookup_eq_fast->acq,Arguments->acz,swapsWith->acA,assign->acF,swapsWithSole->acG,plainId_quiet->acH,intKind->acJ,codeAny->acK,sliceBounds->acL,wpAny_ite_false->acO,Operator->acS,pyNext->acT,SetTable->acW,pickOrder->acX,wpAny_setField_rec->acY,getItem->ac2,setNext->ac3,wpAny_setField->ac4,wpAny_pyIter_list->ac9,slot_dict_getitem->ada,behindInMarks->adi,attributeBase->adl,wpAny_isInstance->adn,seqSlot_of->adp,wpAny_mono->adB,wpAny_Name->adC,wpAny_loadName_local->adD,wpAny_execs_nil->adE,typeLookup_type->adJ,wpAny_loadName_cell->adQ,wpAny_setEntries_of->adS,bindArgs->adV,Keyword->adW,callerA->adX,firstArgMember->adY,PassesOwn->ad5,slot_dict_contains->aed,wpAny_standAt->aej,wpAny_dictEntries->aeq,builtinsNs->aeu,typeIs_int->aew,closureFor->aey,fillsNumberSlot_seq->aez,relabel->aeD,dictGet->aeE,GenState->aeF,concat_meets->aeH,noFill_tuple_add->aeI,checkBuiltinCall->aeM,beq_builtin_none->aeP,letOwnedTupleGo->aeV,wpAny_specialOf->aeY,wpAny_updateSeq->aeZ,eqIsQuiet->ae0,wpAny_pyNext_list_item->ae2,wpAny_Call_method_late->ae5,standAt->afe,pyIter->aff,wpAny_pyNext_list_end->afg,argsOk->afi,wpAny_nextOf_list_end->afm,wpAny_notOrdered_dict->afo,wpAny_call->afq,call->aft,setsByText->afu,seqRepeat?->afv,numAt_eq->afy,assignInOrder->afA,seq_tuple_add->afB,wpAny_attempt->afF,wpAny_loadName_free->afH,hashInt->af7,setItem->af8,BindsTo->af9,seqIndex_of->agm,keywordEach->agn,wpAny_of_eq->ago,wpAny_alloc->agp
open List renaming getElem?_eq_getElem->Zn,getElem?_eq_some_iff->Zq,size_toArray->Zw,mem_cons->Zx,mem_append->Zy,mem_cons_of_mem->Zz,replicate->ZA,getElem?_map->ZE,length_append->ZH,getElem?_append_left->ZI,mem_map->ZK,range->ZN,mem_of_getElem?->ZP,getD_eq_getElem?_getD->ZQ,mem_cons_self->ZU,getElem?_append_right->ZX,getElem?_set_self->Z0,length_map->Z2,append_assoc->Z3,getElem_mem->Z6,lookup_cons->Z9,map_append->aag,length_take->aah,flatten_cons->aaj,drop_eq_getElem_cons->aak,take_of_length_le->aal,mem_range->aap,mem_append_right->aas,set_getElem_self->aat,filterMap_cons->aax,mem_map_of_mem->aay,length_cons->aaz,any_cons->aaA,map_cons->aaE,not_mem_nil->aaF,mem_of_mem_take->aaJ,append_nil->aaL,getElem?_eq_none->aaO,flatMap_cons->aaR,nodup_cons->aaU,mem_iff_getElem->aaW,all_eq_true->aaX,mem_filter->aa5,mem_filterMap->aa7,getElem?_of_mem->abc,nil_append->abh,length_filter_le->abj,getElem?_take_of_lt->abk,getElem?_set_ne->abm,nodup_append->abr,replicate_succ->abu,map_map->abx,nodup_nil->abB,elem_iff->abI,take_append_of_le_length->abK,length_eq_zero_iff->abL,getElem?_range->abN,filter_sublist->abO,flatten_nil->abS,range'->abT,set_set->abV,getElem?_eq_none_iff->ab2,eq_nil_of_length_eq_zero->aci,ext_getElem?->acm,drop_zero->acu,set_append_right->acv,drop_left->acx,drop_eq_nil_iff->acE,getElem?_zip_eq_some->acQ,length_zip->acR,getElem?_cons_zero->ac8,findIdx?_eq_some_iff_getElem->adg,all_cons->adk,length_drop->adm,mem_reverse->ado,nodup_range->adq,isEmpty_iff->adt,mem_flatMap->adv,mem_iff_getElem?->ady,mem_append_left->adA,of_mem_zip->adG,forIn_cons->adL,length_pos_iff->adT,take_left->adZ,take_succ->ad0,mem_singleton->aeb,set_cons_zero->aec,take_sublist->aen,getElem?_inj->aer,getElem_inj->aeG,any_eq_true->aeN,range'_succ->aeO,filter_cons->aeR,getElem?_replicate->aeS,length_set->aeW,length_nil->aeX,find?_some->ae1,length->ae4,range_succ_eq_map->ae7,drop_eq_nil_of_le->afb,length_pos_of_mem->afc,filter_eq_nil_iff->afd,length_singleton->afh,singleton_append->afj,min?_eq_some_iff->afn,getElem?_zipIdx->afx,map_congr_left->afM,filterMap_map->afS,map_nil->afU,set_cons_succ->afX,any_nil->af2,filter_append->af4,getElem_take->agf,pairwise_map->agk,length_range->agl,take_length->agG,foldl->agJ,find?_cons->agP,filter_nil->agS,forIn_nil->ag8
open Bool renaming and_eq_true->Zr,false_eq_true->ZJ,not_true->ZR,not_false->ZS,not_eq_true'->Z8,or_eq_true->aac,or_eq_false_iff->aao,false_ne_true->aaT,not_eq_true->abz,or_false->adj,or_eq_true_iff->adU,not_eq_false'->aee,and_self->ael,not_eq_false->aes,and_false->afl,false_and->agV
open PySem.Heap renaming get?_push_of_some->Zs,get?_push_size->ZC,lt_size->ZG,get?_update_self->aaC,size_push->abe,get?_update_other->abw,SameBut->abD,ExtBut->ae6,get?_push_ne->agg
open Option renaming bind_some->Zt,map_eq_some_iff->Zv,map_some->abg,isSome_iff_exists->acU,isSome_none->af0,getD_none->agv,getD_some->agz
open Nat renaming le_refl->Zu,lt_of_lt_of_le->ZZ,ne_of_lt->Z1,le_trans->Z4,zero_le->aab,add_mul->aau,lt_irrefl->aaS,lt_succ_of_lt->aa1,le_of_ble_eq_true->aa2,zero_add->aa3,ble_eq_true_of_le->abA,le_add_right->abR,lt_succ_self->ab_,le_of_lt->aco,sub_self->acs,zero_mul->acw,beq->acM,not_lt_zero->acP,ble->ac5,le_of_succ_le->ac_,mod_eq_of_lt->adu,ne_of_gt->adF,mul_comm->adM,mul_le_mul_right->adP,lt_trans->aeK,le_mul_of_pos_right->aeU,le_succ->ae_,le_of_eq->afV,mod_eq_sub_mod->af5,add_sub_cancel->af6,succ_ne_self->agy,div_eq_of_lt->agE
open PySem.W renaming Frag->ZF,keepIn->abn,fnOf->abv,nsIn->abG,sortI->abJ,tabObj->abP,OpenLaw->acB,codeHdIn->acC,codeIn->ac1,kla_obj->adK,envX->adN,callWith_K->ad8,sortI_perm->aeh,mg_of->aek,methodObj->aem,eq_sortI->aeQ,cellsFrom_some->ae3,kla_fn->afp,WalkO->afE,codeHd_of_K->afI,pyHash_slot->afK,CodeHd->aha
open PySem.SetTable renaming below->ZV,insertAt->abq,has->aeL,turns->afk,fill->afG,fits->ahu,bits->ahv
open PyProof.Rows renaming slot_tuple_getitem->Z7,callWith_type1->aa6,IntsAre->abQ,subscriptTail_builtinR->ach,AllBare->adw,envOfC->adH,callWith_builtin1->adI,entry_tuple_getitem->adR,assignInOrder_cons->ad4,args_tuple_getitem->ad9,seqObj->aeg,sortedHeap->afz,tupleItemsOf_->afC,subscriptTail->afD
open Array renaming getElem?_eq_getElem->aad,getElem?_eq_some_iff->ab0,getElem?_toList->acr,length_toList->acN,getElem?_eq_none->adf,mem_of_getElem?->adx,getElem_mem->aeo,toList_append->afL,forIn_toList->af1
open Option.some renaming inj->aam,injEq->aep
open PySem.AutoSeq1 renaming wpAny_loadPart'->aan,sub_tuple_tuple->aca,idx_int->acD,sub_list_list->ae8
open PySem.NameKind renaming free->aar,cell->aaG
open PySem.Value renaming type->aav,none->aa_,ref->abt,isStrOf->adh,isInt->ad1,int->ad3,bool->aet,notImplemented->afw
open PySem.Builtin.Slice renaming sliceAdjust->aaI,slicePlaces->aaY,sliceApplied->abY,sliceFields->aev
open PySem.Builtin.Tuple renaming tupleExact->aaN,tupleItemsOf->abZ,tupleHashOf->aex,tupleTooMany->ae9
open Int renaming toNat_natCast->aaP,toNat_of_nonneg->abM,emod_lt_of_pos->ac0,emod_nonneg->adO,toNat->ad_,natCast_nonneg->afY,natCast_ediv->agF,natCast_mul->agO
open Function renaming comp_def->aaQ
open PySem.Builtin.SmallTypes renaming nextOf->aaZ,ownedTupleHandOut->acZ,ownedTupleIsFree->ac6
open PySem.Heap.SameBut renaming update->aa0
open Classical renaming choose_spec->aa4,choose->ads,byContradiction->aeA
open False renaming elim->aba
open Ne renaming symm->abi
open PySem.Str renaming ofString->abl
open PySem.Around renaming under_plainId->abo,frames_deeper->afr
open PySem.Obj renaming mapSeq->abE,data_mapFields->afZ,mapDictKeys->agQ
open ForInStep renaming yield->abX
open PySem.Builtin.List renaming listTooLong->ab8,listFitsIndex->acI,listExtendWith->aea,listSameRef->aeJ
open PySem.SetTable.below renaming go->acn
open PySem.PyData renaming keyHash->acy
open PySem.F renaming args_tuple_add_2->acV,entry_tuple_add->ac7,slot_tuple_add->adb,slot_dict_get->adz,entry_dict_get->afa
open PySem.Calls renaming callWith_builtin->ade,spliced_cons->ad7,Name_function_global->aei,evalArgs_plain->afs,Constant_str->afQ,spliced_nil->agb
open PySem.Shared renaming heap->ad2,TypeIs->ahL
open PySem.Data renaming cell->ad6,dict->ahh
open PySem.ScopeKind renaming function->aef
open Sum renaming inl->aeB,inr->aeC
open PySem.Builtin.Dict renaming updateFrom->aeT
open Std.Legacy.Range renaming forIn_eq_forIn_range'->afJ,size->ajk
open PySem.SeqAt.EqAt renaming int_str->afN,str_int->afO
open PySem.Heap.IsSliceOf renaming new->afT
open PySem.pickOrder renaming go->afW
open List.Pairwise renaming nil->agd
open PySem.Setting renaming params->ag2
open List.Perm renaming swap->ag5,refl->ag7
open PySem.Builtin.Frozenset renaming updateFrom->ahd,newClass->ahy,addrOf->ah1,sizeOf->ah2,slot0->air
open PyProof.Rows.IntsAre renaming int_at->ahk
set_option bootstrap.genMatcherCode false
set_option genSizeOf false
set_option Elab.async false
set_option linter.all false
set_option maxRecDepth 100000
open PySem PySem.Spec
namespace L2
open PyProof.Rows
abbrev Key:=Sum Int Str
noncomputable def t7:Key->Value->Bool
 |.inl k,v=>ad1 k v|.inr x,v=>adh x v
noncomputable def SM (w:World):Key->Int
 |.inl k=>af7 k|.inr x=>hashStr w x
theorem dA:∀{k:Key} {v:Value},t7 k v=true->(∃i t,k=aeB i/\v=ad3 i t)\/(∃x t,k=aeC x/\v=Value.str x t)
 |.inl i,v,h=>by obtain⟨t,e⟩:=Value.isInt_shape (k:=i) (v:=v) h;exact .inl ⟨i,t,rfl,e⟩
 |.inr x,v,h=>by obtain⟨t,e⟩:=Value.isStrOf_shape (x:=x) (v:=v) h;exact .inr ⟨x,t,rfl,e⟩
theorem AO (x:Str)(t:Tok):t7 (.inr x) (.str x t)=true:=by simp[t7,adh]
theorem JA (a b:Int):decide ((aeB a:Key)=aeB b)=(a == b):=by
 by_cases e:a=b
 . subst e;simp
 . have h:¬(aeB a:Key)=aeB b:=λq=>e (Sum.inl.inj q)
   rw[decide_eq_false h];exact(beq_eq_false_iff_ne.mpr e).symm
theorem JB (a b:Str):decide ((aeC a:Key)=aeC b)=decide (a=b):=by
 by_cases e:a=b
 . subst e;simp
 . have h:¬(aeC a:Key)=aeC b:=λq=>e (Sum.inr.inj q)
   rw[decide_eq_false h,decide_eq_false e]
theorem JC (a:Int)(b:Str):decide ((aeB a:Key)=aeC b)=false:=decide_eq_false (λq=>nomatch q)
theorem JD (a:Str)(b:Int):decide ((aeC a:Key)=aeB b)=false:=decide_eq_false (λq=>nomatch q)
noncomputable def eF (prog:ZW)(w:World):PySem.KeyKind prog w Key where
 is:=t7
 hash:=SM w
 inj:=λv a b l f=>by
  rcases dA l with⟨i,t,rfl,rfl⟩|⟨x,t,rfl,rfl⟩
  . rcases dA f with⟨j,u,rfl,e⟩|⟨y,u,rfl,e⟩
    . injection e with e1 _;rw[e1]
    . exact nomatch e
  . rcases dA f with⟨j,u,rfl,e⟩|⟨y,u,rfl,e⟩
    . exact nomatch e
    . injection e with e1 _;rw[e1]
 byValue:=λk v h=>by rcases dA h with⟨i,t,rfl,rfl⟩|⟨x,t,rfl,rfl⟩<;>rfl
 pyHash:=λc h=>by
  rcases dA c with⟨i,t,rfl,rfl⟩|⟨x,t,rfl,rfl⟩
  . exact wpAny_pyHash_int h
  . exact wpAny_pyHash_str h
 eqBool:=λhu c h=>by
  rcases dA hu with⟨i,t,rfl,rfl⟩|⟨x,t,rfl,rfl⟩
  . rcases dA c with⟨j,u,rfl,rfl⟩|⟨y,u,rfl,rfl⟩
    . rw[JA]at h;exact wpAny_eqBool_int h
    . rw[JC]at h;exact afN i t y u _ _ _ _ h
  . rcases dA c with⟨j,u,rfl,rfl⟩|⟨y,u,rfl,rfl⟩
    . rw[JD]at h;exact afO x t j u _ _ _ _ h
    . rw[JB]at h;exact wpAny_eqBool_str h
 «strs»:=λk x t v h=>by
  rcases dA h with⟨i,u,rfl,e⟩|⟨y,u,rfl,e⟩
  . exact nomatch e
  . injection e with e1 _
    subst e1;cases v<;>rfl
theorem n9 (prog:ZW)(w:World)(x:Str)(t:Tok):(eF prog w).is (.inr x) (.str x t)=true:=AO x t
inductive V where
 |ay|bl (b:Bool)|int (i:Int)|str (x:Str)|AQ (b:Array UInt8)|gR (b:UInt64)|ref (a:Addr)|ty (n:String)
 deriving DecidableEq
noncomputable def RelV:V->Value->Prop
 |.ay,u=>u=aa_|.bl b,u=>u=aet b|.int i,u=>∃t,u=ad3 i t|.str x,u=>∃t,u=Value.str x t|.AQ b,u=>∃t,u=Value.bytes b t|.gR b,u=>∃t,u=Value.float b t|.ref a,u=>u=abt a|.ty n,u=>u=aav n
noncomputable abbrev Vals:List V->List Value->Prop:=Paired RelV
theorem Vals.length {xs:List V}{us:List Value}(r:Vals xs us):xs.length=us.length:=Paired.length r
theorem Vals.get:∀{xs:List V} {us:List Value} {i:Nat} {x:V},Vals xs us->xs[i]? = some x->∃u,us[i]? = some u/\RelV x u
 |_,_,_,_,.nil,e=>by simp at e|_,_,0,_,.cons r _,e=>by simp at e;subst e;exact⟨_,rfl,r⟩|_,_,i+1,x,.cons _ t,e=>by obtain⟨u,a,b⟩:=Vals.get (i:=i) (x:=x) t (by simpa using e);exact⟨u,by simpa using a,b⟩
theorem Vals.set {x:V}{u:Value}(r:RelV x u):∀{xs:List V} {us:List Value} (i:Nat),Vals xs us->Vals (xs.set i x) (us.set i u)
 |_,_,_,.nil=>.nil|_,_,0,.cons _ t=>.cons r t|_,_,i+1,.cons q t=>.cons q (Vals.set r i t)
theorem Vals.append:∀{xs ys:List V} {us ws:List Value},Vals xs us->Vals ys ws->Vals (xs++ys) (us++ws)
 |_,_,_,_,.nil,s=>s|_,_,_,_,.cons r t,s=>.cons r (Vals.append t s)
theorem Vals.take:∀{xs:List V} {us:List Value} (n:Nat),Vals xs us->Vals (xs.take n) (us.take n)
 |_,_,0,_=>.nil|_,_,_+1,.nil=>.nil|_,_,n+1,.cons r t=>.cons r (Vals.take n t)
theorem Vals.drop:∀{xs:List V} {us:List Value} (n:Nat),Vals xs us->Vals (xs.drop n) (us.drop n)
 |_,_,0,r=>r|_,_,_+1,.nil=>.nil|_,_,n+1,.cons _ t=>Vals.drop n t
noncomputable def JE:Option V->Option Value->Prop
 |some v,some u=>RelV v u|none,none=>True|_,_=>False
noncomputable def KV {a:Type}:List (a×V)->List (a×Value)->Prop:=Paired λ(p:a×V) (q:a×Value)=>p.1=q.1/\RelV p.2 q.2
noncomputable def kV:Key->V
 |.inl i=>.int i|.inr x=>.str x
def eR (h:Heap)(a:Addr)(items:Array Value):Prop:=∃o,h.get? a=some o/\o.cls = .type "tuple" /\ (∃n,o.data = .seq items n)/\o.dict=none
theorem eR.t {h:Heap}{a:Addr}{items:Array Value}(p:eR h a items):IsTup h a items:=let⟨o,h1,h2,h3,_⟩:=p;⟨o,h1,h2,h3⟩
theorem eR.new (h:Heap)(au:Array Value):eR (h.push { cls:=.type "tuple",data:=.seq au }) h.objs.size au:=⟨_,ZC _ rfl,rfl,⟨_,rfl⟩,rfl⟩
inductive HO where
 |lst (xs:List V)
 |tup (xs:List V)
 |dK (dX:List (Key×V))|dT (dX:List (List Key×V))
 |set (S:Int->Bool) (n:Nat)
 |ins (C dx:Addr) (fs:List (Str×V))
 |own (x:Addr)
 |xd (fs:List (Str×V))
 |met (f x:Addr)
 |eS (lo hi:Int)
 |me (o:Obj) (u:HO)
 |cw (p:Pos) (q:Str)
 |hZ (q:Str)
 |ext (φ:Heap->Prop)
abbrev Hp:=Addr->Option HO
noncomputable def upd (H:Hp)(a:Addr)(o:HO):Hp:=λb=>if b=a then some o else H b
theorem aP {H:Hp}{a:Addr}{o:HO}:upd H a o a=some o:=by unfold upd;rw[if_pos rfl]
theorem aC {H:Hp}{a b:Addr}{o:HO}(h:b≠a):upd H a o b=H b:=by unfold upd;rw[if_neg h]
theorem pq {H:Hp}{a b:Addr}{o u:HO}(h:H a=some o)(h':H b=some u)(d:o≠u):a≠b:=by intro e;subst e;rw[h]at h';exact d (aam h')
theorem aK {H:Hp}{a b:Addr}{o:HO}(h:H a=some o)(h':H b=none):a≠b:=by intro e;subst e;rw[h]at h';cases h'
section
variable (P:ZW)(w:World)
noncomputable def dW (H:Hp)(h:Heap)(a:Addr):HO->Prop
 |.lst xs=>xs.length<=ZM /\ ∃(au:List Value) (n:Nat),Vals xs au/\h.get? a=some { cls:=.type "list",data:=.seq au.toArray n }|.tup xs=>xs.length<=ZM /\ ∃au:List Value,Vals xs au/\eR h a au.toArray|.dK dX=>dX.length<=ZM/\(a == ace)=false /\ ∃vs,KV dX vs/\h.DictOf (eF P w) a vs
 |.dT dX=>dX.length<=ZM/\(a == ace)=false /\ ∃xs:List (List Key×Addr×Value),
  Paired (λ(p:List Key×V) (q:List Key×Addr×Value)=>p.1=q.1/\H q.2.1=some (.tup (p.1.map kV))/\RelV p.2 q.2.2) dX xs /\
  ∃o es ep,h.get? a=some o/\o.ExactDict/\o.data = .dict es ep/\es.toList=xs.map (entryOfKey (tupleKind (eF P w)))/\(xs.map (·.1)).Nodup
 |.set S n=>h.SetOf (acJ P w) a S n
 |.ins C dx fs=>H dx=some (.own a)/\fs.length<=1000/\dx≠a/\h.get? a=some (PySem.W.instObj C dx) /\
  ∃mA,h.Ns1 dx mA/\(∀f,JE (fs.lookup f) (mA f))/\PySem.Within mA (fs.map (·.1))
 |.own _=>∃o,h.get? a=some o|.xd fs=>∃mA,h.Ns1 a mA /\ ∀f,JE (fs.lookup f) (mA f)|.eS lo hi=>∃t u v,h.get? a=some { cls:=.type "range",data:=.fields #[.int lo t,.int hi u,.int 1 v] }|.me o u=>h.get? a=some o/\dW H h a u|.cw p q=>∃ps:Array Value,h.get? a=some (abP ps)/\TriplesOk ps.toList/\(codeAmong p ps.toList=none \/ ∃c,codeAmong p ps.toList=some (.ref c)/\H c=some (.hZ q))|.hZ q=>h.CodeRec (.ref a) q|.met f x=>h.get? a=some (aem (.ref f) (.ref x))|.ext φ=>φ h/\(∃o,h.get? a=some o) /\ ∀h1 h2:Heap,φ h1->(∀o,h1.get? a=some o->h2.get? a=some o)->φ h2
def dY (H:Hp)(h:Heap):Prop:=∀a o,H a=some o->dW P w H h a o
end
section
variable {P:ZW}{w:World}{H H':Hp}{h h':Heap}{a:Addr}{o:HO}
theorem dW.lt (x:dW P w H h a o):a<h.objs.size:=by
 cases o with
 |lst xs=>obtain⟨_,_,_,_,e⟩:=x;exact ZG e
 |tup xs=>obtain⟨_,_,_,p⟩:=x;exact p.t.lt
 |dK dX=>obtain⟨_,_,_,_,o,_,_,e,_⟩:=x;exact ZG e
 |dT dX=>obtain⟨_,_,_,_,o,_,_,e,_⟩:=x;exact ZG e
 |set S n=>obtain⟨o,_,_,_,e,_⟩:=x;exact ZG e
 |ins C dx fs=>obtain⟨_,_,_,e,_⟩:=x;exact ZG e
 |own y=>obtain⟨_,e⟩:=x;exact ZG e
 |xd fs=>obtain⟨_,⟨_,_,_,e,_⟩,_⟩:=x;exact ZG e
 |eS lo hi=>obtain⟨_,_,_,e⟩:=x;exact ZG e
 |me ob u=>obtain⟨e,_⟩:=x;exact ZG e
 |cw p q=>obtain⟨_,e,_⟩:=x;exact ZG e
 |hZ q=>obtain⟨_,_,_,_,b,e,_⟩:=x;cases b;exact ZG e
 |met f y=>exact ZG (show h.get? a=some _ from x)|ext φ=>obtain⟨_,⟨_,e⟩,_⟩:=x;exact ZG e
theorem Paired.JF {c e:Type}{F G:c->e->Prop}:∀{l₁:List c} {l₂:List e},Paired F l₁ l₂->(∀a b,F a b->G a b)->Paired G l₁ l₂
 |_,_,.nil,_=>.nil|_,_,.cons r t,f=>.cons (f _ _ r) (Paired.JF t f)
theorem dW.c9 (x:dW P w H h a o)(k:∀b u,(b=a\/H b=some (.own a))->h.get? b=some u->h'.get? b=some u)
  (B:∀b,H b=some (.own a)->H' b=some (.own a)) (A:∀b xs,H b=some (.tup xs)->H' b=some (.tup xs)) (E:∀b q,H b=some (.hZ q)->H' b=some (.hZ q)):dW P w H' h' a o:=by
 induction o with
 |lst xs=>obtain⟨z,au,n,r,e⟩:=x;exact⟨z,au,n,r,k _ _ (.inl rfl) e⟩
 |tup xs=>obtain⟨z,au,r,i,e,c⟩:=x;exact⟨z,au,r,i,k _ _ (.inl rfl) e,c⟩
 |dK dX=>obtain⟨z,y,vs,r,i,j,l,e,c⟩:=x;exact⟨z,y,vs,r,i,j,l,k _ _ (.inl rfl) e,c⟩
 |dT dX =>
  obtain⟨z,y,xs,r,i,j,l,e,c⟩:=x;exact⟨z,y,xs,Paired.JF r λp q z=>⟨z.1,A _ _ z.2.1,z.2.2⟩,i,j,l,k _ _ (.inl rfl) e,c⟩
 |set S n=>obtain⟨i,j,l,t,e,c⟩:=x;exact⟨i,j,l,t,k _ _ (.inl rfl) e,c⟩
 |ins C dx fs =>
  obtain⟨d,z,ne,e,mA,⟨s,j,l,e2,c⟩,r⟩:=x;exact⟨B _ d,z,ne,k _ _ (.inl rfl) e,mA,⟨s,j,l,k _ _ (.inr d) e2,c⟩,r⟩
 |own y=>obtain⟨i,e⟩:=x;exact⟨i,k _ _ (.inl rfl) e⟩
 |xd fs=>obtain⟨mA,⟨s,j,l,e,c⟩,r⟩:=x;exact⟨mA,⟨s,j,l,k _ _ (.inl rfl) e,c⟩,r⟩
 |eS lo hi=>obtain⟨t,u,v,e⟩:=x;exact⟨t,u,v,k _ _ (.inl rfl) e⟩
 |me i u ih=>obtain⟨e,q⟩:=x;exact⟨k _ _ (.inl rfl) e,ih q⟩
 |cw p q=>obtain⟨ps,e,t,r⟩:=x;exact⟨ps,k _ _ (.inl rfl) e,t,r.imp id λ⟨c,e1,e2⟩=>⟨c,e1,E _ _ e2⟩⟩
 |hZ q=>obtain⟨c,i,vs,t,e1,e,r⟩:=x;cases e1;exact⟨_,i,vs,t,rfl,k _ _ (.inl rfl) e,r⟩
 |met f y =>
  have e:h.get? a=some (aem (.ref f) (.ref y)):=x;show h'.get? a=some (aem (.ref f) (.ref y));exact k a _ (.inl rfl) e
 |ext φ=>obtain⟨p,⟨o,e⟩,st⟩:=x;exact⟨st _ _ p λo q=>k _ _ (.inl rfl) q,⟨o,k _ _ (.inl rfl) e⟩,st⟩
theorem dY.lt (x:dY P w H h)(e:H a=some o):a<h.objs.size:=(x a o e).lt
theorem dY.fresh (x:dY P w H h)(e:h.objs.size<=a):H a=none:=by
 cases q:H a with
 |none=>rfl|some u=>exact absurd (ZZ (x.lt q) e) (aaS _)
theorem dY.kept (x:dY P w H h)(k:∀b u,h.get? b=some u->h'.get? b=some u):dY P w H h':=λa o e =>
 (x a o e).c9 (λb u _ q=>k b u q) (λ_ q=>q) (λ_ _ q=>q) λ_ _ q=>q
theorem dY.laid (x:dY P w H h)(k:∀b u,h.get? b=some u->h'.get? b=some u)(i:h.objs.size<=a)(new:dW P w (upd H a o) h' a o):dY P w (upd H a o) h':=λb u e=>by
 have f:=x.fresh i;by_cases hb:b=a
 . subst hb;rw[aP]at e;cases e;exact new
 . rw[aC hb]at e
   exact(x b u e).c9 (λc v _ q=>k c v q) (λc q=>by rw[aC (aK q f)];exact q) (λc xs q=>by rw[aC (aK q f)];exact q) λc xs q=>by rw[aC (aK q f)];exact q
end
def Rd (H:Hp)(a:Addr)(u:HO):Prop:=H a=some u \/ ∃o,H a=some (.me o u)
theorem Rd.ok {P:ZW}{w:World}{H:Hp}{h:Heap}{a:Addr}{u:HO}(r:Rd H a u)(x:dY P w H h):dW P w H h a u:=by
 rcases r with r|⟨o,r⟩
 . exact x a u r
 . obtain⟨_,q⟩:=x a _ r
   exact q
noncomputable def Ff:Option HO->Prop
 |some (.lst _)=>True|some (.dK _)=>True|some (.dT _)=>True|some (.set _ _)=>True|some (.ins _ _ _)=>True|some (.ext _)=>True|_=>False
section
variable {P:ZW}{w:World}{H:Hp}{h h':Heap}{x e:Addr}{o':HO}
theorem dY.write (ok:dY P w H h)(s:Ff (H x))(A:e=x\/H e=some (.own x))(k:∀b u,b≠e->h.get? b=some u->h'.get? b=some u)(B:∃u,h'.get? e=some u)
   (new:dW P w (upd H x o') h' x o'):dY P w (upd H x o') h':=λb u q=>by
 have i:∀c y,H c=some (.own y)->c≠x:=λc y r z=>by subst z;rw[r]at s;exact s
 have j:∀c xs,H c=some (.tup xs)->c≠x:=λc xs r z=>by subst z;rw[r]at s;exact s
 have l:∀c q,H c=some (.hZ q)->c≠x:=λc xs r z=>by subst z;rw[r]at s;exact s
 by_cases hb:b=x
 . subst hb;rw[aP]at q;cases q;exact new
 . rw[aC hb]at q
   by_cases uL:b=e
   . have f:H b=some (.own x):=by
       rcases A with z|z
       . exact absurd (uL.trans z) hb
       . rw[uL];exact z
     rw[q]at f;cases f;obtain⟨v,o⟩:=B;exact⟨v,by rw[uL];exact o⟩
   . refine(ok b u q).c9 (λc v a r=>k c v ?_ r) (λc r=>by rw[aC (i c b r)];exact r) (λc xs r=>by rw[aC (j c xs r)];exact r) λc q r=>by rw[aC (l c q r)];exact r
     rcases a with rfl|a
     . exact uL
     . rintro rfl
       rcases A with z|z
       . exact i c b a z
       . rw[a]at z;cases z;exact hb rfl
end
noncomputable def JH:HO->Bool
 |.cw _ _=>true|.hZ _=>true|_=>false
structure Un (fs ex:List Addr)(H H':Hp)(h h':Heap):Prop where
 keep:∀b o,h.get? b=some o->H b=none->b ∉ fs->b ∉ ex->h'.get? b=some o
 slot:∀b o,h.get? b=some o->H b=none->b∈fs->b ∉ ex->∃sl,h'.get? b=some { o with slots:=sl }
 free:∀b o,h.get? b=some o->H b=none->b ∉ ex->H' b=none
 there:∀b o,h.get? b=some o->b ∉ ex->∃o',h'.get? b=some o'
 kh:∀b xs,H b=some (.tup xs)->H' b=some (.tup xs)
 jt:∀b o u,H b=some (.me o u)->H' b=some (.me o u)
 ju:∀b u,JH u=true->H b=some u->H' b=some u
section
variable {fs YI ex YJ:List Addr}{H H1 H2:Hp}{h h1 h2 h':Heap}{a x e:Addr}{o:HO}
theorem Un.any (u:Un fs ex H H1 h h1){b:Addr}{c:Obj}(q:h.get? b=some c)(n:H b=none)(f:b ∉ ex):∃sl,h1.get? b=some { c with slots:=sl }:=by
 by_cases hb:b∈fs
 . exact u.slot b c q n hb f
 . exact⟨c.slots,u.keep b c q n hb f⟩
theorem Un.kept (k:∀b u,h.get? b=some u->h'.get? b=some u):Un fs ex H H h h' :=
 ⟨λb a q _ _ _=>k b a q,λb a q _ _ _=>⟨a.slots,k b a q⟩,λ_ _ _ n _=>n,λb a q _=>⟨a,k b a q⟩,λ_ _ q=>q,λ_ _ _ q=>q,λ_ _ _ q=>q⟩
theorem Un.refl:Un fs ex H H h h:=Un.kept λ_ _ q=>q
theorem Un.laid (k:∀b u,h.get? b=some u->h'.get? b=some u)(f:h.objs.size<=a)(c:H a=none):Un fs ex H (upd H a o) h h' where
 keep:=λb u q _ _ _=>k b u q
 slot:=λb u q _ _ _=>⟨u.slots,k b u q⟩
 free:=λb u q n _=>by rw[aC (Z1 (ZZ (ZG q) f))];exact n
 there:=λb u q _=>⟨u,k b u q⟩
 kh:=λb xs q=>by rw[aC (aK q c)];exact q
 jt:=λb u xs q=>by rw[aC (aK q c)];exact q
 ju:=λb u _ q=>by rw[aC (aK q c)];exact q
theorem Un.write (f:Ff (H x))(j:e=x\/H e=some (.own x))(k:∀b u,b≠e->h.get? b=some u->h'.get? b=some u)(i:∃u,h'.get? e=some u):Un fs ex H (upd H x o) h h':=by
 have c:∀b,H b=none->b≠x:=λb n z=>by subst z;rw[n]at f;exact f
 have a:∀b,H b=none->b≠e:=λb n z=>by
   subst z;rcases j with r|r
   . exact c b n r
   . rw[n]at r;cases r
 have hm:∀b u,H b=some u->¬Ff (some u)->b≠x:=λb u q nm z=>by subst z;rw[q]at f;exact nm f
 refine⟨λb u q n _ _=>k b u (a b n) q,λb u q n _ _=>⟨u.slots,k b u (a b n) q⟩,λb u q n _=>by rw[aC (c b n)];exact n,λb u q _=>?_,
   λb xs q=>by rw[aC (hm b _ q λz=>z)];exact q,λb u xs q=>by rw[aC (hm b _ q λz=>z)];exact q,λb v t q=>by rw[aC (hm b _ q λz=>by cases v<;>first|exact z|cases t)];exact q⟩
 by_cases uL:b=e
 . subst uL;exact i
 . exact⟨u,k b u uL q⟩
end
noncomputable def jV (h:Heap)(H:Hp):List Addr:=(ZN h.objs.size).filter λa=>(H a).isSome
noncomputable def lg (h:Heap)(H:Hp):Heap:=PySem.W.hideAll h (jV h H)
theorem AR (h:Heap)(H:Hp):(lg h H).objs.size=h.objs.size:=PySem.W.hideAll_size _ _
theorem Dw {h:Heap}{H:Hp}{b:Addr}{o:Obj}(e:h.get? b=some o)(n:H b=none):(lg h H).get? b=some o :=
 PySem.W.hideAll_get _ e λhm=>by have q:(H b).isSome=true:=(aa5.mp hm).2;rw[n]at q;simp at q
theorem Ha {h:Heap}{H:Hp}{b:Addr}{o:Obj}(e:(lg h H).get? b=some o):h.get? b=some o/\H b=none:=by
 have a:h.get? b=some o:=PySem.W.of_hideAll (jV h H) e;refine⟨a,?_⟩;cases q:H b with
 |none=>rfl
 |some x =>
  have hm:b∈jV h H:=aa5.mpr ⟨aap.mpr (ZG a),by simp[q]⟩;have z:(lg h H).get? b=none:=PySem.W.hideAll_none (jV h H) hm;rw[z]at e;cases e
noncomputable def Hb (g h:Heap)(L:Addr):List (Addr×Obj):=(ZN h.objs.size).filterMap λa=>if a=L\/(g.get? a).isSome=true then none else(h.get? a).map λo=>(a,o)
noncomputable def rest (g h:Heap)(L d:Addr):List (Addr×Obj):=(Hb g h L).filter λp=>decide (p.1≠d)
structure Mod (K:ZF)(mg:Str->Option Value)(base:Heap):Prop where
 kz:K.In base
 glob:base.Ns Z_ mg
 blt:∃mb,base.Ns aeu mb /\ ∀x:Str,x ≠ "__name__"->mb x=abU x
 nolimit:base.NoLimit
 bm:∃bm ob,BMod base Z_ mg bm ob
structure dR where
 ar:acz
 bd:Expr
 sc:Scope
 qual:Str
 fv:List Str
 ps:List Str
structure Lx where
 tb:List (Addr×Pos×Str)
 lm:Str->Option dR
structure Cx where
 prog:ZW
 w:World
 K:ZF
 mg:Str->Option Value
 base:Heap
 A:ZY
 N:List Str
 s₀:Zo
 H₀:Hp
 env:Env
 outer:List Env
 stack:List Env
 ex:List Addr
 fn:Str->Bool
 calm:Bool
 pn:List (Addr×Obj)
 xe:Value->Zo->Prop
 lx:Lx
noncomputable def jW (l:List Env):List Addr:=l.filterMap (·.frame)
noncomputable abbrev Cx.fs (X:Cx):List Addr:=jW X.outer
def AS (sc:Scope)(x:Str):Prop:=sc.names.lookup x=some .local\/sc.names.lookup x=some .cell\/sc.names.lookup x=some .free
def Loc (sc:Scope)(x:Str):Prop:=sc.names.lookup x=some .local\/sc.names.lookup x=some .cell
noncomputable def Look (env:Env)(h:Heap)(m:Str->Option Value)(x:Str)(u:Value):Prop :=
 (env.kindOf x=some .local/\m x=some u)\/((env.kindOf x=some .cell\/env.kindOf x=some .free) /\ ∃c,env.cells.lookup x=some c/\h.IsCell c (some u))
structure Cx.Ok (X:Cx):Prop where
 mod:Mod X.K X.mg X.base
 kind:X.env.scope.kind = .function
 glob:X.env.globals=Z_
 blt:X.env.builtins=aeu
 above:X.s₀.heap.objs.size<=X.env.locals
 inj:∀x y c,X.env.cells.lookup x=some c->X.env.cells.lookup y=some c->x=y
 has:∀x,(X.env.kindOf x=some .cell\/X.env.kindOf x=some .free)->∃c,X.env.cells.lookup x=some c
 xl:∀x c,X.fn x=true->X.env.cells.lookup x=some c->X.s₀.heap.objs.size<=c
 hd:X.calm=true->X.A.handled=none
 frames:X.A.frames=some X.stack
 uM:X.stack=X.outer\/(X.stack=X.env::X.outer/\X.env.frame=some X.env.locals)
 JI:∀b∈X.ex,b≠X.env.locals /\ ∀x c,X.env.cells.lookup x=some c->c≠b
 bs:∀b o,X.base.get? b=some o->X.s₀.heap.get? b=some o/\X.H₀ b=none
 mI:X.base.objs.size<=X.s₀.heap.objs.size
 oJ:∀b o,X.base.get? b=some o->b ∉ X.ex
 uN:∀b∈X.ex,b ∉ X.fs
 gS:X.s₀.heap.FunFrames X.base X.outer
 pv:∀b∈X.fs,X.H₀ b=none
structure Inv (X:Cx)(a8:List (Addr×Obj))(σ:List (Option V))(H:Hp)(s:Zo):Prop where
 ok:X.Ok
 os:s.os=X.s₀.os
 bare:adw s.gens
 base:Un X.fs X.ex X.H₀ H X.s₀.heap s.heap
 loc:∃m,s.heap.Ns X.env.locals m /\ ∀(i:Nat) (x:Str) (v:V),X.N[i]? = some x->σ[i]? = some (some v)->AS X.env.scope x->∃u,RelV v u/\Look X.env s.heap m x u
 cell:∀x c,X.env.cells.lookup x=some c->∃v,s.heap.IsCell c v
 free:H X.env.locals=none
 gu:∀x c,X.env.cells.lookup x=some c->H c=none
 pin:∀p∈X.pn++a8,s.heap.get? p.1=some p.2/\H p.1=none/\p.1≠X.env.locals/\p.1 ∉ X.fs /\ ∀v,p.2.data ≠ .cell v
 aS:dY X.prog X.w H s.heap
 len:σ.length=X.N.length
section
variable {X:Cx}{a8:List (Addr×Obj)}{σ:List (Option V)}{H H':Hp}{s:Zo}{h':Heap}
theorem Cx.Ok.SQ (ok:X.Ok){b:Addr}{o:Obj}(e:X.base.get? b=some o):b ∉ X.fs:=λa=>by have:=(ok.gS.mem a).1;rw[e]at this;cases this
theorem Inv.bs (I:Inv X a8 σ H s):∀b o,X.base.get? b=some o->s.heap.get? b=some o/\H b=none:=λb o e =>
 ⟨I.base.keep b o (I.ok.bs b o e).1 (I.ok.bs b o e).2 (I.ok.SQ e) (I.ok.oJ b o e),I.base.free b o (I.ok.bs b o e).1 (I.ok.bs b o e).2 (I.ok.oJ b o e)⟩
theorem Inv.bk (I:Inv X a8 σ H s):∀b o,X.base.get? b=some o->s.heap.get? b=some o:=λb o e=>(I.bs b o e).1
theorem Inv.mod (I:Inv X a8 σ H s):Mod X.K X.mg X.base:=I.ok.mod
theorem Inv.mf (I:Inv X a8 σ H s):X.K.In s.heap:=I.ok.mod.kz.keeps I.bk
theorem Inv.lt (I:Inv X a8 σ H s):X.env.locals<s.heap.objs.size:=let⟨_,hn,_⟩:=I.loc;hn.lt
theorem Inv.sz (I:Inv X a8 σ H s):X.s₀.heap.objs.size<=s.heap.objs.size:=Z4 I.ok.above (aco I.lt)
theorem Inv.SR (I:Inv X a8 σ H s){a:Addr}(h:s.heap.objs.size<=a):a ∉ X.fs:=λb=>by obtain⟨_,o,c,_⟩:=I.ok.gS.mem b;exact absurd (ZZ (ZG c) (Z4 I.sz h)) (aaS _)
theorem Inv.rY (I:Inv X a8 σ H s):∀x c,X.env.cells.lookup x=some c->c≠X.env.locals:=λx c e z=>by obtain⟨v,o,a,hd⟩:=I.cell x c e;obtain⟨m,⟨i,h,j,f,b,_⟩,_⟩:=I.loc;rw[z,f]at a;cases a;rw[b]at hd;cases hd
theorem Inv.gS (I:Inv X a8 σ H s):s.heap.FunFrames X.base X.outer:=by
 have all:∀(l:List Env),(∀b∈jW l,b∈X.fs)->X.s₀.heap.FunFrames X.base l->s.heap.FunFrames X.base l:=by
  intro l;induction l with
  |nil=>intro _ _;trivial
  |cons env r ih =>
   intro f k;obtain⟨h,⟨L,o,hf,j,q,hd⟩,i⟩:=k;have a:L∈X.fs:=f L (by unfold jW;rw[aax,hf];exact ZU);obtain⟨u,e⟩:=I.base.slot L o q (I.ok.pv L a) a λz=>I.ok.uN L z a;exact⟨h,⟨L,_,hf,j,e,hd⟩,ih (λb c=>f b (by unfold jW;rw[aax,hf];exact Zz _ c)) i⟩
 exact all X.outer (λ_ c=>c) I.ok.gS
theorem Inv.stack (I:Inv X a8 σ H s):s.heap.FunFrames X.base X.stack:=by
 rcases I.ok.uM with e|⟨e,hf⟩
 . rw[e];exact I.gS
 . rw[e]
   obtain⟨m,a,_⟩:=I.loc;refine .cons (by rw[I.ok.kind];decide) hf a ?_ I.gS;exact Heap.get?_none_of_le (Z4 I.ok.mI I.ok.above)
theorem Inv.pz (I:Inv X a8 σ H s):∀b∈jW X.stack,b∈X.env.locals::X.fs:=λb a=>by
 rcases I.ok.uM with e|⟨e,hf⟩
 . rw[e]at a;exact Zz _ a
 . rw[e]at a
   unfold jW at a;rw[aax,hf]at a;exact a
theorem Inv.xm (I:Inv X a8 σ H s):∀b∈jW X.stack,H b=none:=λb a=>by
 rcases Zx.mp (I.pz b a)with e|a
 . rw[e];exact I.free
 . obtain⟨_,o,c,_⟩:=I.ok.gS.mem a
   exact I.base.free b o c (I.ok.pv b a) λz=>I.ok.uN b z a
theorem Inv.step {g':Array aeF}{t':Nat}{d':Drawn}{ch:List Addr}(I:Inv X a8 σ H s)
   (E:∀b∈ch,(b∈X.ex\/X.s₀.heap.objs.size<=b)/\b≠X.env.locals/\(∀x c,X.env.cells.lookup x=some c->c≠b) /\ ∀p∈X.pn++a8,p.1≠b)
   (B:∀b o,b≠X.env.locals->b ∉ X.fs->b ∉ ch->s.heap.get? b=some o->H b=none->h'.get? b=some o)
   (slot:∀b o,b≠X.env.locals->b∈X.fs->b ∉ ch->s.heap.get? b=some o->H b=none->∃sl,h'.get? b=some { o with slots:=sl }) (A:∀b o,b ∉ ch->s.heap.get? b=some o->H b=none->H' b=none)
   (C:∀b o,b ∉ ch->s.heap.get? b=some o->∃o',h'.get? b=some o')
   (J:∀b xs,H b=some (.tup xs)->H' b=some (.tup xs)) (M:∀b o u,H b=some (.me o u)->H' b=some (.me o u)) (N:∀b u,JH u=true->H b=some u->H' b=some u)
   (ns:∀m,s.heap.Ns X.env.locals m->h'.Ns X.env.locals m) (K:dY X.prog X.w H' h') (L:adw g'):
   Inv X a8 σ H' { s with heap:=h',gens:=g',drawn:=d',toks:=t' }:=by
 have QJ:∀b o,X.s₀.heap.get? b=some o->b≠X.env.locals:=λb o e=>Z1 (ZZ (ZG e) I.ok.above);have Fg:∀b o,X.s₀.heap.get? b=some o->b ∉ X.ex->b ∉ ch:=λb o e a h=>by
   rcases (E b h).1 with z|z
   . exact a z
   . exact absurd (ZZ (ZG e) z) (aaS _)
 have cellK:∀x c,X.env.cells.lookup x=some c->∀v,s.heap.IsCell c v->h'.IsCell c v:=λx c e v ⟨o,j,hd⟩=>by
   have y:c ∉ ch:=λz=>(E c z).2.2.1 x c e rfl;by_cases hc:c∈X.fs
   . obtain⟨sl,q⟩:=slot c o (I.rY x c e) hc y j (I.gu x c e)
     exact⟨_,q,hd⟩
   . exact⟨o,B c o (I.rY x c e) hc y j (I.gu x c e),hd⟩
 refine⟨I.ok,I.os,L,⟨λb o e n h a=>?_,λb o e n h a=>?_,λb o e n a=>?_,λb o e a=>?_,λb xs e=>J b xs (I.base.kh b xs e),λb o xs e=>M b o xs (I.base.jt b o xs e),λb u t e=>N b u t (I.base.ju b u t e)⟩,?_,λx c e=>?_,?_,λx c e=>?_,λp hp=>?_,K,I.len⟩
 . exact B b o (QJ b o e) h (Fg b o e a) (I.base.keep b o e n h a) (I.base.free b o e n a)
 . obtain⟨sl,f⟩:=I.base.slot b o e n h a
   obtain⟨mJ,e2⟩:=slot b _ (QJ b o e) h (Fg b o e a) f (I.base.free b o e n a);exact⟨mJ,e2⟩
 . obtain⟨o',f⟩:=I.base.there b o e a
   exact A b o' (Fg b o e a) f (I.base.free b o e n a)
 . obtain⟨o',f⟩:=I.base.there b o e a
   exact C b o' (Fg b o e a) f
 . obtain⟨m,hn,hl⟩:=I.loc
   refine⟨m,ns m hn,λi x v f e2 e3=>?_⟩;obtain⟨u,r,l⟩:=hl i x v f e2 e3;refine⟨u,r,?_⟩;rcases l with l|⟨k,c,e,z⟩
   . exact .inl l
   . exact .inr ⟨k,c,e,cellK x c e _ z⟩
 . obtain⟨v,z⟩:=I.cell x c e
   exact⟨v,cellK x c e v z⟩
 . obtain⟨m,⟨o,_,_,j,_⟩,_⟩:=I.loc
   exact A _ o (λz=>(E _ z).2.1 rfl) j I.free
 . obtain⟨v,o,j,hd⟩:=I.cell x c e
   exact A c o (λz=>(E c z).2.2.1 x c e rfl) j (I.gu x c e)
 . obtain⟨e,n,ne,nf,d⟩:=I.pin p hp
   have y:p.1 ∉ ch:=λz=>(E p.1 z).2.2.2 p hp rfl;exact⟨B p.1 p.2 ne nf y e n,A p.1 p.2 y e n,ne,nf,d⟩
theorem Inv.un {t':Nat}(I:Inv X a8 σ H s)(u:Un X.fs [] H H' s.heap h')(A:dY X.prog X.w H' h'):Inv X a8 σ H' { s with heap:=h',toks:=t' }:=by
 obtain⟨m,⟨o,q,x,f,r⟩,_⟩:=id I.loc;obtain⟨sl,h⟩:=u.any f I.free (by simp);exact I.step (g':=s.gens) (d':=s.drawn) (ch:=[]) (λ_ z=>nomatch z) (λb o _ a _ e n=>u.keep b o e n a (by simp)) (λb o _ a _ e n=>u.slot b o e n a (by simp)) (λb o _ e n=>u.free b o e n (by simp)) (λb o _ e=>u.there b o e (by simp)) u.kh u.jt u.ju (λy hm=>by obtain⟨l,i,k,c,j⟩:=hm;rw[f]at c;cases c;exact⟨_,i,k,h,j⟩) A I.bare
theorem Inv.call {g':Array aeF}{t':Nat}{d':Drawn}{ch:List Addr}(I:Inv X a8 σ H s)(u:Un (jW X.stack) ch H H' s.heap h')(B:dY X.prog X.w H' h')(C:adw g')
  (A:∀b∈ch,(b∈X.ex\/X.s₀.heap.objs.size<=b)/\b≠X.env.locals/\(∀x c,X.env.cells.lookup x=some c->c≠b) /\ ∀p∈X.pn++a8,p.1≠b):
  Inv X a8 σ H' { s with heap:=h',gens:=g',drawn:=d',toks:=t' }:=by
 obtain⟨m,⟨o,es,ep,i,r⟩,_⟩:=id I.loc;obtain⟨sl,f⟩:=u.any i I.free λz=>(A _ z).2.1 rfl;exact I.step (ch:=ch) A (λb o f l a e n=>u.keep b o e n (λz=>(Zx.mp (I.pz b z)).elim f l) a) (λb o _ _ a e n=>u.any e n a) (λb o a e n=>u.free b o e n a) (λb o a e=>u.there b o e a) u.kh u.jt u.ju (λm' hm=>by obtain⟨y,j,q,h,k⟩:=hm;rw[i]at h;cases h;exact⟨_,j,q,f,k⟩) B C
theorem Inv.turned {t':Nat}{it:Addr}(I:Inv X a8 σ H s)(k:∀b o,b≠it->s.heap.get? b=some o->h'.get? b=some o)(C:H it=none)(y:it≠X.env.locals)
   (A:it∈X.ex\/X.s₀.heap.objs.size<=it) (B:∀x c,X.env.cells.lookup x=some c->c≠it) (E:∀p∈X.pn++a8,p.1≠it):Inv X a8 σ H { s with heap:=h',toks:=t' }:=by
 have f:∀b u,H b=some u->b≠it:=λb u e z=>by rw[z,C]at e;cases e
 refine I.step (g':=s.gens) (d':=s.drawn) (ch:=[it]) (λb l=>?_) (λb o _ _ a e _=>k b o (λz=>a (by simp[z])) e) (λb o _ _ a e _=>⟨o.slots,k b o (λz=>a (by simp[z])) e⟩) (λ_ _ _ _ n=>n)
   (λb o a e=>⟨o,k b o (λz=>a (by simp[z])) e⟩) (λ_ _ e=>e) (λ_ _ _ e=>e) (λ_ _ _ e=>e) (λm hm=>?_) (λb u e=>?_) I.bare
 . have e:b=it:=by simpa using l
   subst e;exact⟨A,y,B,E⟩
 . obtain⟨o,h,j,i,r⟩:=hm
   exact⟨o,h,j,k _ o (abi y) i,r⟩
 . refine(I.aS b u e).c9 (λc v a q=>k c v ?_ q) (λ_ q=>q) (λ_ _ q=>q) λ_ _ q=>q
   rcases a with z|z
   . rw[z];exact f b u e
   . exact f c _ z
theorem Inv.tok (I:Inv X a8 σ H s)(t:Nat):Inv X a8 σ H { s with toks:=t }:=I.un (h':=s.heap) (t':=t) Un.refl I.aS
theorem Inv.kept {t':Nat}(I:Inv X a8 σ H s)(k:∀b u,s.heap.get? b=some u->h'.get? b=some u):Inv X a8 σ H { s with heap:=h',toks:=t' }:=I.un (Un.kept k) (I.aS.kept k)
theorem Inv.laid {a:Addr}{o:HO}{t':Nat}(I:Inv X a8 σ H s)(k:∀b u,s.heap.get? b=some u->h'.get? b=some u)(c:s.heap.objs.size<=a)(new:dW X.prog X.w (upd H a o) h' a o):
 Inv X a8 σ (upd H a o) { s with heap:=h',toks:=t' }:=I.un (Un.laid k c (I.aS.fresh c)) (I.aS.laid k c new)
theorem Inv.write {x e:Addr}{o:HO}{t':Nat}(I:Inv X a8 σ H s)(c:Ff (H x))(f:e=x\/H e=some (.own x))(k:∀b u,b≠e->s.heap.get? b=some u->h'.get? b=some u)(a:∃u,h'.get? e=some u)
 (new:dW X.prog X.w (upd H x o) h' x o):Inv X a8 σ (upd H x o) { s with heap:=h',toks:=t' }:=I.un (Un.write c f k a) (I.aS.write c f k a new)
theorem Inv.xn {b:List (Addr×Obj)}(I:Inv X a8 σ H s)(h:∀p∈b,s.heap.get? p.1=some p.2/\H p.1=none/\p.1≠X.env.locals/\p.1 ∉ X.fs /\ ∀v,p.2.data ≠ .cell v):Inv X b σ H s :=
 ⟨I.ok,I.os,I.bare,I.base,I.loc,I.cell,I.free,I.gu,λp a=>(Zy.mp a).elim (λz=>I.pin p (adA _ z)) (h p),I.aS,I.len⟩
theorem uP {N:List Str}(k:N.Nodup){i j:Nat}{x:Str}(a:N[i]? = some x)(b:N[j]? = some x):i=j:=by obtain⟨h,e⟩:=Zq.mp a;obtain⟨f,c⟩:=Zq.mp b;exact(aeG k).mp (e.trans c.symm)
theorem rZ {M:Model}{A:ZY}{E:Value->Zo->Prop}{i:Nat}{x:Str}{v:V}{u:Value}{Q:Unit->Zo->Prop}(I:Inv X a8 σ H s)(J:X.N.Nodup)(C:X.N[i]? = some x)(B:Loc X.env.scope x)(r:RelV v u)
   (h:∀s',Inv X a8 (σ.set i (some v)) H s'->(∃a,abD a s.heap s'.heap/\(a=X.env.locals\/X.env.cells.lookup x=some a))->Q () s') (K:X.fn x=true\/X.env.scope.names.lookup x=some .local:=by first|exact .inl rfl|exact .inr rfl|assumption):wpAny M A (storeName X.env x u) Q E s:=by
 obtain⟨m,hn,hl⟩:=id I.loc;have SS:(X.env.scope.kind == .class||(X.env.scope.kind == .module&&X.env.locals != X.env.globals))=false:=by rw[I.ok.kind];rfl
 have ab:i < σ.length:=by rw[I.len];exact(Zq.mp C).1
 have rY:=I.rY;have tracked:∀{a:Addr} {h':Heap},(∃o,s.heap.get? a=some o/\H a=none)->abD a s.heap h'->dY X.prog X.w H h':=fun {a h'} ha f b ob e=>by
   obtain⟨_,_,pA⟩:=ha;refine(I.aS b ob e).c9 (λc w' hc q=>(f.2 c ?_).trans q) (λ_ q=>q) (λ_ _ q=>q) λ_ _ q=>q;rintro rfl;rcases hc with rfl|hc
   . rw[pA]at e;cases e
   . rw[pA]at hc;cases hc
 rcases B with hk|hk
 . refine wpAny_storeName_local hk hn (λh' VY f=>?_) SS
   obtain⟨oL,_,_,AW,_⟩:=id hn;refine h _ ⟨I.ok,I.os,I.bare,⟨λb o e n hb B=>?_,λb o e n hb B=>?_,I.base.free,λb o e B=>?_,I.base.kh,I.base.jt,I.base.ju⟩,⟨_,VY,λj y v' l e2 e3=>?_⟩,λy c e=>?_,I.free,I.gu,λp hp=>?_,tracked ⟨oL,AW,I.free⟩ f,by simpa using I.len⟩ ⟨_,f,.inl rfl⟩
   . exact(f.2 b (Z1 (ZZ (ZG e) I.ok.above))).trans (I.base.keep b o e n hb B)
   . obtain⟨sl,l⟩:=I.base.slot b o e n hb B
     exact⟨sl,(f.2 b (Z1 (ZZ (ZG e) I.ok.above))).trans l⟩
   . obtain⟨o',l⟩:=I.base.there b o e B
     exact⟨o',(f.2 b (Z1 (ZZ (ZG e) I.ok.above))).trans l⟩
   . by_cases hj:j=i
     . subst hj
       rw[C]at l;cases l;rw[Z0 ab]at e2;cases e2;exact⟨u,r,.inl ⟨hk,by simp⟩⟩
     . rw[abm (abi hj)]at e2
       obtain⟨u',r',q⟩:=hl j y v' l e2 e3;refine⟨u',r',?_⟩;rcases q with⟨k,e⟩|⟨k,c,e,z⟩
       . refine .inl ⟨k,?_⟩
         have:y≠x:=λe=>hj (uP J l (e ▸ C));simp[this,e]
       . exact .inr ⟨k,c,e,z.sameBut f (rY y c e)⟩
   . obtain⟨w',z⟩:=I.cell y c e
     exact⟨w',z.sameBut f (rY y c e)⟩
   . obtain⟨e,n,ne,nf,d⟩:=I.pin p hp
     exact⟨(f.2 p.1 ne).trans e,n,ne,nf,d⟩
 . have r6:X.fn x=true:=by
     rcases K with z|z
     . exact z
     . rw[z]at hk;cases hk
   obtain⟨c,hc⟩:=I.ok.has x (.inl hk);obtain⟨w',z⟩:=I.cell x c hc;refine wpAny_storeName_cell I.ok.kind hk hc z (λh' Fi f=>?_);obtain⟨oc,QK,SU⟩:=id z;refine h { s with heap:=h' } ⟨I.ok,I.os,I.bare,⟨λb o e n hb B=>?_,λb o e n hb B=>?_,I.base.free,λb o e B=>?_,I.base.kh,I.base.jt,I.base.ju⟩,⟨m,hn.sameBut f (abi (rY x c hc)),λj y v' l e2 e3=>?_⟩,λy c' e=>?_,I.free,I.gu,λp hp=>?_,tracked ⟨oc,QK,I.gu x c hc⟩ f,by simpa using I.len⟩ ⟨c,f,.inr hc⟩
   . exact(f.2 b (Z1 (ZZ (ZG e) (I.ok.xl x c r6 hc)))).trans (I.base.keep b o e n hb B)
   . obtain⟨sl,l⟩:=I.base.slot b o e n hb B
     exact⟨sl,(f.2 b (Z1 (ZZ (ZG e) (I.ok.xl x c r6 hc)))).trans l⟩
   . obtain⟨o',l⟩:=I.base.there b o e B
     exact⟨o',(f.2 b (Z1 (ZZ (ZG e) (I.ok.xl x c r6 hc)))).trans l⟩
   . by_cases hj:j=i
     . subst hj
       rw[C]at l;cases l;rw[Z0 ab]at e2;cases e2;exact⟨u,r,.inr ⟨.inl hk,c,hc,Fi⟩⟩
     . rw[abm (abi hj)]at e2
       obtain⟨u',r',q⟩:=hl j y v' l e2 e3;refine⟨u',r',?_⟩;rcases q with q|⟨k,c',e,z'⟩
       . exact .inl q
       . refine .inr ⟨k,c',e,z'.sameBut f ?_⟩
         rintro rfl;exact hj (uP J l (I.ok.inj _ _ _ e hc ▸ C))
   . by_cases QL:c'=c
     . subst QL;exact⟨_,Fi⟩
     . obtain⟨w2,z2⟩:=I.cell y c' e
       exact⟨w2,z2.sameBut f QL⟩
   . obtain⟨e,n,ne,nf,d⟩:=I.pin p hp
     refine⟨(f.2 p.1 ?_).trans e,n,ne,nf,d⟩;intro q;rw[q,QK]at e;have q':oc=p.2:=aam e;exact d w' (by rw[<- q'];exact SU)
theorem jv {M:Model}{A:ZY}{E:Value->Zo->Prop}{i:Nat}{x:Str}{v:V}{u:Value}{Q:Unit->Zo->Prop}(I:Inv X a8 σ H s)(b:X.N.Nodup)(e:X.N[i]? = some x)(f:Loc X.env.scope x)(r:RelV v u)
  (h:∀s',Inv X a8 (σ.set i (some v)) H s'->Q () s') (c:X.fn x=true\/X.env.scope.names.lookup x=some .local:=by first|exact .inl rfl|exact .inr rfl|assumption):wpAny M A (storeName X.env x u) Q E s :=
 rZ I b e f r (λs' a _=>h s' a) c
theorem Inv.Oo {s':Zo}{ch:List Addr}(I:Inv X a8 σ H s)(h:s'.os=s.os)(u:Un (jW X.stack) ch H H' s.heap s'.heap)(j:dY X.prog X.w H' s'.heap)(k:adw s'.gens)
  (i:∀b∈ch,(b∈X.ex\/X.s₀.heap.objs.size<=b)/\b≠X.env.locals/\(∀x c,X.env.cells.lookup x=some c->c≠b) /\ ∀p∈X.pn++a8,p.1≠b):Inv X a8 σ H' s':=by
 obtain⟨f,g',d',t',a⟩:=s';have e:a=s.os:=h;subst e;exact I.call (g':=g') (t':=t') (d':=d') u j k i
end
abbrev XK:=Value->Option Addr->Hp->Prop
abbrev St:=List (Option V)
abbrev VK:=V->Hp->Prop
abbrev TE:=St->Hp->VK->Prop
abbrev TT:=St->Hp->(Bool->Hp->Prop)->Prop
abbrev TA:=St->Hp->(List V->Hp->Prop)->Prop
structure Ends where
 nx:St->Hp->Prop
 rt:VK
 bk:St->Hp->Prop:=λ_ _=>False
 ct:St->Hp->Prop:=λ_ _=>False
abbrev TS:=Ends->St->Hp->Prop
def EP (X:Cx)(a8:List (Addr×Obj))(σ:St)(Q:VK)(u:Value)(a:Zo):Prop:=∃v H',Inv X a8 σ H' a/\RelV v u/\Q v H'
def TP (X:Cx)(a8:List (Addr×Obj))(σ:St)(Q:Bool->Hp->Prop)(b:Bool)(a:Zo):Prop:=∃H',Inv X a8 σ H' a/\Q b H'
def AP (X:Cx)(a8:List (Addr×Obj))(σ:St)(Q:List V->Hp->Prop)(us:List Value)(a:Zo):Prop:=∃vs H',Inv X a8 σ H' a/\Vals vs us/\Q vs H'
noncomputable def SP (X:Cx)(a8:List (Addr×Obj))(D:Ends)(f:Flow)(a:Zo):Prop :=
 match f with
 |.next=>∃σ' H',Inv X a8 σ' H' a/\D.nx σ' H'|.brk=>∃σ' H',Inv X a8 σ' H' a/\D.bk σ' H'|.cont=>∃σ' H',Inv X a8 σ' H' a/\D.ct σ' H'|.ret u=>∃v σ' H',Inv X a8 σ' H' a/\RelV v u/\D.rt v H'
noncomputable def PE (X:Cx)(e:Expr)(t:TE):Prop :=
 ∀(a8:List (Addr×Obj)) (s:Zo) (σ:St) (H:Hp) (Q:VK),Inv X a8 σ H s->t σ H Q->wpAny (model X.prog X.w) X.A (eval e X.env) (EP X a8 σ Q) X.xe s
noncomputable def PT (X:Cx)(e:Expr)(t:TT):Prop :=
 ∀(a8:List (Addr×Obj)) (s:Zo) (σ:St) (H:Hp) (Q:Bool->Hp->Prop),Inv X a8 σ H s->t σ H Q->wpAny (model X.prog X.w) X.A (isTrue e X.env (eval e X.env)) (TP X a8 σ Q) X.xe s
noncomputable def PW (X:Cx)(e:Expr)(t:TT):Prop :=
 ∀(whole:Sem Value) (a8:List (Addr×Obj)) (s:Zo) (σ:St) (H:Hp) (Q:Bool->Hp->Prop),Inv X a8 σ H s->t σ H Q->wpAny (model X.prog X.w) X.A (isTrue e X.env whole) (TP X a8 σ Q) X.xe s
theorem PW.pt {X:Cx}{e:Expr}{t:TT}(h:PW X e t):PT X e t:=h _
noncomputable def PA (X:Cx)(es:List Expr)(t:TA):Prop :=
 ∀(pos:Pos) (a8:List (Addr×Obj)) (s:Zo) (σ:St) (H:Hp) (Q:List V->Hp->Prop),Inv X a8 σ H s->t σ H Q->wpAny (model X.prog X.w) X.A (spliced (abp pos (ZO es X.env))) (AP X a8 σ Q) X.xe s
noncomputable def PS (X:Cx)(a:Stmt)(t:TS):Prop :=
 ∀(a8:List (Addr×Obj)) (s:Zo) (σ:St) (H:Hp) (D:Ends),Inv X a8 σ H s->t D σ H->wpAny (model X.prog X.w) X.A (exec a X.env) (SP X a8 D) X.xe s
noncomputable def gU (X:Cx)(a:List Stmt)(t:TS):Prop :=
 ∀(a8:List (Addr×Obj)) (s:Zo) (σ:St) (H:Hp) (D:Ends),Inv X a8 σ H s->t D σ H->wpAny (model X.prog X.w) X.A (execs a X.env) (SP X a8 D) X.xe s
theorem aW {c:Type}{t:Sem c}{Q b:c->Zo->Prop}{M:Model}{A:ZY}{E:Value->Zo->Prop}{s:Zo}(h:wpAny M A t Q E s)(e:∀a s,Q a s->b a s):wpAny M A t b E s:=adB h e λ_ _ x=>x
section
variable {X:Cx}
noncomputable def SV (i:Nat):TE:=λσ H Q=>∃v,σ[i]? = some (some v)/\Q v H
noncomputable def tC (v:V):TE:=λ_ H Q=>Q v H
theorem JK {i:Nat}{x:Str}{f:Pos}(k:X.N[i]? = some x)(q:AS X.env.scope x)(j:(x == ("__debug__":Str))=false:=by decide)(o:(x == ("__classdict__":Str))=false:=by decide):PE X (.Name x f) (SV i):=by
 intro a8 s σ H Q I h;obtain⟨v,e,h⟩:=h;obtain⟨m,a,b⟩:=I.loc;obtain⟨u,r,l⟩:=b i x v k e q;have fin:EP X a8 σ Q u s:=⟨v,H,I,r,h⟩
 rcases l with⟨hk,hm⟩|⟨hk,c,hc,fT⟩
 . exact adC (adD I.ok.kind hk a hm fin) j
 . rcases hk with hk|hk
   . exact adC (adQ I.ok.kind hk hc fT fin) j
   . exact adC (afH I.ok.kind hk hc fT fin o) j
theorem JL {i j a}:PE X (.Constant (.int i) j a) (tC (.int i)):=λ_ _ _ H _ I h=>wpAny_Constant_int ⟨.int i,H,I.tok _,⟨_,rfl⟩,h⟩
theorem Oq {b j a}:PE X (.Constant (.bool b) j a) (tC (.bl b)):=λ_ _ _ H _ I h=>Constant_bool ⟨.bl b,H,I,rfl,h⟩
theorem JM {j a}:PE X (.Constant .none j a) (tC .ay):=λ_ _ _ H _ I h=>Constant_none ⟨.ay,H,I,rfl,h⟩
theorem JN {x j a}:PE X (.Constant (.str x) j a) (tC (.str x)):=λ_ _ _ H _ I h=>afQ ⟨.str x,H,I.tok _,⟨_,rfl⟩,h⟩
def Gl (X:Cx)(x:Str):Prop:=X.env.kindOf x=some .globalImplicit
theorem nG {E:Value->Zo->Prop}{a8:List (Addr×Obj)}{s:Zo}{σ:St}{H:Hp}{x:Str}{u:Value}{a:Pos}{Q:Value->Zo->Prop}(I:Inv X a8 σ H s)(b:Gl X x)(c:X.mg x=some u)(h:Q u s)
  (e:(x == ("__debug__":Str))=false:=by decide):wpAny (model X.prog X.w) X.A (eval (.Name x a) X.env) Q E s :=
 aei I.ok.kind b (Calls.loadGlobal_global (by rw[I.ok.glob];exact I.mod.glob.keeps I.bk) c h) e
theorem iL {E:Value->Zo->Prop}{a8:List (Addr×Obj)}{s:Zo}{σ:St}{H:Hp}{x:Str}{u:Value}{e:Pos}{Q:Value->Zo->Prop}(I:Inv X a8 σ H s)(f:Gl X x)(i:X.mg x=none)(l:abU x=some u)(h:Q u s)
  (j:x ≠ "__name__":=by decide) (k:(x == ("__debug__":Str))=false:=by decide):wpAny (model X.prog X.w) X.A (eval (.Name x e) X.env) Q E s:=by
 obtain⟨c,b,a⟩:=I.mod.blt;exact aei I.ok.kind f (Calls.loadGlobal_builtin (by rw[I.ok.glob];exact I.mod.glob.keeps I.bk) i (by rw[I.ok.blt];exact b.keeps I.bk) ((a x j).trans l) h) k
theorem qJ {x:Str}{v:V}{u:Value}{a:Pos}(b:Gl X x)(e:X.mg x=some u)(r:RelV v u)(c:(x == ("__debug__":Str))=false:=by decide):PE X (.Name x a) (tC v):=
 λ_ _ _ H _ I h=>nG I b e ⟨v,H,I,r,h⟩ c
variable {a b:Expr}{ta tb:TE}{pos:Pos}
noncomputable def tB (t:TE):TT:=λσ H Q=>t σ H λx H1=>∃c,x = .bl c/\Q c H1
variable {tA Fj:TT}{rest:List Expr}
noncomputable def SX (t u:TT):TT:=λσ H Q=>t σ H λc H1=>if c=true then u σ H1 Q else Q false H1
noncomputable def VZ (t u:TT):TT:=λσ H Q=>t σ H λc H1=>if c=true then Q true H1 else u σ H1 Q
noncomputable def SY (t:TT):TT:=λσ H Q=>t σ H λc H1=>Q (!c) H1
theorem Hc (f:PT X a tA):PW X (.BoolOp .And [a] pos) tA:=by
 intro b a8 s σ H Q I h;refine isTrue_and (aW (f a8 s σ H Q I h) λc s1 e=>?_);cases c with
 |true=>exact isTrue_and_nil e|false=>exact e
theorem JO (f:PT X a tA):PW X (.BoolOp .Or [a] pos) tA:=by
 intro b a8 s σ H Q I h;refine isTrue_or (aW (f a8 s σ H Q I h) λc s1 e=>?_);cases c with
 |false=>exact isTrue_or_nil e|true=>exact e
theorem JP (j:PT X a tA)(k:PW X (.BoolOp .And (b::rest) pos) Fj):PW X (.BoolOp .And (a::b::rest) pos) (SX tA Fj):=by
 intro i a8 s σ H Q I h;refine isTrue_and (aW (j a8 s σ H _ I h) λc s1 ⟨H1,e,f⟩=>?_);cases c with
 |true=>exact k i a8 s1 σ H1 Q e f|false=>exact⟨H1,e,f⟩
theorem Ot (j:PT X a tA)(k:PW X (.BoolOp .Or (b::rest) pos) Fj):PW X (.BoolOp .Or (a::b::rest) pos) (VZ tA Fj):=by
 intro i a8 s σ H Q I h;refine isTrue_or (aW (j a8 s σ H _ I h) λc s1 ⟨H1,e,f⟩=>?_);cases c with
 |true=>exact⟨H1,e,f⟩|false=>exact k i a8 s1 σ H1 Q e f
theorem JQ (e:PT X a tA):PT X (.UnaryOp .Not a pos) (SY tA):=by intro a8 s σ H Q I h;exact isTrue_not (e a8 s σ H (λc H1=>Q (!c) H1) I h)
noncomputable def Ou (ta tb:TE):TE:=λσ H Q=>ta σ H λx H1=>∃c,x = .bl c/\if c=true then tb σ H1 Q else Q (.bl false) H1
noncomputable def S4 (ta tb:TE):TE:=λσ H Q=>ta σ H λx H1=>∃c,x = .bl c/\if c=true then Q (.bl true) H1 else tb σ H1 Q
theorem JR {op}{t:TE}(h:PE X a t):PE X (.BoolOp op [a] pos) t:=λa8 s σ H Q I hw=>BoolOp_one (h a8 s σ H Q I hw)
theorem JS (j:PE X a ta)(k:PE X (.BoolOp .And (b::rest) pos) tb):PE X (.BoolOp .And (a::b::rest) pos) (Ou ta tb):=by
 intro a8 s σ H Q I h;refine BoolOp_and (aW (j a8 s σ H _ I h) λv s1 ⟨x,H1,f,i,e⟩=>?_);obtain⟨c,rfl,e⟩:=e;cases i;refine abH ?_;cases c with
 |true=>exact k a8 s1 σ H1 Q f e|false=>exact⟨.bl false,H1,f,rfl,e⟩
theorem Ov (j:PE X a ta)(k:PE X (.BoolOp .Or (b::rest) pos) tb):PE X (.BoolOp .Or (a::b::rest) pos) (S4 ta tb):=by
 intro a8 s σ H Q I h;refine BoolOp_or (aW (j a8 s σ H _ I h) λv s1 ⟨x,H1,f,i,e⟩=>?_);obtain⟨c,rfl,e⟩:=e;cases i;refine abH ?_;cases c with
 |false=>exact k a8 s1 σ H1 Q f e|true=>exact⟨.bl true,H1,f,rfl,e⟩
noncomputable def V0 (t:TT)(ta tb:TE):TE:=λσ H Q=>t σ H λc H1=>if c=true then ta σ H1 Q else tb σ H1 Q
theorem Dx {c:Expr}(k:PT X c tA)(j:PE X a ta)(i:PE X b tb):PE X (.IfExp c a b pos) (V0 tA ta tb):=by
 intro a8 s σ H Q I h;refine wpAny_IfExp (aW (k a8 s σ H _ I h) λd s1 ⟨H1,e,f⟩=>?_);cases d with
 |true=>exact j a8 s1 σ H1 Q e f|false=>exact i a8 s1 σ H1 Q e f
end
noncomputable def dw (K:ZF)(H:Hp)(a:Addr)(xs:List V):Prop :=
 Rd H a (.lst xs) \/
  ∃(o:Obj) (au:Array Value) (n:Nat),K.lookup a=some o/\o.cls = .type "list" /\ o.dict=none/\o.data = .seq au n/\au.size<=ZM/\Vals xs au.toList
noncomputable def eK (K:ZF)(H:Hp)(a:Addr)(xs:List V):Prop :=
 Rd H a (.tup xs) \/
  ∃(o:Obj) (au:Array Value) (n:Nat),K.lookup a=some o/\o.cls = .type "tuple" /\ o.dict=none/\o.data = .seq au n/\au.size<=ZM/\Vals xs au.toList
noncomputable def S_:Value->Option V
 |.none=>some .ay|.bool b=>some (.bl b)|.int i _=>some (.int i)|.str x _=>some (.str x)|.bytes b _=>some (.AQ b)|.float b _=>some (.gR b)|.ref a=>some (.ref a)|.type n=>some (.ty n)|_=>none
theorem RelV.abs {x:V}{u:Value}(r:RelV x u):S_ u=some x:=by
 cases x with
 |ay=>cases r;rfl|bl _=>cases r;rfl|int _=>obtain⟨t,rfl⟩:=r;rfl
 |str _=>obtain⟨t,rfl⟩:=r;rfl
 |AQ _=>obtain⟨t,rfl⟩:=r;rfl
 |gR _=>obtain⟨t,rfl⟩:=r;rfl
 |ref _=>cases r;rfl|ty _=>cases r;rfl
theorem RelV.inj {x y:V}{u:Value}(r:RelV x u)(q:RelV y u):x=y:=aam (r.abs.symm.trans q.abs)
theorem Vals.inj:∀{xs ys:List V} {us:List Value},Vals xs us->Vals ys us->xs=ys
 |_,_,_,.nil,.nil=>rfl|_,_,_,.cons r t,.cons r' t'=>by rw[r.inj r',Vals.inj t t']
section
variable {X:Cx}{a8:List (Addr×Obj)}{σ:St}{H:Hp}{s:Zo}{a:Addr}{xs ys:List V}
theorem dw.of {K:ZF}(h:H a=some (.lst xs)):dw K H a xs:=.inl (.inl h)
theorem Inv.list (I:Inv X a8 σ H s)(h:dw X.K H a xs):∃au:List Value,Vals xs au/\PlainL s.heap a au.toArray/\xs.length<=ZM:=by
 rcases h with h|⟨o,au,n,hk,hc,hd,hs,hz,r⟩
 . obtain⟨z,au,n,r,e⟩:=h.ok I.aS
   exact⟨au,r,⟨_,n,e,rfl,rfl,rfl⟩,z⟩
 . refine⟨au.toList,r,⟨o,n,I.mf a o hk,hc,hd,by simpa using hs⟩,?_⟩
   have e:=r.length;simp only[acN]at e;omega
theorem Inv.JT (I:Inv X a8 σ H s)(h:eK X.K H a xs):∃au:List Value,Vals xs au/\eR s.heap a au.toArray/\xs.length<=ZM:=by
 rcases h with h|⟨o,au,n,hk,hc,hd,hs,hz,r⟩
 . obtain⟨z,au,r,p⟩:=h.ok I.aS
   exact⟨au,r,p,z⟩
 . refine⟨au.toList,r,⟨o,I.mf a o hk,hc,⟨n,by simpa using hs⟩,hd⟩,?_⟩
   have e:=r.length;simp only[acN]at e;omega
theorem Inv.tuple (I:Inv X a8 σ H s)(h:eK X.K H a xs):∃au:List Value,Vals xs au/\IsTup s.heap a au.toArray/\xs.length<=ZM :=
 let⟨au,r,p,z⟩:=I.JT h
 ⟨au,r,p.t,z⟩
theorem Inv.lj (I:Inv X a8 σ H s)(h:dw X.K H a xs)(h':dw X.K H a ys):xs=ys:=by
 obtain⟨i,r,⟨o,n,e,_,_,d⟩,_⟩:=I.list h;obtain⟨its',f,⟨j,k,b,_,_,c⟩,_⟩:=I.list h';rw[e]at b;cases b;rw[d]at c;injection c with d1 _
 have:i=its':=by simpa using congrArg Array.toList d1
 subst this;exact r.inj f
theorem Inv.mK (I:Inv X a8 σ H s)(h:eK X.K H a xs)(h':eK X.K H a ys):xs=ys:=by
 obtain⟨i,r,⟨o,e,_,n,d⟩,_⟩:=I.tuple h;obtain⟨its',f,⟨j,b,_,k,c⟩,_⟩:=I.tuple h';rw[e]at b;cases b;rw[d]at c;injection c with d1 _
 have:i=its':=by simpa using congrArg Array.toList d1
 subst this;exact r.inj f
end
noncomputable abbrev Cx.ki (X:Cx)(E:Value->Zo->Prop):Cx:={ X with xe:=E }
noncomputable abbrev Cx.uQ (X:Cx):Cx:=X.ki λ_ _=>False
theorem Cx.Ok.ki {X:Cx}(ok:X.Ok)(E:Value->Zo->Prop):(X.ki E).Ok :=
 ⟨ok.mod,ok.kind,ok.glob,ok.blt,ok.above,ok.inj,ok.has,ok.xl,ok.hd,ok.frames,ok.uM,ok.JI,ok.bs,ok.mI,ok.oJ,ok.uN,ok.gS,ok.pv⟩
theorem Cx.Ok.iM {X:Cx}{E:Value->Zo->Prop}(ok:(X.ki E).Ok):X.Ok :=
 ⟨ok.mod,ok.kind,ok.glob,ok.blt,ok.above,ok.inj,ok.has,ok.xl,ok.hd,ok.frames,ok.uM,ok.JI,ok.bs,ok.mI,ok.oJ,ok.uN,ok.gS,ok.pv⟩
section
variable {X:Cx}{a8:List (Addr×Obj)}{σ:St}{H:Hp}{s:Zo}{E:Value->Zo->Prop}
theorem Inv.ki (I:Inv X a8 σ H s)(E:Value->Zo->Prop):Inv (X.ki E) a8 σ H s:=⟨I.ok.ki E,I.os,I.bare,I.base,I.loc,I.cell,I.free,I.gu,I.pin,I.aS,I.len⟩
theorem Inv.iM (I:Inv (X.ki E) a8 σ H s):Inv X a8 σ H s:=⟨I.ok.iM,I.os,I.bare,I.base,I.loc,I.cell,I.free,I.gu,I.pin,I.aS,I.len⟩
theorem SP.iM {D:Ends}{f:Flow}{s':Zo}(h:SP (X.ki E) a8 D f s'):SP X a8 D f s':=by
 cases f with
 |next=>obtain⟨a,b,I,q⟩:=h;exact⟨a,b,I.iM,q⟩
 |brk=>obtain⟨a,b,I,q⟩:=h;exact⟨a,b,I.iM,q⟩
 |cont=>obtain⟨a,b,I,q⟩:=h;exact⟨a,b,I.iM,q⟩
 |ret u=>obtain⟨v,a,b,I,r,q⟩:=h;exact⟨v,a,b,I.iM,r,q⟩
theorem gU.uQ {a:List Stmt}{t:TS}(h:gU X.uQ a t):gU X a t:=λa8 s σ H D I hw =>
 adB (h a8 s σ H D (I.ki _) hw) (λ_ _ q=>q.iM) λ_ _ z=>aba z
end
section
variable {X:Cx}{st:Stmt}{rest:List Stmt}{t u:TS}{e:Expr}{te:TE}{pos:Pos}
noncomputable def zf:TS:=λD σ H=>D.nx σ H
noncomputable def Ta (t u:TS):TS:=λD σ H=>t { D with nx:=u D } σ H
theorem He:gU X [] zf:=λ_ _ σ H _ I h=>adE ⟨σ,H,I,h⟩
theorem Dy (j:PS X st t)(i:gU X rest u):gU X (st::rest) (Ta t u):=by
 intro a8 s σ H D I h;refine wpAny_execs_cons (aW (j a8 s σ H { D with nx:=u D } I h) λf s1 q=>?_);cases f with
 |next =>
  obtain⟨a,c,b,q⟩:=q;exact i a8 s1 a c D b q
 |ret v=>exact q|brk=>exact q|cont=>exact q
theorem Hf (a:PS X st t):gU X [st] t:=by
 intro a8 s σ H D I h;refine wpAny_execs_cons (aW (a a8 s σ H D I h) λf s1 q=>?_);cases f with
 |next=>exact adE q|ret v=>exact q|brk=>exact q|cont=>exact q
theorem Hg:PS X (.Pass pos) zf:=λ_ _ σ H _ I h=>wpAny_Pass ⟨σ,H,I,h⟩
theorem Inv.quiet {a8:List (Addr×Obj)}{σ:St}{H:Hp}{s:Zo}(I:Inv X a8 σ H s):interactive X.env=false:=by simp[interactive,I.ok.kind]
theorem JU {x j pos a}:PS X (.Expr (.Constant (.str x) j pos) a) zf:=λ_ s σ H _ I h=>wpAny_Expr (afQ (show SP X _ _ .next { s with toks:=s.toks+1 } from⟨σ,H,I.tok _,h⟩)) I.quiet
noncomputable def Ow (te:TE):TS:=λD σ H=>te σ H λ_ H1=>D.nx σ H1
theorem Hh (f:PE X e te)(i:acA e none pos.line X.env=pure false:=by rfl):PS X (.Expr e pos) (Ow te):=by intro a8 s σ H D I h;exact wpAny_Expr_any (aW (f a8 s σ H _ I h) λv s1 ⟨x,H1,a,c,b⟩=>⟨σ,H1,a,b⟩) I.quiet i
noncomputable def Tb (te:TE):TS:=λD σ H=>te σ H D.rt
theorem JV (f:PE X e te):PS X (.Return (some e) pos) (Tb te):=by intro a8 s σ H D I h;exact wpAny_Return_some (aW (f a8 s σ H _ I h) λv s1 ⟨x,H1,a,b,c⟩=>⟨x,σ,H1,a,b,c⟩)
noncomputable def Tc (c:TT)(t u:TS):TS:=λD σ H=>c σ H λb H1=>if b=true then t D σ H1 else u D σ H1
theorem Ox {c:Expr}{a b:List Stmt}{i:TT}(j:PT X c i)(k:gU X a t)(l:gU X b u):PS X (.If c a b pos) (Tc i t u):=by
 intro a8 s σ H D I h;refine wpAny_If (aW (j a8 s σ H _ I h) λd s1 ⟨H1,e,f⟩=>?_);cases d with
 |true=>exact k a8 s1 σ H1 D e f|false=>exact l a8 s1 σ H1 D e f
end
abbrev TG:=V->St->Hp->(St->Hp->Prop)->Prop
abbrev r_:=List V->St->Hp->(St->Hp->Prop)->Prop
noncomputable def PG (X:Cx)(b:Expr)(t:TG):Prop :=
 ∀(a8:List (Addr×Obj)) (s:Zo) (σ:St) (H:Hp) (v:V) (u:Value) (Q:St->Hp->Prop),Inv X a8 σ H s->RelV v u->t v σ H Q ->
  wpAny (model X.prog X.w) X.A (acF b X.env u) (λ_ a=>∃σ' H',Inv X a8 σ' H' a/\Q σ' H') X.xe s
noncomputable def oa (X:Cx)(b:List Expr)(t:r_):Prop :=
 ∀(a8:List (Addr×Obj)) (s:Zo) (σ:St) (H:Hp) (vs:List V) (us:List Value) (Q:St->Hp->Prop),Inv X a8 σ H s->Vals vs us->t vs σ H Q ->
  wpAny (model X.prog X.w) X.A (afA ((abb b X.env).map (·.2)) us) (λ_ a=>∃σ' H',Inv X a8 σ' H' a/\Q σ' H') X.xe s
abbrev Dz:=V->V->V->Hp->(Hp->Prop)->Prop
noncomputable def DB (X:Cx)(t:Dz):Prop :=
 ∀(a8:List (Addr×Obj)) (s:Zo) (σ:St) (H:Hp) (o i v:V) (ov iv u:Value) (Q:Hp->Prop),Inv X a8 σ H s->RelV o ov->RelV i iv->RelV v u->t o i v H Q ->
  wpAny (model X.prog X.w) X.A (af8 ov iv u) (λ_ a=>∃H',Inv X a8 σ H' a/\Q H') X.xe s
abbrev Fl:=V->V->Hp->VK->Prop
noncomputable def Fm (X:Cx)(op:acS)(t:Fl):Prop :=
 ∀(a8:List (Addr×Obj)) (s:Zo) (σ:St) (H:Hp) (x y:V) (v u:Value) (Q:VK),Inv X a8 σ H s->RelV x v->RelV y u->t x y H Q ->
  wpAny (model X.prog X.w) X.A (inplaceOp op v u) (EP X a8 σ Q) X.xe s
section
variable {X:Cx}{pos:Pos}
noncomputable def Fo (i:Nat):TG:=λv σ H Q=>Q (σ.set i (some v)) H
theorem Hi {i:Nat}{x:Str}(c:X.N.Nodup)(f:X.N[i]? = some x)(j:Loc X.env.scope x)(e:X.fn x=true\/X.env.scope.names.lookup x=some .local:=by first|exact .inl rfl|exact .inr rfl|assumption):PG X (.Name x pos) (Fo i):=by intro a8 s σ H v u Q I r h;exact wpAny_assign_Name (jv I c f j r (λb a=>⟨_,H,a,h⟩) e)
noncomputable def Td:r_:=λa σ H Q=>a = []/\Q σ H
noncomputable def Oy (t:TG)(u:r_):r_:=λc σ H Q=>∃v r,c=v::r/\t v σ H λa b=>u r a b Q
theorem Hj:oa X [] Td:=by intro a8 s σ H a us Q I r h;obtain⟨e,h⟩:=h;subst e;cases r;exact assignInOrder_nil ⟨σ,H,I,h⟩
theorem DC {e:Expr}{es:List Expr}{t:TG}{u:r_}(k:PG X e t)(l:oa X es u)
  (o:(abb (e::es) X.env).map (·.2)=acF e X.env::(abb es X.env).map (·.2):=by rfl):oa X (e::es) (Oy t u):=by
 intro a8 s σ H i us Q I r h;obtain⟨v,j,b,h⟩:=h;subst b;cases r with
 |cons r rr =>
  rw[o];refine ad4 (aW (k a8 s σ H _ _ _ I r h) λ_ s1 ⟨a,H1,c,f⟩=>?_);exact l a8 s1 a H1 _ _ Q c rr f
noncomputable def Te (K:ZF)(n:Nat)(t:r_):TG:=λv σ H Q=>∃a xs,v = .ref a/\eK K H a xs/\xs.length=n/\t xs σ H Q
theorem JW {es:List Expr}{k:Nat}{t:r_}{n:Nat}(B:X.calm=true)(h:oa X es t)
  (A:(abb es X.env).length=n:=by rfl) (C:(abb es X.env).findIdx? (·.1)=none:=by rfl):PG X (.Tuple es k pos) (Te X.K n t):=by
 intro a8 s σ H v u Q I r hw;obtain⟨a,xs,f,x,i,hw⟩:=hw;subst f;cases r;obtain⟨au,c,y,z⟩:=I.tuple x;refine assign_Tuple_tuple (I.ok.hd B) y (by simp[A,<- i,c.length]) C λl q=>?_;have j:Inv X a8 σ H { s with heap:=l }:=I.kept (t':=s.toks) λb o e=>q b o (Z1 (ZG e)) e;exact h a8 _ σ H xs _ Q j (by simpa using c) hw
noncomputable def Tf (e c:TE)(t:Dz):TG:=λv σ H Q=>e σ H λo H1=>c σ H1 λi a=>t o i v a λb=>Q σ b
theorem JX {o i:Expr}{B A:TE}{t:Dz}(C:PE X o B)(K:PE X i A)(E:DB X t)
  (J:∀v,acF (.Subscript o i pos) X.env v=(do
   let ov <- ab3 [v] (eval o X.env);let iv <- ab3 [v,ov] (eval i X.env)
   afe pos
   ab3 [v,ov,iv] (af8 ov iv v)
   release [v,ov,iv] []):=by intro _;rfl):PG X (.Subscript o i pos) (Tf B A t):=by
 intro a8 s σ H v u Q I r h;rw[J];refine Zm (aaa (aW (C a8 s σ H _ I h) λov s1 ⟨x,H1,e,c,q⟩=>?_));refine Zm (aaa (aW (K a8 s1 σ H1 _ e q) λiv s2 ⟨y,j,f,z,a⟩=>?_));refine Zm (aej (Zm (aaa (aW (E a8 s2 σ j x y v ov iv u _ f c z r a) λ_ s3 ⟨k,l,b⟩=>?_))));exact wpAny_release ⟨σ,k,l,b⟩
noncomputable def DD (a:TE)(g:TG):TS:=λD σ H=>a σ H λx H1=>g x σ H1 D.nx
theorem JY {tg e:Expr}{f:TE}{g:TG}(k:PE X e f)(j:PG X tg g)(l:acG [tg] e pos.line X.env=pure false:=by rfl)(hw:acd [tg] e X.env=pure none:=by rfl)
  (i:(abb [tg] X.env).map (·.2)= [acF tg X.env]:=by rfl):PS X (.Assign [tg] e pos) (DD f g):=by
 intro a8 s σ H D I h;refine wpAny_Assign_stores (aW (k a8 s σ H _ I h) λv s1 ⟨x,H1,a,b,c⟩=>?_) l hw;rw[i];exact aW (j a8 s1 σ H1 x v _ a b c) λ_ s2 q=>q
theorem JZ {i:Nat}{x:Str}{e:Expr}{k:TE}{j:Pos}(l:X.N.Nodup)(u:X.N[i]? = some x)(z:Loc X.env.scope x)(r:PE X e k)(q:acA e (some (.Name x j)) pos.line X.env=pure false:=by rfl)(o:X.fn x=true\/X.env.scope.names.lookup x=some .local:=by first|exact .inl rfl|exact .inr rfl|assumption):
  PS X (.Assign [.Name x j] e pos) (DD k (Fo i)):=by
 intro a8 s σ H D I h;refine wpAny_Assign_Name (aW (r a8 s σ H _ I h) λv s1 ⟨y,H1,a,b,f⟩=>?_) q;exact jv a l u z b (λs2 c=>⟨_,H1,c,f⟩) o
noncomputable def Tg (i j:Nat)(b:TA):TS:=λD σ H=>b σ H λa H1=>∃v w,a = [v,w]/\D.nx ((σ.set i (some v)).set j (some w)) H1
theorem J0 {i j:Nat}{x y:Str}{a b:Expr}{C:TA}{px B pt:Pos}{kt k2 pt2}(O:X.calm=true)(E:X.N.Nodup)(M:X.N[i]? = some x)(P:X.N[j]? = some y)(L:i≠j)
  (K:X.env.scope.names.lookup x=some .local) (J:X.env.scope.names.lookup y=some .local) (Q:PA X [a,b] C)
  (hw:acd [.Tuple [.Name x px,.Name y B] kt pt] (.Tuple [a,b] k2 pt2) X.env=pure (some [x,y]))
  (R:acG [.Tuple [.Name x px,.Name y B] kt pt] (.Tuple [a,b] k2 pt2) pos.line X.env=pure false:=by rfl):
  PS X (.Assign [.Tuple [.Name x px,.Name y B] kt pt] (.Tuple [a,b] k2 pt2) pos) (Tg i j C):=by
 intro a8 s σ H D I h;rw[exec_Assign_arm];refine Zm (aej ?_);rw[R];refine Zm (Zp ?_);rw[if_neg (by decide)];refine Zm (Tuple_ (aW (Q _ a8 s σ H _ I h) λus s1 ⟨vs,H1,I1,u,f⟩=>?_));obtain⟨v,w,l,f⟩:=f;subst l;obtain⟨c,u2,rfl,z,r⟩:∃c u2,us = [c,u2]/\RelV v c/\RelV w u2:=by
  cases u with
  |cons p q =>
   cases q with
   |cons p' q' =>
    cases q';exact⟨_,_,rfl,p,p'⟩
 refine aae ?_ (by show 2<=ZM;decide);have I2:Inv X a8 σ H1 { s1 with heap:=s1.heap.push { cls:=.type "tuple",data:=.seq [c,u2].toArray } }:=I1.kept (t':=s1.toks) λb o e=>Zs _ e;rw[hw];refine Zm (Zp ?_);show wpAny (model X.prog X.w) X.A (do rule "assign.swapped-stores";let items <- unpackItems (.ref s1.heap.objs.size) 2 none;afA [λv=>bindName X.env y v,λv=>bindName X.env x v] items.reverse;pure Flow.next) _ _ _;refine Zm (abf (Zm (unpackItems_tuple (items:=#[c,u2]) (I.ok.hd O) (IsTup.new s1.heap _) λh' xo=>?_)));have I3:=I2.kept (h':=h') (t':=s1.toks) λb o e=>xo b o (Z1 (ZG e)) e;show wpAny _ _ (afA [λv=>bindName X.env y v,λv=>bindName X.env x v] [u2,c] >>= λ_=>pure Flow.next) _ _ _;refine Zm (ad4 (wpAny_bindName (jv I3 E P (.inl J) r (λs2 I4=>?_) (.inr J))));refine ad4 (wpAny_bindName (jv I4 E M (.inl K) z (λs3 k=>assignInOrder_nil (Zp ?_)) (.inr K)));rw[List.set_comm _ _ (abi L)]at k;exact⟨_,H1,k,f⟩
noncomputable def Th (i:Nat)(c:TE)(b:Fl):TS:=λD σ H=>∃x,σ[i]? = some (some x)/\c σ H λy H1=>b x y H1 λz a=>D.nx (σ.set i (some z)) a
theorem J2 {i:Nat}{x:Str}{e:Expr}{E:TE}{op:acS}{J:Fl}{B:Pos}(L:X.N.Nodup)(K:X.N[i]? = some x)(C:Loc X.env.scope x)(P:PE X e E)(M:Fm X op J)(O:X.fn x=true\/X.env.scope.names.lookup x=some .local:=by first|exact .inl rfl|exact .inr rfl|assumption):
   PS X (.AugAssign (.Name x B) op e pos) (Th i E J):=by
 intro a8 s σ H D I h;obtain⟨v,b,h⟩:=h;obtain⟨m,f,o⟩:=I.loc;have V1:AS X.env.scope x:=by rcases C with k|k;exact .inl k;exact .inr (.inl k)
 obtain⟨u,r,l⟩:=o i x v K b V1;refine wpAny_AugAssign_Name ?_;have go:wpAny (model X.prog X.w) X.A (eval e X.env) (λw s₂=>wpAny (model X.prog X.w) X.A (inplaceOp op u w) (λr q=>wpAny (model X.prog X.w) X.A (storeName X.env x r) (λ_=>SP X a8 D .next) X.xe q) X.xe s₂) X.xe s:=by refine aW (P a8 s σ H _ I h) λw s1 ⟨y,H1,I1,j,q1⟩=>?_;refine aW (M a8 s1 σ H1 v y u w _ I1 r j q1) λz s2 ⟨zv,H2,I2,r2,a⟩=>?_;exact jv I2 L K C r2 (λs3 I3=>⟨_,H2,I3,a⟩) O
 rcases l with⟨hk,hm⟩|⟨hk,c,hc,fT⟩
 . exact adD I.ok.kind hk f hm go
 . rcases hk with hk|hk
   . exact adQ I.ok.kind hk hc fT go
   . rcases C with k|k
     . have:X.env.scope.names.lookup x=some .free:=hk
       rw[k]at this;cases this
     . have:X.env.scope.names.lookup x=some .free:=hk
       rw[k]at this;cases this
noncomputable def J3 (f:Int->Int->Int):Fl:=λx y H Q=>∃i j,x = .int i/\y = .int j/\Q (.int (f i j)) H
theorem J4:Fm X .Add (J3 λi j=>i+j):=by intro a8 s σ H x y v u Q I b e h;obtain⟨i,j,a,c,q⟩:=h;subst a;subst c;obtain⟨t,rfl⟩:=b;obtain⟨f,rfl⟩:=e;exact iadd_int ⟨.int _,H,I.tok _,⟨_,rfl⟩,q⟩
theorem J5:Fm X .Sub (J3 λi j=>i-j):=by intro a8 s σ H x y v u Q I b e h;obtain⟨i,j,a,c,q⟩:=h;subst a;subst c;obtain⟨t,rfl⟩:=b;obtain⟨f,rfl⟩:=e;exact isub_int ⟨.int _,H,I.tok _,⟨_,rfl⟩,q⟩
end
section
variable {X:Cx}{pos:Pos}
noncomputable def J6 (c:TT)(tb:TS):TS:=λD σ H=>∃W:Nat->St->Hp->Prop,(∃m,W m σ H) /\ ∀m σ H,W m σ H ->
 c σ H λb H1=>if b=true then ∃N:St->Hp->Prop,(∀σ' H',N σ' H'->∃m',m' < m/\W m' σ' H')/\tb { D with nx:=N,ct:=N,bk:=D.nx } σ H1 else D.nx σ H1
theorem DF {c:Expr}{body:List Stmt}{B:TT}{tb:TS}(C:ad5 (model X.prog X.w) X.A X.env X.xe)(E:PT X c B)(J:gU X body tb):PS X (.While c body [] pos) (J6 B tb):=by
 intro a8 s σ H D I h;obtain⟨W,⟨m0,w0⟩,turn⟩:=h;refine wpAny_While (codeAny_whileLoop (λn s'=>∃σ' H',Inv X a8 σ' H' s'/\W n σ' H') ?_ m0 ⟨σ,H,I,w0⟩);rintro n s1 ⟨j,H1,I1,z⟩;refine abW C (aW (E a8 s1 j H1 _ I1 (turn n j H1 z)) λb s2 ⟨x,u,i⟩=>?_);cases b with
 |true =>
  obtain⟨N,y,i⟩:=i;rw[if_pos rfl];refine abW C (aW (J a8 s2 j x _ u i) λf s3 k=>?_);cases f with
  |next =>
   obtain⟨a,e,q,r⟩:=k;obtain⟨o,hm,l⟩:=y a e r;exact⟨o,hm,a,e,q,l⟩
  |cont =>
   obtain⟨a,e,q,r⟩:=k;obtain⟨o,hm,l⟩:=y a e r;exact⟨o,hm,a,e,q,l⟩
  |brk=>exact k|ret v=>exact k
 |false =>
  rw[if_neg aaT];exact adE ⟨j,x,u,i⟩
end
structure It where
 go:Nat->Hp->Prop
 AY:Nat->Hp->V->Hp->Prop
 stop:Nat->Hp->Prop
noncomputable def fD (X:Cx)(a8:List (Addr×Obj))(H:Hp)(b:Addr):Prop :=
 H b=none/\b≠X.env.locals/\b ∉ X.fs/\(b∈X.ex\/X.s₀.heap.objs.size<=b)/\(∀x c,X.env.cells.lookup x=some c->c≠b) /\ ∀p∈X.pn++a8,p.1≠b
theorem Inv.mL {X:Cx}{a8:List (Addr×Obj)}{σ:St}{H H':Hp}{s:Zo}{b:Addr}(I:Inv X a8 σ H s)(f:s.heap.objs.size<=b)(h:H' b=none):fD X a8 H' b:=by
 refine⟨h,adF (ZZ I.lt f),I.SR f,.inr (Z4 I.sz f),λx c e z=>?_,λp a z=>?_⟩
 . obtain⟨v,q⟩:=I.cell x c e
   exact absurd (ZZ q.lt (by rw[z];exact f)) (aaS _)
 . exact absurd (ZZ (ZG (I.pin p a).1) (by rw[z];exact f)) (aaS _)
structure Turn (P:ZW)(w:World)(K:ZF)(tg:Expr)(J:It)(fp:List Addr)(it:Addr)(tn:Nat->Heap->Prop):Prop where
 mem:it∈fp
 obj:∀i h,tn i h->∀b∈fp,∃o,h.get? b=some o /\ ∀v,o.data ≠ .cell v
 keep:∀i h h',tn i h->(∀b∈fp,∀o,h.get? b=some o->h'.get? b=some o)->tn i h'
 item:∀(X:Cx),X.prog=P->X.w=w->X.K=K->X.calm=true->∀(i:Nat) (a8:List (Addr×Obj)) (s:Zo) (σ:St) (H:Hp) (E:Value->Zo->Prop),Inv X a8 σ H s->(∀b∈fp,fD X a8 H b)->tn i s.heap->J.go i H ->
  wpAny (model P w) X.A (acT (.ref it)) (λr s1=>∃u,r=some u /\
   wpAny (model P w) X.A (aeV tg (.ref it) u) (λ_ s2=>∃x H',Inv X a8 σ H' s2/\RelV x u/\J.AY i H x H'/\tn (i+1) s2.heap /\ ∀b∈fp,H' b=none) E s1) E s
 done:∀(X:Cx),X.prog=P->X.w=w->X.K=K->X.calm=true->∀(i:Nat) (a8:List (Addr×Obj)) (s:Zo) (σ:St) (H:Hp) (E:Value->Zo->Prop),Inv X a8 σ H s->(∀b∈fp,fD X a8 H b)->tn i s.heap->J.stop i H ->
  wpAny (model P w) X.A (acT (.ref it)) (λr s1=>r=none/\Inv X a8 σ H s1) E s
 self:∀(A:ZY) (i:Nat) (s:Zo) (Q:Value->Zo->Prop) (E:Value->Zo->Prop),tn i s.heap->Q (.ref it) s->wpAny (model P w) A (aff (.ref it)) Q E s
abbrev TI:=St->Hp->(It->Hp->Prop)->Prop
noncomputable def QM (X:Cx)(a8:List (Addr×Obj))(σ:St)(tg:Expr)(R:It->Hp->Prop)(c:Value)(a:Zo):Prop :=
 ∃(it:Addr) (fp:List Addr) (tn:Nat->Heap->Prop) (J:It) (H':Hp),c = .ref it/\Inv X a8 σ H' a/\Turn X.prog X.w X.K tg J fp it tn/\tn 0 a.heap/\(∀b∈fp,fD X a8 H' b)/\R J H'
noncomputable def PI (X:Cx)(tg a:Expr)(b:TI):Prop :=
 ∀(a8:List (Addr×Obj)) (s:Zo) (σ:St) (H:Hp) (R:It->Hp->Prop),Inv X a8 σ H s->b σ H R ->
  wpAny (model X.prog X.w) X.A (eval a X.env) (λv s1=>wpAny (model X.prog X.w) X.A (aff v) (QM X a8 σ tg R) X.xe s1) X.xe s
theorem zg {M : Model} {A : ZY} {E : Value -> Zo -> Prop} {s : Zo} {tg : Expr} {b : Addr} {u : Value} {o : Obj} {n : String} {vs : Array Value} {Q : Unit -> Zo -> Prop} (c : s.heap.get? b = some o) (e : o.cls = .type n) (f : o.data = .fields vs)
   (i : ["enumerate", "zip", "dict_itemiterator", "dict_reverseitemiterator", "odict_iterator", "itertools.zip_longest", "itertools.pairwise"].contains n = false) (a : Q () s): wpAny M A (aeV tg (.ref b) u) Q E s := by
 unfold aeV;cases tg <;> first
   |exact Zp a
   | (cases u <;> first
       |exact Zp a
       | (refine Zm (wpAny_load c ?_)
          rw[e, f];show wpAny M A (if (["enumerate", "zip", "dict_itemiterator", "dict_reverseitemiterator", "odict_iterator", "itertools.zip_longest", "itertools.pairwise"].contains n && vs[0]? == some (ab5 _))= true then _ else _) Q E s;rw[if_neg (by intro h; rw[i, agV]at h; cases h)];exact Zp a))
noncomputable def Fp (K:ZF)(a:Addr):It :=
 ⟨λi H=>∃xs x,dw K H a xs/\xs[i]? = some x,λi H x b=>b=H /\ ∀xs,dw K H a xs->xs[i]? = some x,λi H=>∃xs,dw K H a xs/\xs.length<=i⟩
noncomputable def J8 (K:ZF)(a:Addr):It :=
 ⟨λi H=>∃xs x,eK K H a xs/\xs[i]? = some x,λi H x b=>b=H /\ ∀xs,eK K H a xs->xs[i]? = some x,λi H=>∃xs,eK K H a xs/\xs.length<=i⟩
noncomputable def AZ (b:Int)(n:Nat):It:=⟨λi _=>i<n,λi H x a=>a=H/\x = .int (b+i),λi _=>n<=i⟩
theorem A0 {P:ZW}{w:World}{K:ZF}{tg:Expr}(a it:Addr):Turn P w K tg (Fp K a) [it] it (λi h=>h.IsListIter it a i) where
 mem:=by simp
 obj:=λi h st b f=>by
  have e:b=it:=by simpa using f
  subst e;obtain⟨o,e,c,d⟩:=st;exact⟨o,e,λv z=>by rw[d]at z;cases z⟩
 keep:=λi h j st k=>st.at λo e=>k it (by simp) o e
 item:=by intro X q hw hK hc i a8 s σ H E I hf st r;subst q hw hK;obtain⟨xs,x,l,hx⟩:=r;obtain⟨au,rv,p,hz⟩:=I.list l;obtain⟨u,hu,ru⟩:=rv.get hx;obtain⟨f0,f1,f2,y,f4,f5⟩:=hf it (by simp);refine ae2 st p.isList (x:=u) (by simpa using hu) λj sf sb=>?_;have I1:Inv X a8 σ H { s with heap:=j }:=I.turned (t':=s.toks) (λb o f e=>(sb.2 b f).trans e) f0 f1 y f4 f5;obtain⟨o,e,c,d⟩:=id sf;exact⟨u,rfl,zg (s:={ s with heap:=j }) e c d (by decide) ⟨x,H,I1,ru,⟨rfl,λys hy=>by rw[I.lj hy l];exact hx⟩,sf,λb f=>(hf b f).1⟩⟩
 done:=by intro X q hw hK hc i a8 s σ H E I hf st r;subst q hw hK;obtain⟨xs,l,hx⟩:=r;obtain⟨au,rv,p,hz⟩:=I.list l;obtain⟨f0,f1,f2,y,f4,f5⟩:=hf it (by simp);have hl:=rv.length;exact afg (I.ok.hd hc) st p.isList (by simp;omega) λj eb=>⟨rfl,I.turned (t':=s.toks) (λb o f e=>eb b o f e) f0 f1 y f4 f5⟩
 self:=λ_ _ _ _ _ st h=>wpAny_pyIter_listiter st h
theorem zh {P:ZW}{w:World}{K:ZF}{tg:Expr}(a it:Addr):Turn P w K tg (J8 K a) [it] it (λi h=>h.IsTupleIter it a i) where
 mem:=by simp
 obj:=λi h st b f=>by
  have e:b=it:=by simpa using f
  subst e;obtain⟨o,e,c,d⟩:=st;exact⟨o,e,λv z=>by rw[d]at z;cases z⟩
 keep:=λi h j st k=>st.at λo e=>k it (by simp) o e
 item:=by intro X q hw hK hc i a8 s σ H E I hf st r;subst q hw hK;obtain⟨xs,x,l,hx⟩:=r;obtain⟨y,rv,p,hz⟩:=I.tuple l;obtain⟨u,hu,ru⟩:=rv.get hx;obtain⟨f0,f1,f2,f3,f4,f5⟩:=hf it (by simp);refine wpAny_pyNext_tuple_item st (show s.heap.IsTuple a y.toArray from p) (x:=u) (by simpa using hu) λj sf sb=>?_;have I1:Inv X a8 σ H { s with heap:=j }:=I.turned (t':=s.toks) (λb o f e=>(sb.2 b f).trans e) f0 f1 f3 f4 f5;obtain⟨o,e,c,d⟩:=id sf;exact⟨u,rfl,zg (s:={ s with heap:=j }) e c d (by decide) ⟨x,H,I1,ru,⟨rfl,λys hy=>by rw[I.mK hy l];exact hx⟩,sf,λb f=>(hf b f).1⟩⟩
 done:=by intro X q hw hK hc i a8 s σ H E I hf st r;subst q hw hK;obtain⟨xs,l,hx⟩:=r;obtain⟨y,rv,p,hz⟩:=I.tuple l;obtain⟨f0,f1,f2,f3,f4,f5⟩:=hf it (by simp);have hl:=rv.length;exact wpAny_pyNext_tuple_end (I.ok.hd hc) st (show s.heap.IsTuple a y.toArray from p) (by simp;omega) λj eb=>⟨rfl,I.turned (t':=s.toks) (λb o f e=>eb b o f e) f0 f1 f3 f4 f5⟩
 self:=λ_ _ _ _ _ st h=>wpAny_pyIter_tupleiter st h
theorem zi {P:ZW}{w:World}{K:ZF}{tg:Expr}(it:Addr)(A:Int)(n:Nat):Turn P w K tg (AZ A n) [it] it (λi h=>IsRangeIter h it (A+(i:Nat)*1) ((n:Int)-(i:Nat)) 1) where
 mem:=by simp
 obj:=λi h st b a=>by
  have e:b=it:=by simpa using a
  subst e;exact⟨_,st,λv z=>by have z':Data.fields _=ad6 v:=z;cases z'⟩
 keep:=λi h c st k=>k it (by simp) _ st
 item:=by intro X f hw r l i a8 s σ H E I hf st j;subst f hw r;obtain⟨f0,f1,f2,q,f4,u⟩:=hf it (by simp);have W:=Walks.range (prog:=X.prog) (w:=X.w) (I.ok.hd l) it A 1 n;refine W.item i s _ _ j st λv c x hv y kk=>?_;obtain⟨t,rfl⟩:=hv;have I1:Inv X a8 σ H { s with heap:=c,toks:=x }:=I.turned (λb o a e=>kk b o (by simpa using a) e) f0 f1 q f4 u;refine⟨_,rfl,zg (s:={ s with heap:=c,toks:=x }) (n:="range_iterator") y rfl rfl (by decide) ⟨.int (A+i),H,I1,⟨t,?_⟩,⟨rfl,rfl⟩,y,λb a=>(hf b a).1⟩⟩;rw[Int.mul_one]
 done:=by intro X f hw r l i a8 s σ H E I hf st j;subst f hw r;obtain⟨f0,f1,f2,q,f4,u⟩:=hf it (by simp);exact wpAny_pyNext_range_end (I.ok.hd l) st (by have:n<=i:=j;omega) λc eb=>⟨rfl,I.turned (t':=s.toks) (λb o a e=>eb b o a e) f0 f1 q f4 u⟩
 self:=λ_ _ _ _ _ st h=>wpAny_pyIter_rangeiter st h
section
variable {X:Cx}{tg:Expr}
noncomputable def Oz (K:ZF)(b:TE):TI:=λσ H R=>b σ H λx H1=>∃a,x = .ref a/\(∃xs,dw K H1 a xs)/\R (Fp K a) H1
noncomputable def Ti (K:ZF)(b:TE):TI:=λσ H R=>b σ H λx H1=>∃a,x = .ref a/\(∃xs,eK K H1 a xs)/\R (J8 K a) H1
theorem xp {l:Expr}{z:TE}(A:PE X l z):PI X tg l (Oz X.K z):=by
 intro a8 s σ H R I h;refine aW (A a8 s σ H _ I h) λv s1 ⟨x,H1,c,f,j⟩=>?_;obtain⟨a,e,⟨xs,i⟩,q⟩:=j;subst e;cases f;obtain⟨u,y,p,r⟩:=c.list i;refine ac9 p.isList ?_;refine⟨s1.heap.objs.size,[s1.heap.objs.size],_,_,H1,rfl,c.kept (t':=s1.toks) λb o e=>Zs _ e,A0 a _,⟨_,ZC _ rfl,rfl,rfl⟩,λb k=>?_,q⟩;have e:b=s1.heap.objs.size:=by simpa using k
 subst e;exact c.mL (Zu _) (c.aS.fresh (Zu _))
theorem J9 {l:Expr}{z:TE}(A:PE X l z):PI X tg l (Ti X.K z):=by
 intro a8 s σ H R I h;refine aW (A a8 s σ H _ I h) λv s1 ⟨x,H1,c,i,k⟩=>?_;obtain⟨a,e,⟨xs,j⟩,q⟩:=k;subst e;cases i;obtain⟨f,y,p,u⟩:=c.tuple j;refine wpAny_pyIter_tuple (show s1.heap.IsTuple a f.toArray from p) ?_;refine⟨s1.heap.objs.size,[s1.heap.objs.size],_,_,H1,rfl,c.kept (t':=s1.toks) λb o e=>Zs _ e,zh a _,⟨_,ZC _ rfl,rfl,rfl⟩,λb r=>?_,q⟩;have e:b=s1.heap.objs.size:=by simpa using r
 subst e;exact c.mL (Zu _) (c.aS.fresh (Zu _))
theorem uR {a8:List (Addr×Obj)}{σ:St}{H:Hp}{s:Zo}{R:It->Hp->Prop}{E:Value->Zo->Prop}{lo i:Int}{t u v:Tok}{tk:Nat}(I:Inv X a8 σ H s)(j:-(2 ^ 62)<=lo)(k:lo<2 ^ 62)(r:-(2 ^ 62)<=i)(l:i<2 ^ 62)
   (q:R (AZ lo (i-lo).toNat) H):wpAny (model X.prog X.w) X.A (aff (.ref s.heap.objs.size)) (QM X a8 σ tg R) E { s with heap:=s.heap.push { cls:=.type "range",data:=.fields #[.int lo t,.int i u,.int 1 v] },toks:=tk }:=by
 refine wpAny_pyIter_range (IsRange.new ..) (small_one j k r l) ?_;have a:Inv X a8 σ H { s with heap:=s.heap.push { cls:=.type "range",data:=.fields #[.int lo t,.int i u,.int 1 v] },toks:=tk }:=I.kept λb o e=>Zs _ e;refine⟨(s.heap.push { cls:=.type "range",data:=.fields #[.int lo t,.int i u,.int 1 v] }).objs.size,[(s.heap.push { cls:=.type "range",data:=.fields #[.int lo t,.int i u,.int 1 v] }).objs.size],_,_,H,rfl,
   a.kept (t':=tk) λb o e=>Zs _ e,zi _ lo (i-lo).toNat,?_,λb f=>?_,q⟩
 . have h:lo+((0:Nat):Int)*1=lo:=by simp
   have c:(((i-lo).toNat:Nat):Int)-((0:Nat):Int)=Builtin.Range.rangeSize lo i 1:=by rw[rangeSize_one];split<;>omega
   show IsRangeIter _ _ (lo+((0:Nat):Int)*1) ((((i-lo).toNat:Nat):Int)-((0:Nat):Int)) 1;rw[h,c];exact ZC _ rfl
 . have e:b=(s.heap.push { cls:=.type "range",data:=.fields #[.int lo t,.int i u,.int 1 v] }).objs.size:=by simpa using f
   subst e;exact a.mL (Zu _) (a.aS.fresh (Zu _))
noncomputable def OA (b:TA):TI:=λσ H R=>b σ H λa H1=>∃j:Int,a = [.int j] /\ -(2 ^ 62)<=j/\j<2 ^ 62/\R (AZ 0 j.toNat) H1
noncomputable def OB (b:TA):TI:=λσ H R=>b σ H λa H1=>∃i j:Int,a = [.int i,.int j]/\(-(2 ^ 62)<=i/\i<2 ^ 62 /\ -(2 ^ 62)<=j/\j<2 ^ 62)/\R (AZ i (j-i).toNat) H1
theorem A1 {a:Expr}{o:TA}{p l:Pos}(u:Gl X "range")(x:X.mg "range" = none)(y:PA X [a] o)(z:ZO [a] X.env = [(false,eval a X.env)]:=by rfl):PI X tg (.Call (.Name "range" p) [a] [] l) (OA o):=by
 intro a8 s σ H R I h;refine Call_ (iL I u x boot_range (aa6 (aW (y l a8 s σ H _ I h) λus s1 ⟨k,H1,i,f,b⟩=>?_) z rfl));obtain⟨j,e,b,c,q⟩:=b;subst e;cases f with
 |cons r rr =>
  cases rr;obtain⟨t,rfl⟩:=r;exact call_range_1 (uR i (by omega) (by omega) b c (by simpa using q))
theorem A2 {a b:Expr}{B:TA}{p z:Pos}(C:Gl X "range")(E:X.mg "range" = none)(J:PA X [a,b] B)(K:ZO [a,b] X.env = [(false,eval a X.env),(false,eval b X.env)]:=by rfl)(A:ZO [b] X.env = [(false,eval b X.env)]:=by rfl):
  PI X tg (.Call (.Name "range" p) [a,b] [] z) (OB B):=by
 intro a8 s σ H R I h;refine Call_ (iL I C E boot_range (aa6 (aW (J z a8 s σ H _ I h) λus s1 ⟨y,H1,u,o,c⟩=>?_) (by rw[K,A]) (by rw[A];rfl)));obtain⟨i,j,e,⟨c,k,l,f⟩,q⟩:=c;subst e;cases o with
 |cons r rr =>
  cases rr with
  |cons r' rr =>
   cases rr;obtain⟨t,rfl⟩:=r;obtain⟨x,rfl⟩:=r';exact call_range_2 (uR u c k l f q)
noncomputable def Tj (c:TI)(g:TG)(tb:TS):TS:=λD σ H=>c σ H λJ H1=>∃W:Nat->Nat->St->Hp->Prop,(∃m,W 0 m σ H1) /\ ∀i m σ H,W i m σ H ->
 (J.stop i H/\D.nx σ H)\/(J.go i H /\ ∃N:St->Hp->Prop,(∀σ' H',N σ' H'->∃m',m' < m/\W (i+1) m' σ' H') /\ ∀x H',J.AY i H x H'->g x σ H' λa b=>tb { D with nx:=N,ct:=N,bk:=D.nx } a b)
noncomputable def mM (fp:List Addr)(h:Heap):List (Addr×Obj):=fp.filterMap λb=>(h.get? b).map λo=>(b,o)
theorem i_ {fp:List Addr}{h:Heap}{b:Addr}{o:Obj}(a:b∈fp)(e:h.get? b=some o):(b,o)∈mM fp h:=aa7.mpr ⟨b,a,by rw[e];rfl⟩
theorem A3 {fp:List Addr}{h:Heap}{p:Addr×Obj}(f:p∈mM fp h):p.1∈fp/\h.get? p.1=some p.2:=by
 obtain⟨b,a,e⟩:=aa7.mp f;cases q:h.get? b with
 |none=>rw[q]at e;cases e
 |some o =>
  rw[q]at e;have c:(b,o)=p:=aam e;subst c;exact⟨a,q⟩
theorem Inv.pinned {a8:List (Addr×Obj)}{σ:St}{H:Hp}{s:Zo}{fp:List Addr}(I:Inv X a8 σ H s)(i:∀b∈fp,fD X a8 H b)(h:∀b∈fp,∃o,s.heap.get? b=some o /\ ∀v,o.data ≠ .cell v):Inv X (a8++mM fp s.heap) σ H s :=
 I.xn λp f=>(Zy.mp f).elim (λz=>I.pin p (aas _ z)) λz=>by obtain⟨c,e⟩:=A3 z;obtain⟨f0,f1,f2,_⟩:=i p.1 c;obtain⟨o,a,d⟩:=h p.1 c;rw[e]at a;cases a;exact⟨e,f0,f1,f2,d⟩
theorem Inv.lq {a8 b:List (Addr×Obj)}{σ:St}{H:Hp}{s:Zo}(I:Inv X (a8++b) σ H s):Inv X a8 σ H s:=I.xn λp a=>I.pin p (aas _ (adA _ a))
theorem J_ {B:Expr}{body:List Stmt}{L:TI}{g:TG}{tb:TS}{K:Pos}(E:ad5 (model X.prog X.w) X.A X.env X.xe)(M:X.calm=true)(O:PI X tg B L)(P:PG X tg g)(C:gU X body tb)
   (Q:∀x,aaq B X.env x=pure x:=by intro _;rfl):PS X (.For tg B body [] K) (Tj L g tb):=by
 intro a8 s σ H D I h;refine wpAny_For (aW (O a8 s σ H _ I h) λv s1 h1=>aW h1 λJ7 s2 h2=>?_) Q;obtain⟨it,q,tn,J,H2,e,I2,T,Ka,f2,W,⟨m0,w0⟩,turn⟩:=h2;subst e;have oM:∀{H':Hp},(∀b∈q,H' b=none)->∀b∈q,fD X a8 H' b:=λhn b C=>⟨hn b C,(f2 b C).2⟩
 refine codeAny_forLoop_any (λn s'=>∃i σ' H',Inv X a8 σ' H' s'/\tn i s'.heap/\(∀b∈q,H' b=none)/\W i n σ' H') ?_ m0 ⟨0,σ,H2,I2,Ka,λb C=>(f2 b C).1,w0⟩;rintro n s3 ⟨i,y,z,I3,QN,QO,w3⟩;rcases turn i n y z w3 with⟨stop,qn⟩|⟨go,N,hN,step⟩
 . refine abW E (aW (T.done X rfl rfl rfl M i a8 s3 y z X.xe I3 (oM QO) QN stop) λr s4 ⟨hr,I4⟩=>?_)
   subst hr;exact adE ⟨y,z,I4,qn⟩
 . refine abW E (aW (T.item X rfl rfl rfl M i a8 s3 y z X.xe I3 (oM QO) QN go) λr s4 ⟨u,hr,h4⟩=>?_)
   subst hr;refine abW E (aW h4 λ_ s5 ⟨x,H5,I5,r5,y5,Kb,Kc⟩=>?_);have ab:=I5.pinned (oM Kc) (T.obj _ _ Kb);refine abW E (aW (P _ s5 y H5 x u _ ab r5 (step x H5 y5)) λ_ s6 ⟨σ6,H6,I6,q6⟩=>?_);refine abW E (aW (C _ s6 σ6 H6 _ I6 q6) λf s7 k=>?_);have again:∀{c:St} {a:Hp},Inv X (a8++mM q s5.heap) c a s7->N c a->∃m,m<n /\ ∃i σ' H',Inv X a8 σ' H' s7/\tn i s7.heap/\(∀b∈q,H' b=none)/\W i m σ' H':=fun {c a} j l=>by obtain⟨m',hm,w7⟩:=hN c a l;refine⟨m',hm,i+1,c,a,j.lq,T.keep _ _ _ Kb λb C o e=>(j.pin (b,o) (aas _ (aas _ (i_ C e)))).1,λb C=>?_,w7⟩;obtain⟨o,e,d⟩:=T.obj _ _ Kb b C;exact(j.pin (b,o) (aas _ (aas _ (i_ C e)))).2.1
   cases f with
   |next=>obtain⟨c,a,j,l⟩:=k;exact again j l
   |cont=>obtain⟨c,a,j,l⟩:=k;exact again j l
   |brk=>obtain⟨c,a,j,k⟩:=k;exact⟨c,a,j.lq,k⟩
   |ret v=>obtain⟨x7,c,a,j,r7,k⟩:=k;exact⟨x7,c,a,j.lq,r7,k⟩
end
abbrev R2:=V->V->Hp->VK->Prop
noncomputable def bK (X:Cx)(f:Value->Value->Sem Value)(r:R2):Prop :=
 ∀(a8:List (Addr×Obj)) (s:Zo) (σ:St) (H:Hp) (x y:V) (v u:Value) (Q:VK),Inv X a8 σ H s->RelV x v->RelV y u->r x y H Q ->
  wpAny (model X.prog X.w) X.A (f v u) (EP X a8 σ Q) X.xe s
noncomputable def A4 (X:Cx)(f:Value->Sem Value)(r:V->Hp->VK->Prop):Prop :=
 ∀(a8:List (Addr×Obj)) (s:Zo) (σ:St) (H:Hp) (x:V) (v:Value) (Q:VK),Inv X a8 σ H s->RelV x v->r x H Q ->
  wpAny (model X.prog X.w) X.A (f v) (EP X a8 σ Q) X.xe s
noncomputable def dJ (X:Cx)(f:Value)(r:List V->Hp->VK->Prop):Prop :=
 ∀(a8:List (Addr×Obj)) (s:Zo) (σ:St) (H:Hp) (xs:List V) (us:List Value) (Q:VK),Inv X a8 σ H s->Vals xs us->r xs H Q ->
  wpAny (model X.prog X.w) X.A (call f us) (EP X a8 σ Q) X.xe s
noncomputable def Tn (X:Cx)(r:V->Hp->(Bool->Hp->Prop)->Prop):Prop :=
 ∀(a8:List (Addr×Obj)) (s:Zo) (σ:St) (H:Hp) (x:V) (v:Value) (Q:Bool->Hp->Prop),Inv X a8 σ H s->RelV x v->r x H Q ->
  wpAny (model X.prog X.w) X.A (truthy v) (TP X a8 σ Q) X.xe s
noncomputable def A5 (r:R2)(b tb:TE):TE:=λσ H Q=>b σ H λx H1=>tb σ H1 λy a=>r x y a Q
noncomputable def V2 (r:V->Hp->VK->Prop)(a:TE):TE:=λσ H Q=>a σ H λx H1=>r x H1 Q
noncomputable def rI (C:Int->Int->Prop)(g:Int->Int->V):R2:=λx y H Q=>∃i j,x = .int i/\y = .int j/\C i j/\Q (g i j) H
noncomputable def og (g:Int->Int->V):R2:=λx y H Q=>∃i j,x = .int i/\y = .int j/\Q (g i j) H
noncomputable def rU (g:Int->V):V->Hp->VK->Prop:=λx H Q=>∃i,x = .int i/\Q (g i) H
section
variable {X:Cx}{a b c:Expr}{ta tb tc:TE}{pos:Pos}
theorem DH (q:PE X a ta)(r:PE X b tb){a8:List (Addr×Obj)}{s:Zo}{σ:St}{H:Hp}{R:V->V->Hp->Prop}(I:Inv X a8 σ H s)
  (h:ta σ H λx H1=>tb σ H1 λy H2=>R x y H2) {Q:Value->Zo->Prop} {f:Value->Value->Sem Value}
  (o:∀v u s2 x y H2,Inv X a8 σ H2 s2->RelV x v->RelV y u->R x y H2->wpAny (model X.prog X.w) X.A (f v u) Q X.xe s2):
  wpAny (model X.prog X.w) X.A (eval a X.env) (λv s₁=>wpAny (model X.prog X.w) X.A (eval b X.env) (λu s₂=>wpAny (model X.prog X.w) X.A (f v u) Q X.xe s₂) X.xe s₁) X.xe s:=by
 refine aW (q a8 s σ H _ I h) λv s1 ⟨x,H1,c,i,k⟩=>?_;refine aW (r a8 s1 σ H1 _ c k) λu s2 ⟨y,H2,j,l,e⟩=>?_;exact o v u s2 x y H2 j i l e
theorem OC {op:acS}{r:R2}(j:bK X (aaH op) r)(k:PE X a ta)(l:PE X b tb):PE X (.BinOp a op b pos) (A5 r ta tb):=by intro a8 s σ H Q I h;exact wpAny_BinOp (DH k l I h λv u s2 x y c e i f q=>j a8 s2 σ c x y v u Q e i f q)
theorem OD {op:UnaryOp}{r:V->Hp->VK->Prop}(i:A4 X (unaryOp op) r)(f:PE X a ta):PE X (.UnaryOp op a pos) (V2 r ta):=by intro a8 s σ H Q I h;exact UnaryOp_ (aW (f a8 s σ H _ I h) λv s1 ⟨x,H1,b,c,e⟩=>i a8 s1 σ H1 x v Q b c e)
theorem Fs {f:Value->Value->Sem Value}{C:Int->Int->Prop}{g:Int->Int->Int}
  (k:∀(i j:Int) (t u:Tok) (s:Zo) (Q:Value->Zo->Prop) (E:Value->Zo->Prop),C i j->Q (.int (g i j) s.toks) { s with toks:=s.toks+1 }->wpAny (model X.prog X.w) X.A (f (.int i t) (.int j u)) Q E s):
  bK X f (rI C λi j=>.int (g i j)):=by
 intro a8 s σ H x y v u Q I e c h;obtain⟨i,j,rfl,rfl,a,q⟩:=h;obtain⟨t,rfl⟩:=e;obtain⟨b,rfl⟩:=c;exact k i j t b s _ _ a ⟨.int (g i j),H,I.tok _,⟨_,rfl⟩,q⟩
theorem Kd {f:Value->Value->Sem Value}{g:Int->Int->Int}
  (e:∀(i j:Int) (t u:Tok) (s:Zo) (Q:Value->Zo->Prop) (E:Value->Zo->Prop),Q (.int (g i j) s.toks) { s with toks:=s.toks+1 }->wpAny (model X.prog X.w) X.A (f (.int i t) (.int j u)) Q E s):
  bK X f (og λi j=>.int (g i j)):=by
 intro a8 s σ H x y v u Q I c b h;obtain⟨i,j,rfl,rfl,q⟩:=h;obtain⟨t,rfl⟩:=c;obtain⟨a,rfl⟩:=b;exact e i j t a s _ _ ⟨.int (g i j),H,I.tok _,⟨_,rfl⟩,q⟩
theorem zj {f:Value->Value->Sem Value}{g:Int->Int->Bool}
  (e:∀(i j:Int) (t u:Tok) (s:Zo) (Q:Value->Zo->Prop) (E:Value->Zo->Prop),Q (.bool (g i j)) s->wpAny (model X.prog X.w) X.A (f (.int i t) (.int j u)) Q E s):
  bK X f (og λi j=>.bl (g i j)):=by
 intro a8 s σ H x y v u Q I c b h;obtain⟨i,j,rfl,rfl,q⟩:=h;obtain⟨t,rfl⟩:=c;obtain⟨a,rfl⟩:=b;exact e i j t a s _ _ ⟨.bl (g i j),H,I,rfl,q⟩
def To (i j:Int):Prop:=0<j/\j<1073741824
def Tp (i j:Int):Prop:=0<=j/\j<=1000000/\i.natAbs<2 ^ 64
def DJ (i j:Int):Prop:=(-(2 ^ 64)<i/\i<2 ^ 64)\/(-(2 ^ 64)<j/\j<2 ^ 64)
theorem DJ.ok {i j:Int}(h:DJ i j):IntMulOk i j:=by
 rcases h with⟨h1,h2⟩|⟨h1,h2⟩
 . exact .of_left (intBits_le_64 h1 h2)
 . exact .of_right (intBits_le_64 h1 h2)
theorem Ke:bK X (aaH .Add) (og λi j=>.int (i+j)):=Kd λ_ _ _ _ _ _ _ q=>add_int q
theorem Kf:bK X (aaH .Sub) (og λi j=>.int (i-j)):=Kd λ_ _ _ _ _ _ _ q=>sub_int q
theorem Kg:bK X (aaH .Mult) (rI DJ λi j=>.int (i*j)):=Fs λ_ _ _ _ _ _ _ a q=>mul_int q a.ok
theorem Hk:bK X (aaH .FloorDiv) (rI To λi j=>.int (i / j)):=Fs λi j _ _ _ _ _ a q=>by have c:(0:Int)<j:=a.1;have b:j<1073741824:=a.2;exact floordiv_int (by omega) (by rw[Int.fdiv_eq_ediv_of_nonneg i (by omega)];exact q) (.inl (PyProof.noPylong_small (by omega)))
theorem Kh:bK X (aaH .Mod) (rI (λ_ j=>0<j) λi j=>.int (i % j)):=Fs λi j _ _ _ _ _ a q=>by have b:(0:Int)<j:=a;exact mod_int' (by omega) (by rw[Int.fmod_eq_emod_of_nonneg i (by omega)];exact q)
theorem Ki:bK X (aaH .Pow) (rI Tp λi j=>.int (i ^ j.toNat)):=Fs λ_ _ _ _ _ _ _ a q=>pow_int_small a.1 a.2.1 a.2.2 q
theorem V3 {f:Value->Sem Value}{g:Int->Int}
  (e:∀(i:Int) (t:Tok) (s:Zo) (Q:Value->Zo->Prop) (E:Value->Zo->Prop),Q (.int (g i) s.toks) { s with toks:=s.toks+1 }->wpAny (model X.prog X.w) X.A (f (.int i t)) Q E s):
  A4 X f (rU λi=>.int (g i)):=by
 intro a8 s σ H x v Q I a h;obtain⟨i,rfl,q⟩:=h;obtain⟨t,rfl⟩:=a;exact e i t s _ _ ⟨.int (g i),H,I.tok _,⟨_,rfl⟩,q⟩
theorem Kj:A4 X (unaryOp .USub) (rU λi=>.int (-i)):=V3 λ_ _ _ _ _ q=>neg_int q
end
section
variable {X:Cx}{a b c:Expr}{ta tb tc:TE}{pos:Pos}
theorem A6 {a8:List (Addr×Obj)}{σ:St}{H:Hp}{s:Zo}{Q:VK}{k f:Bool}(I:Inv X a8 σ H s)(q:Q (.bl k) H)(e:k=f):EP X a8 σ Q (.bool f) s:=by subst e;exact⟨.bl k,H,I,rfl,q⟩
theorem OE:bK X (aaB .Lt) (og λi j=>.bl (decide (i<j))):=zj λ_ _ _ _ _ _ _ q=>lt_int q
theorem OF:bK X (aaB .LtE) (og λi j=>.bl (decide (i<=j))):=zj λ_ _ _ _ _ _ _ q=>le_int q
theorem OG:bK X (aaB .Gt) (og λi j=>.bl (decide (j<i))):=zj λ_ _ _ _ _ _ _ q=>gt_int q
theorem OH:bK X (aaB .GtE) (og λi j=>.bl (decide (j<=i))):=zj λ_ _ _ _ _ _ _ q=>ge_int q
theorem Kk:bK X (aaB .Is) (λx y H Q=>y = .ay/\Q (.bl (decide (x = .ay))) H):=by
 intro a8 s σ H x y v u Q I a b h;obtain⟨rfl,q⟩:=h;cases b;refine is_none_gen (A6 I q ?_);cases x<;>first
  | (cases a;rfl)
  | (obtain⟨t,rfl⟩:=a;rfl)
theorem Hl:bK X (aaB .IsNot) (λx y H Q=>y = .ay/\Q (.bl (!decide (x = .ay))) H):=by
 intro a8 s σ H x y v u Q I a b h;obtain⟨rfl,q⟩:=h;cases b;refine isnot_none_gen (A6 I q ?_);cases x<;>first
  | (cases a;rfl)
  | (obtain⟨t,rfl⟩:=a;rfl)
theorem Hm {op:CmpOp}{r:R2}(j:bK X (aaB op) r)(l:PE X a ta)(o:PE X b tb)(k:adi op b=false):PE X (.Compare a [op] [b] pos) (A5 r ta tb):=by intro a8 s σ H Q I h;exact wpAny_Compare1 (DH l o I h λv u s2 x y c e i f q=>j a8 s2 σ c x y v u Q e i f q) k
noncomputable def t8 (t:TE):TT:=λσ H Q=>t σ H λx a=>∃k,x = .bl k/\Q k a
theorem Hn {op:CmpOp}{r:R2}(A:bK X (aaB op) r)(C:PE X a ta)(E:PE X b tb)(B:adi op b=false):PT X (.Compare a [op] [b] pos) (t8 (A5 r ta tb)):=by
 intro a8 s σ H Q I h;refine wpAny_isTrue_Compare1 (aW (C a8 s σ H _ I h) λv s1 ⟨x,H1,o,j,q1⟩=>aW (E a8 s1 σ H1 _ o q1) λu s2 ⟨y,H2,q,r2,f⟩=>
  aW (A a8 s2 σ H2 x y v u _ q j r2 f) λc s3 ⟨z,H3,I3,l,k,e,i⟩=>?_) B
 subst e;cases l;exact abH ⟨H3,I3,i⟩
noncomputable def DL (K:ZF)(x:V)(H:Hp)(k:Bool):Prop :=
 match x with
 |.ay=>k=false|.bl b=>k=b|.int i=>k=(i != 0)|.str y=>y.length<=ZM/\k=((y.length:Int) != 0)|.AQ y=>y.size<=ZM/\k=((y.size:Int) != 0)|.ref p=>(∃xs,dw K H p xs/\k = !xs.isEmpty)\/(∃xs,eK K H p xs/\k = !xs.isEmpty) \/ ∃dX,H p=some (.dK dX)/\k = !dX.isEmpty|_=>False
theorem zm {e:Type}{f:List (e×V)}{vs:List (e×Value)}(r:KV f vs):(!vs.isEmpty)= !f.isEmpty:=by cases r<;>rfl
theorem pB {xs:List V}{e:List Value}(r:Vals xs e):(!e.toArray.isEmpty)= !xs.isEmpty:=by cases r<;>simp
theorem kA:(ZM:Nat)<2 ^ 63:=by rw[abC];decide
theorem A7:Tn X (λx H Q=>∃k,DL X.K x H k/\Q k H):=by
 intro a8 s σ H x v Q I c h;obtain⟨k,e,q⟩:=h;have hl:=kA;have z:ZM=16777216:=abC;cases x with
 |ay =>
  cases c;have a:k=false:=e;subst a;exact truthy_none ⟨H,I,q⟩
 |bl b =>
  cases c;have a:k=b:=e;subst a;exact abH ⟨H,I,q⟩
 |int i =>
  obtain⟨t,rfl⟩:=c;have a:k=(i != 0):=e;subst a;exact PySem.P.truthy_int ⟨H,I,q⟩
 |str y =>
  obtain⟨t,rfl⟩:=c;obtain⟨u,a⟩:y.length<=ZM/\k=((y.length:Int) != 0):=e;subst a;exact PySem.P.truthy_str (by omega) ⟨H,I.tok _,q⟩
 |AQ y =>
  obtain⟨t,rfl⟩:=c;obtain⟨u,a⟩:y.size<=ZM/\k=((y.size:Int) != 0):=e;subst a;exact PySem.W.truthy_bytes (by omega) ⟨H,I.tok _,q⟩
 |ref p =>
  cases c;have a:(∃xs,dw X.K H p xs/\k = !xs.isEmpty)\/(∃xs,eK X.K H p xs/\k = !xs.isEmpty) \/ ∃dX,H p=some (.dK dX)/\k = !dX.isEmpty:=e;rcases a with⟨xs,hx,a⟩|⟨xs,hx,a⟩|⟨dX,hx,a⟩
  . subst a
    obtain⟨l,r,f,j⟩:=I.list hx;have hlen:=r.length;exact wpAny_truthy_list f.isList (by simp only[Zw];omega) ⟨H,I.tok _,by rw[pB r];exact q⟩
  . subst a
    obtain⟨l,r,f,j⟩:=I.tuple hx;have hlen:=r.length;exact truthy_tuple f (by simp only[Zw];omega) ⟨H,I.tok _,by rw[pB r];exact q⟩
  . subst a
    obtain⟨j,o,vs,r,m⟩:dX.length<=ZM/\(p == ace)=false /\ ∃vs,KV dX vs/\s.heap.DictOf (eF X.prog X.w) p vs:=I.aS p _ hx;have hlen:dX.length=vs.length:=Paired.length r;exact wpAny_truthy_dict o m (by omega) ⟨H,I.tok _,by rw[zm r];exact q⟩
 |_=>exact(show False from e).elim
theorem DM (i:PE X a ta)(f:∀whole,isTrue a X.env whole=(do let v <- whole;afe a.pos;ab3 [v] (truthy v))):
  PT X a (λσ H Q=>ta σ H λx H'=>∃k,DL X.K x H' k/\Q k H'):=by
 intro a8 s σ H Q I h;exact isTrue_plain (aW (i a8 s σ H _ I h) λv s1 ⟨x,H1,b,c,e⟩=>A7 a8 s1 σ H1 x v Q b c e) (f _)
theorem zo:bK X (aaH .Add) (λx y H Q=>∃i j,x = .str i/\y = .str j/\i.length+j.length<=ZM/\Q (.str (i++j)) H):=by intro a8 s σ H x y v u Q I e c h;obtain⟨i,j,rfl,rfl,a,q⟩:=h;obtain⟨t,rfl⟩:=e;obtain⟨b,rfl⟩:=c;exact add_str (λb f=>⟨.str (i++j),H,I.tok _,⟨_,rfl⟩,q⟩) a
theorem vals1 {x:V}{us:List Value}(r:Vals [x] us):∃u,us = [u]/\RelV x u:=by
 cases r with
 |cons r1 r2=>cases r2;exact⟨_,rfl,r1⟩
theorem vals2 {x y:V}{us:List Value}(r:Vals [x,y] us):∃u w',us = [u,w']/\RelV x u/\RelV y w':=by
 cases r with
 |cons r1 r2 =>
  cases r2 with
  |cons r3 r4=>cases r4;exact⟨_,_,rfl,r1,r3⟩
theorem A8 (f:X.calm=true):dJ X (.builtin "min") (λxs H Q=>∃i j,xs = [.int i,.int j]/\Q (.int (if j<i then j else i)) H):=by
 intro a8 s σ H xs us Q I r h;obtain⟨i,j,rfl,q⟩:=h;obtain⟨u,e,rfl,⟨t,rfl⟩,⟨a,rfl⟩⟩:=vals2 r;refine min_two_ints (I.ok.hd f) λc b k=>⟨_,H,I.kept k,?_,q⟩
 by_cases hj:j<i
 . rw[if_pos hj,if_pos hj];exact⟨_,rfl⟩
 . rw[if_neg hj,if_neg hj];exact⟨_,rfl⟩
theorem sg:dJ X (.type "int") (λxs H Q=>(∃i,xs = [.int i]/\Q (.int i) H) \/ ∃k,xs = [.bl k]/\Q (.int (if k then 1 else 0)) H):=by
 intro a8 s σ H xs us Q I r h;rcases h with⟨i,rfl,q⟩|⟨k,rfl,q⟩
 . obtain⟨u,rfl,t,rfl⟩:=vals1 r
   exact call_int_int ⟨.int i,H,I,⟨_,rfl⟩,q⟩
 . obtain⟨u,rfl,a⟩:=vals1 r
   cases a;exact call_int_bool ⟨.int (if k then 1 else 0),H,I.tok _,⟨_,rfl⟩,q⟩
end
structure dn (k:Nat)(A:ZY):Prop where
 hd:A.handled=none
 dp:A.depth+3*k+5<recursionLimit
 un:A.units+16*k+200<cLine
 gd:A.guards=some []
theorem dn.deeper {k:Nat}{A:ZY}(r:dn (k+1) A)(env:Env):dn k (A.deeper env):=
 ⟨r.hd,by have:=r.dp;show A.depth+1+3*k+5<_;omega,by have:=r.un;show A.units+3+16*k+200<_;omega,by first|exact r.gd| (simp[Around.deeper];exact r.gd)⟩
theorem dn.depth {k:Nat}{A:ZY}(r:dn k A):A.depth<recursionLimit:=by have:=r.dp;omega
theorem dn.units {k:Nat}{A:ZY}(r:dn k A):A.units+64<cLine:=by have:=r.un;omega
noncomputable def Kl:TA:=λ_ H Q=>Q [] H
noncomputable def OI (b:TE)(tr:TA):TA:=λσ H Q=>b σ H λx H1=>tr σ H1 λxs a=>Q (x::xs) a
section
variable {X:Cx}{e:Expr}{es:List Expr}{te:TE}{t:TA}{pos:Pos}
theorem mN:PA X [] Kl:=λ_ _ _ _ H Q I h=>agb ⟨[],H,I,.nil,h⟩
theorem kB (o:PE X e te)(q:PA X es t)(l:ZO (e::es) X.env=(false,eval e X.env)::ZO es X.env:=by rfl):PA X (e::es) (OI te t):=by intro pos a8 s σ H Q I h;rw[l];show wpAny _ _ (spliced ((false,eval e X.env)::abp pos (ZO es X.env))) _ _ s;refine ad7 (aW (o a8 s σ H _ I h) λu s1 ⟨x,H1,c,b,j⟩=>?_);exact aW (q pos a8 s1 σ H1 _ c j) λus s2 ⟨xs,i,f,k,a⟩=>⟨x::xs,i,f,.cons b k,a⟩
noncomputable def Tq (t:TA):TE:=λσ H Q=>t σ H λxs H1=>xs.length<=ZM /\ ∀p,H1 p=none->Q (.ref p) (upd H1 p (.tup xs))
noncomputable def Tr (t:TA):TE:=λσ H Q=>t σ H λxs H1=>xs.length<=ZM /\ ∀p,H1 p=none->Q (.ref p) (upd H1 p (.lst xs))
theorem Km {f}(h:PA X es t):PE X (.Tuple es f pos) (Tq t):=by intro a8 s σ H Q I c;refine wpAny_Tuple_spliced (aW (h pos a8 s σ H _ I c) λus s1 ⟨xs,H1,a,r,z,q⟩=>⟨by rw[<- r.length];exact z,?_⟩);have hf:H1 s1.heap.objs.size=none:=a.aS.fresh (Zu _);refine⟨.ref s1.heap.objs.size,upd H1 s1.heap.objs.size (.tup xs),a.laid (t':=s1.toks) (λb u e=>Zs _ e) (Zu _) ?_,rfl,q _ hf⟩;exact⟨z,us,r,⟨_,ZC _ rfl,rfl,⟨_,rfl⟩,rfl⟩⟩
theorem A9 (h:PA X es t):PE X (.List es pos) (Tr t):=by intro a8 s σ H Q I c;refine wpAny_List_spliced (aW (h pos a8 s σ H _ I c) λus s1 ⟨xs,H1,a,r,z,q⟩=>⟨by rw[<- r.length];exact z,?_⟩);have hf:H1 s1.heap.objs.size=none:=a.aS.fresh (Zu _);refine⟨.ref s1.heap.objs.size,upd H1 s1.heap.objs.size (.lst xs),a.laid (t':=s1.toks) (λb u e=>Zs _ e) (Zu _) ?_,rfl,q _ hf⟩;exact⟨z,us,0,r,ZC _ rfl⟩
end
abbrev Sp:=List V->Hp->VK->XK->Prop
abbrev mO:=List Env->Hp->Zo->XK->Value->Zo->Prop
structure oN (P:ZW)(w:World)(K:ZF)(mg:Str->Option Value)(base:Heap)(A:ZY)(outer:List Env)(s:Zo)(H:Hp):Prop where
 frames:A.frames=some outer
 mod:Mod K mg base
 bs:∀b o,base.get? b=some o->s.heap.get? b=some o/\H b=none
 mI:base.objs.size<=s.heap.objs.size
 gS:s.heap.FunFrames base outer
 pv:∀b∈jW outer,H b=none
 aS:dY P w H s.heap
 bare:adw s.gens
noncomputable def CE (a:List Env)(P:ZW)(w:World)(H:Hp)(s:Zo)(Q:VK)(u:Value)(b:Zo):Prop :=
 ∃v H',b.os=s.os/\adw b.gens/\Un (jW a) [] H H' s.heap b.heap/\dY P w H' b.heap/\RelV v u/\Q v H'
noncomputable def CR (CX:mO)(a:List Env)(P:ZW)(w:World)(H:Hp)(s:Zo)(Q:VK)(E:XK)(r:Result)(b:Zo):Prop :=
 match r with
 |.ok (.ret u)=>CE a P w H s Q u b|.ok _=>False|.error e=>CX a H s E e b
structure dS (P:ZW)(w:World)(K:ZF)(mg:Str->Option Value)(base:Heap)(CX:mO)(k:Nat)(f:Addr)(fd:aaM)(ps:List Str)(sp:Sp):Prop where
 len:∀vs H Q E,sp vs H Q E->vs.length=ps.length
 run:∀(A:ZY) (outer:List Env) (s:Zo) (H:Hp) (args:Args) (us:List Value) (vs:List V) (Q:VK) (E:XK),dn k A->oN P w K mg base A outer s H->af9 s fd args (ps.zip us)->Vals vs us->sp vs H Q E ->
  acK (model P w) A (.call (.ref f) args) (CR CX outer P w H s Q E) s
theorem dS.imp {P:ZW}{w:World}{K:ZF}{mg:Str->Option Value}{base:Heap}{CX:mO}{k:Nat}{f:Addr}{fd:aaM}{ps:List Str}{sp QP:Sp}(F:dS P w K mg base CX k f fd ps sp)
  (h:∀vs H Q E,QP vs H Q E->sp vs H Q E):dS P w K mg base CX k f fd ps QP :=
 ⟨λvs H Q E q=>F.len vs H Q E (h _ _ _ _ q),λA outer s H args us vs Q E a he e c b=>F.run A outer s H args us vs Q E a he e c (h _ _ _ _ b)⟩
section
variable {X:Cx}{a8:List (Addr×Obj)}{σ:St}{H:Hp}{s s':Zo}
theorem Inv.DN (I:Inv X a8 σ H s):oN X.prog X.w X.K X.mg X.base X.A X.stack s H :=
 ⟨I.ok.frames,I.ok.mod,I.bs,Z4 I.ok.mI I.sz,I.stack,I.xm,I.aS,I.bare⟩
theorem Inv.after {Q:VK}{u:Value}(I:Inv X a8 σ H s)(h:CE X.stack X.prog X.w H s Q u s'):EP X a8 σ Q u s':=by obtain⟨v,c,os,bare,un,e,r,q⟩:=h;obtain⟨f,g,d,t,a⟩:=s';obtain rfl:a=s.os:=os;exact⟨v,c,I.call (h':=f) (g':=g) (d':=d) (t':=t) (ch:=[]) un e bare (λb z=>absurd z (by simp)),r,q⟩
end
noncomputable def t_ (sp:Sp)(b:List V)(E:XK)(t:TA):TE:=λσ H Q=>t σ H λa H1=>sp (a++b) H1 Q E
noncomputable def Binds (K:ZF)(fd:aaM)(ps:List Str)(ds:List Value):Prop :=
 ∀(s:Zo) (us:List Value),K.In s.heap->(us++ds).length=ps.length->af9 s fd ⟨us,[]⟩ (ps.zip (us++ds))
theorem Binds.all {K:ZF}{fd:aaM}{ps:List Str}(h:∀us:List Value,us.length=ps.length->adV fd ⟨us,[]⟩=pure (ps.zip us)):Binds K fd ps []:=λs us _ a=>by rw[aaL]at a ⊢;exact .of_eq (h us a)
def Passes (CX:mO)(X:Cx)(E:XK):Prop:=∀(a8:List (Addr×Obj)) (σ:St) (H:Hp) (s:Zo) (e:Value) (s':Zo),Inv X a8 σ H s->CX X.stack H s E e s'->X.xe e s'
section
variable {X:Cx}{CX:mO}{k:Nat}{f C:Addr}{fd:aaM}{ps:List Str}{sp:Sp}{oh:List V}{ds:List Value}{E:XK}{x m:Str}{p pos apos:Pos}{e o:Expr}{es:List Expr}{ta:TE}{t:TA}
theorem uS {a8:List (Addr×Obj)}{σ:St}{H:Hp}{s:Zo}{Q:VK}{us:List Value}{vs:List V}(F:dS X.prog X.w X.K X.mg X.base CX k f fd ps sp)(j:dn k X.A)(q:Binds X.K fd ps ds)(l:Vals oh ds)(y:Passes CX X E)
  (I:Inv X a8 σ H s) (r:Vals vs us) (h:sp (vs++oh) H Q E):wpAny (model X.prog X.w) X.A (call (.ref f) us) (EP X a8 σ Q) X.xe s:=by
 have b:Vals (vs++oh) (us++ds):=r.append l;have i:(us++ds).length=ps.length:=by rw[<- b.length];exact F.len _ _ _ _ h
 refine afq (acp (F.run X.A X.stack s H ⟨us,[]⟩ (us++ds) (vs++oh) Q E j I.DN (q s us I.mf i) b h) λr c a=>?_);cases r with
 |error e=>exact y a8 σ H s e c I a
 |ok fl =>
  cases fl with
  |ret u=>exact I.after a|next=>exact aba a|brk=>exact aba a|cont=>exact aba a
theorem Ho (F:dS X.prog X.w X.K X.mg X.base CX k f fd ps sp)(j:dn k X.A)(u:Gl X x)(B:X.mg x=some (.ref f))(i:abn X.K (.ref f)=true)(L:Binds X.K fd ps ds)(y:Vals oh ds)(M:Passes CX X E)
  (J:PA X (e::es) t) (c:(x == ("__debug__":Str))=false:=by decide) (z:ZO (e::es) X.env=(false,eval e X.env)::ZO es X.env:=by rfl) (l:(abp pos (ZO es X.env)).any (·.1)=false:=by rfl):
  PE X (.Call (.Name x p) (e::es) [] pos) (t_ sp oh E t):=by
 intro a8 s σ H Q I h;refine aa8 (nG I u B ?_ c);refine ad8 (h₀:=X.base) I.ok.mod.kz i (aW (J pos a8 s σ H _ I h) λus s1 ⟨b,H1,a,r,q⟩=>⟨a.mf,?_⟩) z l;exact uS F j L y M a r q
theorem DP (F:dS X.prog X.w X.K X.mg X.base CX k f fd ps sp)(c:dn k X.A)(i:Gl X x)(l:X.mg x=some (.ref f))(b:abn X.K (.ref f)=true)(q:Binds X.K fd ps ds)(j:Vals oh ds)(r:Passes CX X E)
  (a:(x == ("__debug__":Str))=false:=by decide):PE X (.Call (.Name x p) [] [] pos) (t_ sp oh E Kl):=by
 intro a8 s σ H Q I h;refine aa8 (nG I i l ?_ a);exact PySem.W.callWith_K0 I.mf b (uS (us:=[]) F c q j r I .nil h)
end
structure jk (N P:List Str)(sc:Scope):Prop where
 kind:sc.kind = .function
 co:sc.isCoroutine=false
 gen:sc.isGenerator=false
 nd:N.Nodup
 pre:N.take P.length=P
 par:∀x∈P,sc.names.lookup x=some .local\/sc.names.lookup x=some .cell
 Kn:∀y∈sc.names,y.2 ≠ .free
theorem si {a:Str->Option aby}{x:Str}:∀{binds:List (Str×Value)} {m:Str->Option Value},(∀v,(x,v) ∉ binds)->bindL a binds m x=m x
 | [],_,_=>rfl
 | (n,v)::r,m,h=>by
  unfold bindL;rw[si λw hw=>h w (Zz _ hw)];split
  . have:x≠n:=by rintro rfl;exact h v ZU
    simp[this]
  . rfl
theorem sj {a:Str->Option aby}{x:Str}:∀{binds:List (Str×Value)} {m:Str->Option Value},(∀v,(x,v) ∉ binds)->bindC a binds m x=m x
 | [],_,_=>rfl
 | (n,v)::r,m,h=>by
  unfold bindC;rw[sj λw hw=>h w (Zz _ hw)];split
  . rfl
  . have:x≠n:=by rintro rfl;exact h v ZU
    simp[this]
theorem so {b:Str->Option aby}{x:Str}{v:Value}:∀{P:List Str} {vs:List Value} {i:Nat} {m:Str->Option Value},P.Nodup->P[i]? = some x->vs[i]? = some v->b x=some .local ->
  bindL b (P.zip vs) m x=some v
 | [],_,_,_,_,h,_,_=>by simp at h|_::_,[],_,_,_,_,h,_=>by simp at h|p::P,w::vs,0,m,nd,h1,h2,hk=>by simp at h1 h2;subst h1;subst h2;show bindL b ((p,w)::P.zip vs) m p=_;unfold bindL;rw[si λv a=>(aaU.mp nd).1 (adG a).1,if_pos hk];simp|p::P,w::vs,i+1,m,nd,h1,h2,hk=>by show bindL b ((p,w)::P.zip vs) m x=_;unfold bindL;exact so (i:=i) (aaU.mp nd).2 (by simpa using h1) (by simpa using h2) hk
theorem sr {b:Str->Option aby}{x:Str}{v:Value}:∀{P:List Str} {vs:List Value} {i:Nat} {m:Str->Option Value},P.Nodup->P[i]? = some x->vs[i]? = some v->b x≠some .local ->
  bindC b (P.zip vs) m x=some v
 | [],_,_,_,_,h,_,_=>by simp at h|_::_,[],_,_,_,_,h,_=>by simp at h|p::P,w::vs,0,m,nd,h1,h2,hk=>by simp at h1 h2;subst h1;subst h2;show bindC b ((p,w)::P.zip vs) m p=_;unfold bindC;rw[sj λv a=>(aaU.mp nd).1 (adG a).1,if_neg hk];simp|p::P,w::vs,i+1,m,nd,h1,h2,hk=>by show bindC b ((p,w)::P.zip vs) m x=_;unfold bindC;exact sr (i:=i) (aaU.mp nd).2 (by simpa using h1) (by simpa using h2) hk
noncomputable def start (N:List Str)(vs:List V):St:=vs.map some++ZA (N.length-vs.length) none
noncomputable def lu (lx:Lx)(CX:mO)(P:ZW)(w:World)(K:ZF)(mg:Str->Option Value)(base:Heap)(N:List Str)(h:Str)(scope:Scope)(f:Addr)(i:Value)(A:ZY)(outer:List Env)(s:Zo)(H:Hp)(E:XK):Cx where
 prog:=P
 w:=w
 K:=K
 mg:=mg
 base:=base
 A:=A.deeper (adH h scope s.heap.objs.size f i)
 N:=N
 s₀:=s
 H₀:=H
 env:=adH h scope s.heap.objs.size f i
 outer:=outer
 stack:=adH h scope s.heap.objs.size f i::outer
 ex:=[]
 calm:=true
 fn:=λ_=>true
 pn:=[]
 lx:=lx
 xe:=λe b=>wpAny (model P w) (A.deeper (adH h scope s.heap.objs.size f i)) (leaving (adH h scope s.heap.objs.size f i) e) (λ_ a=>CX outer H s E e a) (λc a=>CX outer H s E c a) b
theorem uU {sc:Scope}{n:Nat}{x:Str}(h:sc.names.lookup x=some .cell):∃c,(aaV n sc.names []).lookup x=some c:=by have q:=ae3 sc.names n [] (.inl h);exact acU.mp q
theorem Ba {lx:Lx}{CX:mO}{P:ZW}{w:World}{K:ZF}{mg:Str->Option Value}{base:Heap}{N ps:List Str}{C:Str}{scope:Scope}{f:Addr}{J:Value}{A:ZY}{B:List Env}{s s1:Zo}{H:Hp}{E:XK}{us:List Value}{vs:List V}
   (S:jk N ps scope) (L:A.handled=none) (I:oN P w K mg base A B s H) (M:vs.length=ps.length) (r:Vals vs us)
   (x:InCallC s s.heap.objs.size (bindL (adH C scope s.heap.objs.size f J).kindOf (ps.zip us) λ_=>none) (aaV (s.heap.objs.size+1) scope.names []) (bindC (adH C scope s.heap.objs.size f J).kindOf (ps.zip us) λ_=>none) s1):
   Inv (lu lx CX P w K mg base N C scope f J A B s H E) [] (start N vs) H s1:=by
 have eG:ps.length<=N.length:=by have:=congrArg ae4 S.pre;rw[aah]at this;omega
 obtain⟨h1,tk,rfl,hk⟩:=x.done;have pC:∀b:Addr,b ∉ (lu lx CX P w K mg base N C scope f J A B s H E).ex:=λb z=>absurd (show b∈([]:List Addr) from z) (by simp);refine⟨⟨I.mod,S.kind,rfl,rfl,Zu _,λy z c h1 j=>?_,λy l=>?_,λy c _ h=>?_,λ_=>L,afr I.frames,.inr ⟨rfl,rfl⟩,λb z=>absurd z (pC b),I.bs,I.mI,λb _ _=>pC b,λb z=>absurd z (pC b),I.gS,I.pv⟩,
   rfl,I.bare,Un.kept hk,⟨_,x.toInCall.ns,λi y v h1 j h3=>?_⟩,λy c h=>⟨_,x.cell y c h⟩,I.aS.fresh (Zu _),λy c h=>?_,λp o=>absurd (show p∈([]:List (Addr×Obj)) from o) (by simp),I.aS.kept hk,?_⟩
 . exact name_of_addr x.apart (Z5 h1) (Z5 j)
 . have l:scope.names.lookup y=some .cell\/scope.names.lookup y=some .free:=l
   rcases l with l|l
   . exact uU l
   . exact absurd rfl (S.Kn _ (Z5 l))
 . exact aco (x.above y c (Z5 h))
 . have hi:i<vs.length:=by
     unfold start at j;by_cases hi:i<vs.length
     . exact hi
     . rw[ZX (by simpa using hi)]at j
       rw[aeS]at j;split at j<;>cases j
   have ha:vs[i]? = some v:=by
     unfold start at j;rw[ZI (by simpa using hi),ZE]at j;cases e:vs[i]? with
     |none=>rw[e]at j;cases j|some a=>rw[e]at j;cases j;rfl
   obtain⟨u,hu,rv⟩:=r.get ha;have o:ps[i]? = some y:=by rw[<- S.pre,abk (by omega)];exact h1
   have QQ:ps.Nodup:=by rw[<- S.pre];exact S.nd.sublist (aen _ _)
   refine⟨u,rv,?_⟩;rcases S.par y (ZP o)with k|k
   . exact .inl ⟨k,so QQ o hu k⟩
   . obtain⟨c,e⟩:=uU (n:=s.heap.objs.size+1) k
     refine .inr ⟨.inl k,c,e,?_⟩;have q:=x.cell y c e;rw[sr QQ o hu (by show scope.names.lookup y≠_;rw[k];decide)]at q;exact q
 . exact I.aS.fresh (aco (x.above y c (Z5 h)))
 . unfold start
   show _=N.length;rw[ZH,Z2,List.length_replicate];omega
theorem OJ {lx:Lx}{CX:mO}{P:ZW}{w:World}{K:ZF}{mg:Str->Option Value}{base:Heap}{k:Nat}{f:Addr}{name B:Str}{C:acz}{body:List Stmt}{scope:Scope}{R kV M T L ct Z:Value}{O od:Option Addr}
  {U:Array (Option Value)} {N ps:List Str} {sp:Sp} (Y:K.lookup f=some ⟨Z,od,.func (abv name B C body scope R kV M T O L ct),U⟩) (i5:ac1 K L B=true) (S:jk N ps scope)
  (len:∀vs H Q E,sp vs H Q E->vs.length=ps.length)
  (X:∀(A:ZY) (outer:List Env) (s:Zo) (H:Hp) (vs:List V) (Q:VK) (E:XK),dn k (A.deeper (adH B scope s.heap.objs.size f L))->sp vs H Q E ->
    ∃t,gU (lu lx CX P w K mg base N B scope f L A outer s H E) body t/\t { nx:=λ_ H'=>Q .ay H',rt:=Q } (start N vs) H):
  dS P w K mg base CX (k+1) f (abv name B C body scope R kV M T O L ct) ps sp:=by
 refine⟨len,λA outer s H args us vs Q E i c hb r l=>?_⟩;have hl:=len _ _ _ _ l;have z:K.In s.heap:=c.mod.kz.keeps λb o e=>(c.bs b o e).1;have lim:s.heap.NoLimit:=c.mod.nolimit.keeps λb o e=>(c.bs b o e).1;have ua:∀y∈ps.zip us,scope.names.lookup y.1=some .local\/(scope.names.lookup y.1=some .cell/\((aaV (s.heap.objs.size+1) scope.names []).lookup y.1).isSome=true):=λ⟨n,v⟩ hy=>by
  rcases S.par n (adG hy).1 with q|q
  . exact .inl q
  . exact .inr ⟨q,ae3 _ _ _ (.inl q)⟩
 refine codeAny_call_function i.depth (z _ _ Y) rfl S.co S.gen rfl (PySem.W.codeRec_of z i5) (hb _ _ _ _ ?_);refine wpAny_newFunctionEnv_cells S.kind ua λenv he s1 x=>?_;subst he;refine⟨lim.keeps x.toInCall.keep,codeAny_func ?_⟩;obtain⟨t,ht,hq⟩:=X A outer s H vs Q E (i.deeper _) l;have I:Inv (lu lx CX P w K mg base N B scope f L A outer s H E) [] (start N vs) H s1:=Ba S i.hd c hl r x;refine adB (ht [] s1 (start N vs) H _ I hq) (λfl s' a=>?_) λe s' a=>a;have fin:∀{h:St} {H':Hp} {v:V} {u:Value},Inv (lu lx CX P w K mg base N B scope f L A outer s H E) [] h H' s'->RelV v u->Q v H'->CE outer P w H s Q u s' :=
  fun {h H' v u} J j q=>⟨v,H',J.os,J.bare,J.base,J.aS,j,q⟩
 cases fl with
 |ret u =>
  obtain⟨v,h,H',J,j,q⟩:=a;exact fin J j q
 |next =>
  obtain⟨h,H',J,q⟩:=a;exact fin (v:=V.ay) (u:=aa_) J rfl q
 |brk =>
  obtain⟨_,_,_,q⟩:=a;exact aba q
 |cont =>
  obtain⟨_,_,_,q⟩:=a;exact aba q
section
variable {X:Cx}{x:Str}{p pos:Pos}{e:Expr}{es:List Expr}{t:TA}{id T:String}{r:List V->Hp->VK->Prop}
noncomputable def QR (r:List V->Hp->VK->Prop)(t:TA):TE:=λσ H Q=>t σ H λa H1=>r a H1 Q
theorem DQ (o:dJ X (.builtin id) r)(l:Gl X x)(u:X.mg x=none)(z:abU x=some (.builtin id))(y:PA X (e::es) t)(k:x ≠ "__name__":=by decide)(i:(x == ("__debug__":Str))=false:=by decide)
  (q:ZO (e::es) X.env=(false,eval e X.env)::ZO es X.env:=by rfl) (j:(abp pos (ZO es X.env)).any (·.1)=false:=by rfl):PE X (.Call (.Name x p) (e::es) [] pos) (QR r t):=by
 intro a8 s σ H Q I h;refine aa8 (iL I l u z ?_ k i);exact adI (aW (y pos a8 s σ H _ I h) λus s1 ⟨c,H1,a,b,f⟩=>o a8 s1 σ H1 c us Q a b f) q j
theorem Bb (o:dJ X (.type T) r)(l:Gl X x)(u:X.mg x=none)(z:abU x=some (.type T))(y:PA X (e::es) t)(k:x ≠ "__name__":=by decide)(i:(x == ("__debug__":Str))=false:=by decide)
  (q:ZO (e::es) X.env=(false,eval e X.env)::ZO es X.env:=by rfl) (j:(abp pos (ZO es X.env)).any (·.1)=false:=by rfl):PE X (.Call (.Name x p) (e::es) [] pos) (QR r t):=by
 intro a8 s σ H Q I h;refine aa8 (iL I l u z ?_ k i);exact aa6 (aW (y pos a8 s σ H _ I h) λus s1 ⟨c,H1,a,b,f⟩=>o a8 s1 σ H1 c us Q a b f) q j
end
end L2
namespace HT
open PyProof.Rows
section
open PySem.SeqAt
open PySem.AutoSeq1 (wpAny_loadPart')
open PySem.MeetsSeq PySem.MeetsSeq2 PySem.MeetsSeq3
end
section
variable {prog:ZW}{w:World}{A:ZY}{E:Value->Zo->Prop}{s:Zo}
theorem Hq {t b:Addr}{vs ws:List Value}{Q:Value->Zo->Prop}(u:IsTup s.heap t vs.toArray)(B:IsTup s.heap b ws.toArray)(r:vs ≠ [])
   (x:ws = []->Q (.ref t) s) (y:ws ≠ []->Q (.ref s.heap.objs.size) { s with heap:=s.heap.push { cls:=.type "tuple",data:=.seq (vs++ws).toArray } })
   (z:vs.length+ws.length<=ZM):wpAny (model prog w) A (aaH .Add (.ref t) (.ref b)) Q E s:=by
 obtain⟨⟨cls,i,data,j⟩,a,f,n,hd⟩:=id u;obtain⟨⟨q,h,data2,l⟩,c,k,o,hd2⟩:=id B;simp only at f hd k hd2;subst f hd k hd2;have e:vs.toArray++ws.toArray=(vs++ws).toArray:=by simp
 by_cases hw:ws = []
 . exact aeH ⟨_,a,rfl⟩ ⟨_,c,rfl⟩ aeI afB adb ac7 (acV _ _)
    (tuple_addW1 t b vs.toArray ws.toArray n o i h j l (by simpa using r) (by simp[hw])) ⟨a,c,x hw⟩
 . refine aeH ⟨_,a,rfl⟩ ⟨_,c,rfl⟩ aeI afB adb ac7 (acV _ _)
    (tuple_addW2 t b vs.toArray ws.toArray n o i h j l (by simpa using r) (by simpa using hw) (by rw[Zw,Zw];exact z)) ⟨a,c,?_⟩
   rw[e];exact y hw
noncomputable def bf (n d:Nat):Option Int->Nat
 |none=>d|some v=>if v<0 then(v+(n:Int)).toNat else min v.toNat n
theorem ly (n d:Nat):bf n d none=d:=rfl
theorem xq (n d k:Nat):bf n d (some (k:Int))=min k n:=by show(if(k:Int)<0 then((k:Int)+(n:Int)).toNat else min (k:Int).toNat n)=min k n;rw[if_neg (by omega),aaP]
theorem Kp (n d:Nat)(a:d<=n)(o:Option Int):bf n d o<=n:=by
 cases o with
 |none=>exact a
 |some v =>
  show(if v<0 then(v+(n:Int)).toNat else min v.toNat n)<=n;by_cases hv:v<0
  . rw[if_pos hv];omega
  . rw[if_neg hv];exact Nat.min_le_right _ _
theorem xt (v:Int)(n d:Nat):(if v<0 then max (v+(n:Int)) 0 else min v (n:Int))=((bf n d (some v):Nat):Int):=by
 show(if v<0 then max (v+(n:Int)) 0 else min v (n:Int))=(((if v<0 then(v+(n:Int)).toNat else min v.toNat n):Nat):Int);by_cases hv:v<0
 . simp only[if_pos hv];omega
 . simp only[if_neg hv];omega
theorem zr (b c:Option Int)(n:Nat):aaI b c 1 (n:Int)=(((bf n 0 b:Nat):Int),((bf n n c:Nat):Int)):=by
 have a:¬((1:Int)<0):=by omega
 unfold aaI;simp only[a,if_false];refine Prod.ext ?_ ?_
 . cases b with
   |none=>rfl|some v=>exact xt v n 0
 . cases c with
   |none=>rfl|some v=>exact xt v n n
theorem zt (i j:Nat):aaY (i:Int) (j:Int) 1=j-i:=by
 unfold aaY;have a:(1:Int)>0:=by omega
 simp only[a,if_true,Int.ediv_one];split<;>omega
theorem gW {v:Value}{o:Option Int}{Q:Option Int->Zo->Prop}(p:ab6 v o)(h:Q o s):wpAny (model prog w) A (Builtin.Slice.slicePartIndex v) Q E s:=by
 cases p with
 |none=>exact slicePart_none h|int i t=>exact slicePart_int h
theorem jw {k:Addr}{i j:Value}{e f:Option Int}{n:Nat}{Q:Int×Int×Nat->Zo->Prop}(q:s.heap.IsSliceOf k i j .none)(l:ab6 i e)(o:ab6 j f)
  (h:Q (((bf n 0 e:Nat):Int),1,bf n n f-bf n 0 e) s):wpAny (model prog w) A (abY (.ref k) (pure (n:Int))) Q E s:=by
 obtain⟨os,b,c,a⟩:=id q;unfold abY aev;refine Zm (Zm (abd b a (x:=i) rfl (Zm (abd b a (x:=j) rfl (Zm (abd b a (x:=.none) rfl (Zp ?_)))))));refine Zm (slicePart_none ?_);show wpAny _ _ (if((1:Int)== 0)=true then _ else _) _ _ s;rw[if_neg (by decide)];refine Zm (gW l (Zm (gW o (Zm (Zp ?_)))));show wpAny _ _ (match aaI e f 1 (n:Int)with| (e,f)=>pure (e,(1:Int),aaY e f 1)) _ _ s;rw[zr e f n];show wpAny _ _ (pure (((bf n 0 e:Nat):Int),(1:Int),aaY ((bf n 0 e:Nat):Int) ((bf n n f:Nat):Int) 1)) _ _ s;rw[zt];exact Zp h
theorem DR (xs:Array Value)(i k:Nat):((ZN k).filterMap λ(m:Nat)=>xs[((i:Int)+(m:Int)*1).toNat]?).toArray=((xs.toList.drop i).take k).toArray:=by
 have e:(λ(m:Nat)=>xs[((i:Int)+(m:Int)*1).toNat]?)=λm=>xs[i+m]?:=by
  funext m;have:((i:Int)+(m:Int)*1).toNat=i+m:=by omega
  rw[this]
 rw[e];have:=pick_run xs i k;rw[afS]at this;have a:((λx=>xs[x]?) ∘ λx=>i+x)=λm=>xs[i+m]?:=rfl;rw[a]at this;rw[this]
theorem n8 {t x:Addr}{items:Array Value}{y z:Value}{o r:Option Int}{Q:Value->Zo->Prop}(u:IsTup s.heap t items)(B:s.heap.IsSliceOf x y z .none)(C:ab6 y o)(H:ab6 z r)
  (hw:¬(bf items.size 0 o=0/\bf items.size items.size r=items.size))
  (h:Q (.ref s.heap.objs.size) { s with heap:=s.heap.push { cls:=.type "tuple",data:=.seq ((items.toList.drop (bf items.size 0 o)).take (bf items.size items.size r-bf items.size 0 o)).toArray } })
  (I:items.size<=ZM):wpAny (model prog w) A (ac2 (.ref t) (.ref x)) Q E s:=by
 have a:sizeOk (.seq ((items.toList.drop (bf items.size 0 o)).take (bf items.size items.size r-bf items.size 0 o)).toArray):=by show((items.toList.drop (bf items.size 0 o)).take (bf items.size items.size r-bf items.size 0 o)).toArray.size<=ZM;rw[Zw,aah,adm,acN];omega
 have j:bf items.size items.size r<=items.size:=Kp _ _ (Zu _) r;obtain⟨os,c,e,k⟩:=id B;have b:s.TypeIs (.ref x) "slice":=⟨os,c,e⟩
 unfold ac2;try with_reducible refine aaa ?_
 first|refine Zm (Zp ?_)|skip
 refine Zm (acj u.typeIs (by decide) ?_);refine Zm (aaw (name:=abl "__getitem__") u.typeIs Z7
  (aai Z7 u.typeIs adR ?_ (ad9 _ _)))
 show wpAny _ _ (abZ (.ref t) >>= _) _ _ s;refine Zm (afC u ?_);refine Zm (ab7 b ?_);rw[if_pos (by decide)];refine Zm (jw B C H ?_);have f:¬((((bf items.size 0 o:Nat):Int)== 0&&(1:Int)== 1&&(bf items.size items.size r-bf items.size 0 o)== items.size)=true):=by intro q;rw[Zr,Zr]at q;have l:((bf items.size 0 o:Nat):Int)=0:=eq_of_beq q.1.1;have i:bf items.size items.size r-bf items.size 0 o=items.size:=eq_of_beq q.2;exact hw ⟨by omega,by omega⟩
 show wpAny _ _ (if(((bf items.size 0 o:Nat):Int)== 0&&(1:Int)== 1&&(bf items.size items.size r-bf items.size 0 o)== items.size)=true then _ else _) _ _ s;rw[if_neg f,DR];first
  |exact Zm (m:=aaN _) (aae (Zp ⟨_,rfl,Zp h⟩) a)
  |exact Zm (m:=aaN _) (aae (Zm (Zp (Zp ⟨_,rfl,Zp h⟩))) a)
  |exact Zm (Zm (m:=aaN _) (aae (Zp (Zp ⟨_,rfl,Zp h⟩)) a))
  |exact Zm (Zm (m:=aaN _) (aae (Zp ⟨_,rfl,Zp h⟩) a))
end
end HT
namespace L2
open PyProof.Rows
abbrev TO:=St->Hp->(Option Int->Hp->Prop)->Prop
noncomputable def PO (X:Cx)(e:Option Expr)(t:TO):Prop :=
 ∀(a8:List (Addr×Obj)) (s:Zo) (σ:St) (H:Hp) (Q:Option Int->Hp->Prop),Inv X a8 σ H s->t σ H Q ->
  wpAny (model X.prog X.w) X.A (evalPart e X.env) (λu a=>∃o H',Inv X a8 σ H' a/\ab6 u o/\Q o H') X.xe s
noncomputable def Hr:TO:=λ_ H Q=>Q none H
noncomputable def OK (t:TE):TO:=λσ H Q=>t σ H λx H1=>∃i,x = .int i/\Q (some i) H1
section
variable {X:Cx}{e:Expr}{te:TE}{lo hi:Option Expr}{tl th:TO}{pos p2:Pos}
theorem Hs:PO X none Hr:=by intro a8 s σ H Q I h;rw[evalPart_none];exact Zp ⟨none,H,I,.none,h⟩
theorem Ht (h:PE X e te):PO X (some e) (OK te):=by intro a8 s σ H Q I hw;rw[evalPart_some];refine aW (h a8 s σ H _ I hw) λu s1 ⟨x,H1,a,b,c⟩=>?_;obtain⟨i,rfl,q⟩:=c;obtain⟨t,rfl⟩:=b;exact⟨some i,H1,a,.int i t,q⟩
noncomputable def ot (X:Cx)(r:V->Option Int->Option Int->Hp->VK->Prop):Prop :=
 ∀(a8:List (Addr×Obj)) (s:Zo) (σ:St) (H:Hp) (x:V) (v vl vu:Value) (lo hi:Option Int) (sl:Addr) (Q:VK),Inv X a8 σ H s->RelV x v->s.heap.IsSliceOf sl vl vu .none->ab6 vl lo->ab6 vu hi->r x lo hi H Q ->
  ∃T id,typeLookup (.type T) "__getitem__" = pure (some (.builtin id))/\s.TypeIs v T/\wpAny (model X.prog X.w) X.A (ac2 v (.ref sl)) (EP X a8 σ Q) X.xe s
theorem ot.or {r j:V->Option Int->Option Int->Hp->VK->Prop}(h:ot X r)(h':ot X j):ot X (λx lo hi H Q=>r x lo hi H Q\/j x lo hi H Q):=by
 intro a8 s σ H x v b f lo hi e Q I i a c pu q;rcases q with q|q
 . exact h a8 s σ H x v b f lo hi e Q I i a c pu q
 . exact h' a8 s σ H x v b f lo hi e Q I i a c pu q
noncomputable def V4 (r:V->Option Int->Option Int->Hp->VK->Prop)(te:TE)(tl th:TO):TE:=λσ H Q=>te σ H λx H1=>tl σ H1 λl a=>th σ a λu b=>r x l u b Q
theorem DU {r:V->Option Int->Option Int->Hp->VK->Prop}(B:ot X r)(C:PE X e te)(E:PO X lo tl)(hu:PO X hi th):PE X (.Subscript e (.Slice lo hi none p2) pos) (V4 r te tl th):=by intro a8 s σ H Q I h;refine Subscript_ (aW (C a8 s σ H _ I h) λv s1 ⟨x,H1,I1,z,q1⟩=>?_);refine wpAny_Slice (aW (E a8 s1 σ H1 _ I1 q1) λc s2 ⟨l,H2,I2,k,i⟩=>aW (hu a8 s2 σ H2 _ I2 i) λa s3 ⟨u,f,I3,pu,o⟩=>?_);rw[evalPart_none];refine Zp ?_;have I4:Inv X a8 σ f { s3 with heap:=s3.heap.push { cls:=.type "slice",data:=.fields #[c,a,.none] } }:=I3.kept (t':=s3.toks) λb ob q=>Zs _ q;obtain⟨T,id,y,ht,j⟩:=B a8 { s3 with heap:=s3.heap.push { cls:=.type "slice",data:=.fields #[c,a,.none] } } σ f x v c a l u s3.heap.objs.size Q I4 z (afT ..) k pu o;show wpAny (model X.prog X.w) X.A (afD e (.Slice lo hi none p2) v (.ref s3.heap.objs.size)) (EP X a8 σ Q) X.xe { s3 with heap:=s3.heap.push { cls:=.type "slice",data:=.fields #[c,a,.none] } };exact tail_any (ops:=[.ref s3.heap.objs.size,v]) ht y j (by with_unfolding_all rfl)
noncomputable def mP (xs:List V)(lo hi:Option Int):List V:=(xs.drop (HT.bf xs.length 0 lo)).take (HT.bf xs.length xs.length hi-HT.bf xs.length 0 lo)
theorem ou (xs:List V)(lo hi:Option Int):(mP xs lo hi).length<=xs.length:=by unfold mP;rw[aah,adm];omega
noncomputable def Kr (K:ZF):V->Option Int->Option Int->Hp->VK->Prop:=λx lo b H Q=>∃a xs,x = .ref a/\eK K H a xs /\
 ¬(HT.bf xs.length 0 lo=0/\HT.bf xs.length xs.length b=xs.length) /\ ∀p,H p=none->Q (.ref p) (upd H p (.tup (mP xs lo b)))
theorem Ks:ot X (Kr X.K):=by
 intro a8 s σ H x v z y lo c sl Q I u j k pu h;obtain⟨a,xs,rfl,l,hw,q⟩:=h;cases u;obtain⟨i,r,f,e⟩:=I.tuple l;have hlen:i.toArray.size=xs.length:=by rw[Zw];exact r.length.symm
 refine⟨"tuple",_,Z7.lookup,f.typeIs,?_⟩;refine HT.n8 f j k pu (by rw[hlen];exact hw) ?_ (by rw[hlen];exact e);rw[hlen];refine⟨.ref s.heap.objs.size,_,I.laid (t':=s.toks) (o:=.tup (mP xs lo c)) (λb ob q=>Zs _ q) (Zu _) ?_,rfl,q _ (I.aS.fresh (Zu _))⟩;exact⟨Z4 (ou xs lo c) e,_,(r.drop (HT.bf xs.length 0 lo)).take (HT.bf xs.length xs.length c-HT.bf xs.length 0 lo),eR.new _ _⟩
noncomputable def OL (K:ZF):R2:=λx y H Q=>∃a b xs ys,x = .ref a/\y = .ref b/\eK K H a xs/\eK K H b ys/\xs ≠ []/\xs.length+ys.length<=ZM /\
 (ys = []->Q (.ref a) H)/\(ys ≠ []->∀p,H p=none->Q (.ref p) (upd H p (.tup (xs++ys))))
theorem Vals.qL {xs:List V}{us:List Value}(r:Vals xs us):us = []↔ xs = []:=by
 cases r with
 |nil=>simp|cons _ _=>simp
theorem Hu:bK X (aaH .Add) (OL X.K):=by intro a8 s σ H x y v u Q I rx l h;obtain⟨a,b,xs,ys,rfl,rfl,ha,hb,r,f,q1,i⟩:=h;cases rx;cases l;obtain⟨au,e,j,_⟩:=I.tuple ha;obtain⟨lz,c,k,_⟩:=I.tuple hb;refine HT.Hq j k (λz=>r (e.qL.mp z)) (λz=>⟨.ref a,H,I,rfl,q1 (c.qL.mp z)⟩) (λz=>?_) (by rw[<- e.length,<- c.length];exact f);refine⟨.ref s.heap.objs.size,_,I.laid (t':=s.toks) (o:=.tup (xs++ys)) (λb ob q=>Zs _ q) (Zu _) ?_,rfl,i (λw=>z (c.qL.mpr w)) _ (I.aS.fresh (Zu _))⟩;exact⟨by rw[ZH];exact f,_,e.append c,eR.new _ _⟩
end
noncomputable def kC (n:Nat)(i:Int):Option Nat:=if 0<=i then(if i<n then some i.toNat else none)else if -(n:Int)<=i then some (i+n).toNat else none
noncomputable def cA {α:Type}(xs:List α)(i:Int):Option α:=(kC xs.length i).bind λj=>xs[j]?
theorem xu {n:Nat}{i:Int}{j:Nat}(h:kC n i=some j):seqIndex? i n=some j/\j<n /\ -(n:Int)<=i/\i<n:=by
 unfold kC at h;by_cases h0:0<=i
 . rw[if_pos h0]at h
   by_cases h1:i<n
   . rw[if_pos h1]at h
     have e:i.toNat=j:=aam h;exact⟨by rw[agm h0 h1,e],by omega,by omega,h1⟩
   . rw[if_neg h1]at h;cases h
 . rw[if_neg h0]at h
   by_cases h1:-(n:Int)<=i
   . rw[if_pos h1]at h
     have e:(i+n).toNat=j:=aam h;exact⟨by rw[seqIndex_neg (by omega) h1,e],by omega,h1,by omega⟩
   . rw[if_neg h1]at h;cases h
theorem qM {k:Type}{xs:List k}{i:Int}{v:k}(h:cA xs i=some v):∃j,seqIndex? i xs.length=some j/\xs[j]? = some v/\j<xs.length /\ -(xs.length:Int)<=i/\i<xs.length:=by
 unfold cA at h;cases e:kC xs.length i with
 |none=>rw[e]at h;cases h
 |some j =>
  rw[e]at h;obtain⟨f,c,a,b⟩:=xu e;exact⟨j,f,h,c,a,b⟩
theorem gF {b:Type}{xs:List b}{j:Nat}{v:b}(h:xs[j]? = some v):cA xs (j:Int)=some v:=by
 have a:j<xs.length:=(Zq.mp h).1;have e:kC xs.length (j:Int)=some j:=by unfold kC;rw[if_pos (by omega),if_pos (by omega)];simp
 unfold cA;rw[e];exact h
theorem DV {b:Type}(xs:List b)(v:b):cA (xs ++ [v]) (-1)=some v:=by
 have a:(xs ++ [v]).length=xs.length+1:=by simp
 have e:kC (xs ++ [v]).length (-1)=some xs.length:=by unfold kC;rw[a,if_neg (by decide),if_pos (by omega)];congr 1;omega
 unfold cA;rw[e];show(xs ++ [v])[xs.length]? = some v;simp
def nH (b:Expr):Prop:=∀o i,subscripted b false o i=operate [o,i] (ac2 o i)
noncomputable def mh (X:Cx)(r:R2):Prop :=
 ∀(value slice:Expr) (a8:List (Addr×Obj)) (s:Zo) (σ:St) (H:Hp) (x y:V) (v u:Value) (Q:VK),Inv X a8 σ H s->RelV x v->RelV y u->r x y H Q ->
  subscripted slice false v u=operate [v,u] (ac2 v u)->wpAny (model X.prog X.w) X.A (afD value slice v u) (EP X a8 σ Q) X.xe s
noncomputable def Kt (X:Cx)(id:String)(r:V->List V->Hp->VK->Prop):Prop :=
 ∀(a8:List (Addr×Obj)) (s:Zo) (σ:St) (H:Hp) (x:V) (xs:List V) (v:Value) (us:List Value) (Q:VK),Inv X a8 σ H s->RelV x v->Vals xs us->r x xs H Q ->
  wpAny (model X.prog X.w) X.A (call (.builtin id) (v::us)) (EP X a8 σ Q) X.xe s
section
variable {X:Cx}{a b:Expr}{ta tb:TE}{pos:Pos}
theorem mh.or {r e:R2}(h:mh X r)(h':mh X e):mh X (λx y H Q=>r x y H Q\/e x y H Q):=by
 intro value slice a8 s σ H x y v u Q I c b q a;rcases q with q|q
 . exact h value slice a8 s σ H x y v u Q I c b q a
 . exact h' value slice a8 s σ H x y v u Q I c b q a
theorem Fu {r:R2}(j:mh X r)(k:PE X a ta)(l:PE X b tb)(o:nH b):PE X (.Subscript a b pos) (A5 r ta tb):=by intro a8 s σ H Q I h;exact Subscript_ (DH k l I h λv u s2 x y c e i f q=>j a b a8 s2 σ c x y v u Q e i f q (o _ _))
noncomputable def Ku (K:ZF):R2:=λx y H Q=>∃p xs i v,x = .ref p/\y = .int i/\dw K H p xs/\cA xs i=some v/\Q v H
noncomputable def Kv (K:ZF):R2:=λx y H Q=>∃p xs i v,x = .ref p/\y = .int i/\eK K H p xs/\cA xs i=some v/\Q v H
noncomputable def Kw:R2:=λx y H Q=>∃z i c,x = .str z/\y = .int i/\z.length<=ZM/\cA z.cps.toList i=some c/\Q (.str ⟨#[c]⟩) H
theorem Hv:mh X (Ku X.K):=by
 intro value slice a8 s σ H x y v u Q I rx ry h e;obtain⟨p,xs,i,z,rfl,rfl,hq,he,q⟩:=h;cases rx;obtain⟨t,rfl⟩:=ry;obtain⟨l,r,b,hz⟩:=I.list hq;obtain⟨j,a,k,h3,h4,h5⟩:=qM he;obtain⟨w,f,o⟩:=r.get k;have hl:=r.length;have hn:=kA;have fin:EP X a8 σ Q w s:=⟨z,H,I,o,q⟩
 by_cases h0:0<=i
 . have c:i.toNat=j:=by
    rw[agm h0 h5]at a;exact aam a
   exact item_listR b.isList h0 (by omega) (by rw[c];simpa using f) fin e
 . have c:(i+(l.toArray.size:Int)).toNat=j:=by
    rw[seqIndex_neg (by omega) h4]at a;rw[Zw,<- hl];exact aam a
   exact ach (x:=w) b.isList.typeIs slot_list_getitem.lookup
    (wpAny_getItem_list_neg (Q:=λr s'=>r=w/\EP X a8 σ Q r s') b.isList (by omega) (by rw[Zw]<;>omega) (by omega) (by rw[c];simpa using f) ⟨rfl,fin⟩) e
theorem Kx:mh X (Kv X.K):=by
 intro value slice a8 s σ H x y v u Q I rx l h c;obtain⟨p,xs,i,z,rfl,rfl,hq,he,q⟩:=h;cases rx;obtain⟨t,rfl⟩:=l;obtain⟨au,r,a,hz⟩:=I.tuple hq;obtain⟨j,o,b,h3,h4,h5⟩:=qM he;obtain⟨w,ew,e⟩:=r.get b;have f:=r.length;have hn:=kA;have fin:EP X a8 σ Q w s:=⟨z,H,I,e,q⟩
 exact ach (x:=w) a.typeIs Z7.lookup
  (getItem_tuple (j:=j) (Q:=λr k=>r=w/\EP X a8 σ Q r k) a (by omega) (by omega) (by rw[Zw,<- f];exact o) (by simpa using ew) ⟨rfl,fin⟩) c
theorem Ky:mh X Kw:=by
 intro value slice a8 s σ H x y v u Q I rx r h e;obtain⟨z,i,c,rfl,rfl,hz,he,q⟩:=h;obtain⟨t,rfl⟩:=rx;obtain⟨t',rfl⟩:=r;obtain⟨j,a,b,h3,l,h5⟩:=qM he;have k:z.cps.toList.length=z.length:=by simp[Str.length]
 rw[k]at a l h5;have hn:=kA;exact tail_any (typeIs_str s z t) slot_str_getitem.lookup (getItem_str (c:=c) (by have f:decide (i < -(2 ^ 63:Int))=false:=decide_eq_false (by omega);have o:decide (i>=2 ^ 63)=false:=decide_eq_false (by omega);rw[f,o,adj]) (by rw[a];simpa using b) ⟨.str ⟨#[c]⟩,H,I.tok _,⟨_,rfl⟩,q⟩) e
noncomputable def V5 (K:ZF):R2:=λx y H Q=>Ku K x y H Q\/Kv K x y H Q\/Kw x y H Q
theorem Be:mh X (V5 X.K):=Hv.or (Kx.or Ky)
theorem zu (c:List Value)(n j:Nat)(u:Value):abE (·.setIfInBounds j u) { cls:=.type "list",data:=.seq c.toArray n }={ cls:=.type "list",data:=.seq (c.set j u).toArray n }:=by simp[abE]
theorem Inv.lst {a8:List (Addr×Obj)}{σ:St}{H:Hp}{s:Zo}{p:Addr}{xs:List V}(I:Inv X a8 σ H s)(h:H p=some (.lst xs)):
  ∃(au:List Value) (n:Nat),Vals xs au/\s.heap.get? p=some { cls:=.type "list",data:=.seq au.toArray n }/\xs.length<=ZM:=by
 obtain⟨z,au,n,r,e⟩:=I.aS p _ h;exact⟨au,n,r,e,z⟩
theorem Inv.Kz {a8:List (Addr×Obj)}{σ:St}{H:Hp}{s:Zo}{p:Addr}{xs ys:List V}{i its':List Value}{n c:Nat}{f:Obj->Obj}(I:Inv X a8 σ H s)(h:H p=some (.lst xs))
  (k:s.heap.get? p=some { cls:=.type "list",data:=.seq i.toArray n }) (j:f { cls:=.type "list",data:=.seq i.toArray n }={ cls:=.type "list",data:=.seq its'.toArray c }) (r:Vals ys its') (hz:ys.length<=ZM) (t:Nat):
  Inv X a8 σ (upd H p (.lst ys)) { s with heap:=s.heap.update p f,toks:=t }:=by
 have e:(s.heap.update p f).get? p=some { cls:=.type "list",data:=.seq its'.toArray c }:=by rw[aaC f k (by rw[j]<;>rfl),j]
 refine I.write (x:=p) (e:=p) (by rw[h];trivial) (.inl rfl) (λb u a q=>(abw _ _ (abi a)).trans q) ⟨_,e⟩ ?_;exact⟨hz,its',c,r,e⟩
noncomputable def OM:V->V->V->Hp->(Hp->Prop)->Prop:=λo i v H Q=>∃p xs k j,o = .ref p/\i = .int k/\H p=some (.lst xs)/\kC xs.length k=some j/\Q (upd H p (.lst (xs.set j v)))
theorem set_list:DB X OM:=by
 intro a8 s σ H o i v ov iv u Q I ro ri rv h;obtain⟨p,xs,k,j,rfl,rfl,f,hj,q⟩:=h;cases ro;obtain⟨t,rfl⟩:=ri;obtain⟨l,n,r,e,hz⟩:=I.lst f;obtain⟨a,h2,x,y⟩:=xu hj;have c:=r.length;have hn:=kA
 have z:Inv X a8 σ (upd H p (.lst (xs.set j v))) { s with heap:=s.heap.update p (abE (·.setIfInBounds j u)) }:=
   I.Kz f e (zu l n j u) (r.set rv j) (by rw[aeW];exact hz) s.toks
 by_cases h0:0<=k
 . have b:k.toNat=j:=by
    rw[agm h0 y]at a;exact aam a
   exact PySem.W.ki_setAt e h0 (by omega) (by rw[Zw,<- c];exact y) (by rw[b];exact⟨_,z,q⟩)
 . have b:(k+(l.toArray.size:Int)).toNat=j:=by
    rw[seqIndex_neg (by omega) x]at a;rw[Zw,<- c];exact aam a
   exact PySem.W.ki_setBack e (by omega) (by rw[Zw,<- c];exact x) (by omega) (by rw[b];exact⟨_,z,q⟩)
theorem uX (c e:Option Int)(n:Nat):(acL c e none n).1=((HT.bf n 0 c:Nat):Int)/\(acL c e none n).2.1=((HT.bf n n e:Nat):Int)/\(acL c e none n).2.2=1:=by
 refine⟨?_,?_,rfl⟩
 . cases c with
   |none=>simp[acL,HT.bf]
   |some i =>
    simp only[acL,HT.bf,agv,show(1:Int)>0 by decide,if_true];by_cases h:i<0
    . simp only[h,if_true]<;>omega
    . simp only[h,if_false]<;>omega
 . cases e with
   |none=>simp[acL,HT.bf]
   |some i =>
    simp only[acL,HT.bf,agv,show(1:Int)>0 by decide,if_true];by_cases h:i<0
    . simp only[h,if_true]<;>omega
    . simp only[h,if_false]<;>omega
theorem tT (e:List Value)(f h:Option Int):slicePick e.toArray f h none=((e.drop (HT.bf e.length 0 f)).take (HT.bf e.length e.length h-HT.bf e.length 0 f)).toArray:=by obtain⟨c,b,a⟩:=uX f h e.toArray.size;unfold slicePick;rw[c,b,a];simp only[sliceRange_one,pick_run,Zw]<;>rfl
noncomputable def KA (K:ZF):V->Option Int->Option Int->Hp->VK->Prop:=λx lo b H Q=>∃a xs,x = .ref a/\dw K H a xs /\ ∀p,H p=none->Q (.ref p) (upd H p (.lst (mP xs lo b)))
theorem Hw:ot X (KA X.K):=by intro a8 s σ H x v z u lo c sl Q I l i j pu h;obtain⟨a,xs,rfl,k,q⟩:=h;cases l;obtain⟨y,r,e,f⟩:=I.list k;have hlen:=r.length;refine⟨"list",_,slot_list_getitem.lookup,e.isList.typeIs,?_⟩;refine wpAny_getItem_list_slice e.isList i j pu .none (by simp) ?_ (by rw[Zw]<;>omega);rw[tT,<- hlen];refine⟨.ref s.heap.objs.size,_,I.laid (t':=s.toks) (o:=.lst (mP xs lo c)) (λb ob q=>Zs _ q) (Zu _) ?_,rfl,q _ (I.aS.fresh (Zu _))⟩;exact⟨Z4 (ou xs lo c) f,_,0,(r.drop (HT.bf xs.length 0 lo)).take (HT.bf xs.length xs.length c-HT.bf xs.length 0 lo),ZC _ rfl⟩
noncomputable def ja:V->Bool
 |.ay=>true|.bl _=>true|.int _=>true|.str _=>true|_=>false
noncomputable def sx:V->V->Bool
 |.ay,.ay=>true|.bl a,.bl b=>a == b|.bl a,.int b=>(if a then 1 else 0)== b|.int a,.bl b=>a == (if b then 1 else 0)|.int a,.int b=>a == b|.str a,.str b=>a == b|_,_=>false
theorem KC {A:ZY}{s:Zo}{y x:V}{u v:Value}(h:RelV y u)(e:RelV x v)(i:ja y=true)(f:ja x=true):SeqAt.EqAt A s u v (sx y x):=by
 cases y with
 |ay =>
  cases h;cases x with
  |ay=>cases e;exact SeqAt.EqAt.same _|bl b=>cases e;exact SeqAt.EqAt.none_bool b|int b=>obtain⟨t,rfl⟩:=e;exact SeqAt.EqAt.none_int b t
  |str b=>obtain⟨t,rfl⟩:=e;exact SeqAt.EqAt.none_str b t
  |_=>exact absurd (show false=true from f) aaT
 |bl a =>
  cases h;cases x with
  |ay=>cases e;exact SeqAt.EqAt.bool_none a|bl b=>cases e;exact SeqAt.EqAt.bool_bool a b|int b=>obtain⟨t,rfl⟩:=e;exact SeqAt.EqAt.bool_int a b t
  |str b=>obtain⟨t,rfl⟩:=e;exact SeqAt.EqAt.bool_str a b t
  |_=>exact absurd (show false=true from f) aaT
 |int a =>
  obtain⟨c,rfl⟩:=h;cases x with
  |ay=>cases e;exact SeqAt.EqAt.int_none a c|bl b=>cases e;exact SeqAt.EqAt.int_bool a c b|int b=>obtain⟨t,rfl⟩:=e;exact SeqAt.EqAt.int_int a c b t
  |str b=>obtain⟨t,rfl⟩:=e;exact afN a c b t
  |_=>exact absurd (show false=true from f) aaT
 |str a =>
  obtain⟨c,rfl⟩:=h;cases x with
  |ay=>cases e;exact SeqAt.EqAt.str_none a c|bl b=>cases e;exact SeqAt.EqAt.str_bool a c b|int b=>obtain⟨t,rfl⟩:=e;exact afO a c b t
  |str b=>obtain⟨t,rfl⟩:=e;exact SeqAt.EqAt.str_str a c b t
  |_=>exact absurd (show false=true from f) aaT
 |_=>exact absurd (show false=true from i) aaT
noncomputable def Fv (x:V)(u:Value):Bool:=match u with
 |.none=>sx .ay x|.bool b=>sx (.bl b) x|.int i _=>sx (.int i) x|.str z _=>sx (.str z) x|_=>false
theorem Bf {x y:V}{u:Value}(r:RelV y u)(f:ja y=true):Fv x u=sx y x:=by
 cases y with
 |ay=>cases r;rfl|bl b=>cases r;rfl|int i=>obtain⟨t,rfl⟩:=r;rfl
 |str z=>obtain⟨t,rfl⟩:=r;rfl
 |_=>exact absurd (show false=true from f) aaT
theorem uY {A:ZY}{s:Zo}{x:V}{v:Value}(e:RelV x v)(c:ja x=true):∀{xs:List V} {us:List Value},Vals xs us->xs.all ja=true->∀u∈us,SeqAt.EqAt A s u v (Fv x u)
 |_,_,.nil,_=>λu hu=>by cases hu
 |y::xs,u::us,.cons r t,f=>λa hu=>by
  rw[adk,Zr]at f;rcases Zx.mp hu with rfl|hu
  . rw[Bf r f.1];exact KC r e f.1 c
  . exact uY e c t f.2 a hu
theorem uZ:dJ X (.builtin "len") (λxs H Q=>∃p ys,xs = [.ref p]/\(dw X.K H p ys\/eK X.K H p ys)/\Q (.int ys.length) H):=by
 intro a8 s σ H xs us Q I r h;obtain⟨p,ys,rfl,a,q⟩:=h;obtain⟨u,rfl,i⟩:=vals1 r;cases i;have j:=kA;rcases a with a|a
 . obtain⟨f,c,b,e⟩:=I.list a
   have hlen:=c.length;exact Calls.call_len_list b.isList (by simp only[Zw]<;>omega) ⟨.int ys.length,H,I.tok _,⟨s.toks+1,by rw[Zw,hlen]⟩,q⟩
 . obtain⟨f,c,b,e⟩:=I.tuple a
   have hlen:=c.length;exact len_tuple b (by simp only[Zw]<;>omega) ⟨.int ys.length,H,I.tok _,⟨s.toks+1,by rw[Zw,hlen]⟩,q⟩
theorem mi:dJ X (.type "tuple") (λxs H Q=>∃p ys,xs = [.ref p]/\((dw X.K H p ys /\ ∀l,H l=none->Q (.ref l) (upd H l (.tup ys)))\/(eK X.K H p ys/\Q (.ref p) H))):=by
 intro a8 s σ H xs us Q I r h;obtain⟨p,ys,rfl,h⟩:=h;obtain⟨u,rfl,z⟩:=vals1 r;cases z;rcases h with⟨hq,q⟩|⟨hq,q⟩
 . obtain⟨c,i,f,j⟩:=I.list hq
   have hlen:=i.length;refine call_tuple_list f.isList (λa y=>?_) (by simp only[Zw]<;>omega);have k:Inv X a8 σ H { s with heap:=a }:=I.kept (t':=s.toks) y;have x:Inv X a8 σ (upd H a.objs.size (.tup ys)) { s with heap:=a.push { cls:=.type "tuple",data:=.seq c.toArray } }:=
    k.laid (t':=s.toks) (λb o e=>Zs _ e) (Zu _) (show dW X.prog X.w _ _ _ (.tup ys) from⟨j,c,i,eR.new _ _⟩)
   exact⟨.ref a.objs.size,_,x,rfl,q _ (k.aS.fresh (Zu _))⟩
 . obtain⟨c,i,f,j⟩:=I.tuple hq
   exact call_tuple_same f ⟨.ref p,H,I,rfl,q⟩
def QS (K:ZF)(T:String)(x:V)(H:Hp):Prop:=match x with
 |.str _=>T = "str"|.int _=>T = "int"
 |.ref p=>(T = "list" /\ ∃xs,dw K H p xs)\/(T = "tuple" /\ ∃o,K.lookup p=some o/\o.cls = .type "tuple" /\ o.dict=none) \/
  (T = "dict" /\ ((∃dX,H p=some (.dK dX)) \/ ∃dX,H p=some (.dT dX)))\/(T = "set" /\ ∃S n,H p=some (.set S n))
 |_=>False
theorem Bg {a8:List (Addr×Obj)}{σ:St}{H:Hp}{s:Zo}{T:String}{x:V}{v:Value}(I:Inv X a8 σ H s)(r:RelV x v)(j:QS X.K T x H):
  s.TypeIs v T /\ ∀a,v = .ref a->∃ob,s.heap.get? a=some ob/\ob.dict=none:=by
 cases x with
 |str z =>
  obtain⟨t,rfl⟩:=r;cases (show T = "str" from j);exact⟨typeIs_str s z t,λ_ e=>nomatch e⟩
 |int i =>
  obtain⟨t,rfl⟩:=r;cases (show T = "int" from j);exact⟨aew s i t,λ_ e=>nomatch e⟩
 |ref p =>
  cases r;rcases j with⟨rfl,xs,hq⟩|⟨rfl,o,hk,hc,hd⟩|⟨rfl,hk⟩|⟨rfl,S,n,hk⟩
  . obtain⟨h,_,f,_⟩:=I.list hq
    refine⟨f.isList.typeIs,λa e=>?_⟩;cases e;obtain⟨o,n,e,c,hd,_⟩:=f;exact⟨o,e,hd⟩
  . refine⟨⟨o,I.mf p o hk,hc⟩,λa e=>?_⟩
    cases e;exact⟨o,I.mf _ o hk,hd⟩
  . have z:∃o,s.heap.get? p=some o/\o.ExactDict:=by
     rcases hk with⟨dX,hk⟩|⟨dX,hk⟩
     . obtain⟨_,_,_,_,o,_,_,e,ex,_⟩:=I.aS p _ hk
       exact⟨o,e,ex⟩
     . obtain⟨_,_,_,_,o,_,_,e,ex,_⟩:=I.aS p _ hk
       exact⟨o,e,ex⟩
    obtain⟨o,e,ex⟩:=z;refine⟨⟨o,e,ex.1⟩,λa b=>?_⟩;cases b;exact⟨o,e,ex.2.1⟩
  . obtain⟨o,_,_,_,e,ex,_⟩:=I.aS p _ hk
    refine⟨⟨o,e,ex.1⟩,λa b=>?_⟩;cases b;exact⟨o,e,ex.2.1⟩
 |_=>exact aba j
noncomputable def V6 (K:ZF)(T:String)(r:V->List V->Hp->VK->Prop)(c:TE)(t:TA):TE:=λσ H Q=>c σ H λx H1=>QS K T x H1/\t σ H1 λxs a=>r x xs a Q
variable {o e:Expr}{es:List Expr}{to:TE}{t:TA}{name:Str}{apos c_:Pos}{T id:String}{r:V->List V->Hp->VK->Prop}
theorem ON (J:PlainAttrs T)(slot:Slot T name id)(E:typeOf (.builtin id)=pure (.type "method_descriptor"))(C:Kt X id r)(A:PE X o to)(L:PA X (e::es) t)
  (z:adl o name X.env (eval o X.env)=eval o X.env:=by rfl)
  (B:((abp c_ (ZO (e::es) X.env)).all (λx=>!x.1)&&(backToKw c_ (agn [] X.env)).all (λx=>x.1.isSome)
   && decide ((e::es).length+([]:List adW).length+(if([]:List adW).isEmpty then 0 else 1)<30))=true:=by rfl)
  (N:(apos.endLine == c_.line)=true:=by rfl) (O:ZO (e::es) X.env=(false,eval e X.env)::ZO es X.env:=by rfl) (M:(abp c_ (ZO es X.env)).any (·.1)=false:=by rfl):
  PE X (.Call (.Attribute o name apos) (e::es) [] c_) (V6 X.K T r to t):=by
 intro a8 s σ H Q I h;refine ae5 z B N rfl (aW (A a8 s σ H _ I h) λv s1 ⟨x,H1,c,b,ty,u⟩=>?_);obtain⟨q,i⟩:=Bg c b ty;refine⟨T,id,J,slot,E,q,i,?_⟩;have a:=L c_ a8 s1 σ H1 _ c u;rw[O]at a ⊢
 refine ade (by show(false||(abp c_ (ZO es X.env)).any (·.1))=false;rw[M]<;>rfl) (afs ?_)
 exact aW a λus s2 ⟨j,l,k,y,f⟩=>C a8 s2 σ l x j v us Q k b y f
end
noncomputable def V7 (X:Cx)(id:String)(r:V->List V->Hp->VK->Prop):Prop :=
 ∀(a8:List (Addr×Obj)) (s:Zo) (σ:St) (H:Hp) (x:V) (xs:List V) (v:Value) (us:List Value) (Q:VK),Inv X a8 σ H s->RelV x v->Vals xs us->r x xs H Q ->
  wpAny (model X.prog X.w) X.A (call (.builtin id) (v::us)) (EP X a8 σ Q) X.xe s
theorem Vals.one:∀{x:V} {us:List Value},Vals [x] us->∃u,us = [u]/\RelV x u
 |_,_,.cons r .nil=>⟨_,rfl,r⟩
theorem Vals.zero:∀{us:List Value},Vals [] us->us = []
 |_,.nil=>rfl
theorem Vals.rep {xs:List V}{us:List Value}(h:Vals xs us):∀k:Nat,Vals (ZA k xs).flatten (ZA k us).flatten
 | 0=>.nil|k+1=>by rw[abu,abu,aaj,aaj];exact Vals.append h (Vals.rep h k)
theorem foldl_rep (b:List Value):∀(k:Nat) (acc:List Value),
  agJ (λx1 x2=>x1++x2) acc.toArray (ZA k b.toArray)=(acc++(ZA k b).flatten).toArray
 | 0,acc=>by simp
 |k+1,acc=>by
  have e:acc.toArray++b.toArray=(acc++b).toArray:=by simp
  have a:(acc++b)++(ZA k b).flatten=acc++(ZA (k+1) b).flatten:=by rw[abu,aaj,Z3]
  rw[<- a,<- foldl_rep b k (acc++b),<- e,abu,List.foldl_cons]
section
variable {X:Cx}{a8:List (Addr×Obj)}{σ:St}{H:Hp}{s:Zo}{l b:Addr}{xs ys zs:List V}
theorem Inv.Ts {c its':List Value}{n:Nat}{f:Array Value->Array Value}{t':Nat}(I:Inv X a8 σ H s)(h:H l=some (.lst xs))
  (e:s.heap.get? l=some { cls:=.type "list",data:=.seq c.toArray n }) (i:f c.toArray=its'.toArray) (j:Vals ys its') (hz:ys.length<=ZM):
  Inv X a8 σ (upd H l (.lst ys)) { s with heap:=s.heap.update l (abE f),toks:=t' }:=by
 have q:=PySem.IsL.update e f;rw[i]at q;refine I.write (x:=l) (e:=l) (by rw[h];exact trivial) (.inl rfl) (λb u a hu=>(abw s.heap (abE f) (abi a)).trans hu) ⟨_,q⟩ ?_;exact⟨hz,its',_,j,q⟩
theorem Inv.Tt {a:List Value}{t':Nat}(I:Inv X a8 σ H s)(c:Vals ys a)(hz:ys.length<=ZM):
  Inv X a8 σ (upd H s.heap.objs.size (.lst ys)) { s with heap:=s.heap.push { cls:=.type "list",data:=.seq a.toArray },toks:=t' }:=
 I.laid (λ_ _ q=>Zs _ q) (Zu _) ⟨hz,a,0,c,ZC _ rfl⟩
theorem Inv.fresh (I:Inv X a8 σ H s):H s.heap.objs.size=none:=I.aS.fresh (Zu _)
theorem Inv.Tu (I:Inv X a8 σ H s)(a:H l=some (.lst xs)):xs.length<=ZM /\ ∃(au:List Value) (n:Nat),Vals xs au/\xs.length=au.length/\s.heap.get? l=some { cls:=.type "list",data:=.seq au.toArray n }:=by obtain⟨z,au,n,r,e⟩:=I.aS l _ a;exact⟨z,au,n,r,r.length,e⟩
theorem DX {n:Nat}(h:n<=ZM):ab8 n=false:=by unfold ab8;exact decide_eq_false (by omega)
end
section
variable {X:Cx}
noncomputable def Hx:V->List V->Hp->VK->Prop:=λx a H Q=>∃l xs y,x = .ref l/\a = [y]/\H l=some (.lst xs)/\xs.length<ZM/\Q .ay (upd H l (.lst (xs ++ [y])))
theorem sA:V7 X "list.append" Hx:=by intro a8 s σ H x k v us Q I i c h;obtain⟨l,xs,y,rfl,rfl,b,j,q⟩:=h;cases i;obtain⟨u,rfl,f⟩:=c.one;obtain⟨z,a,n,r,o,e⟩:=I.Tu b;refine acf F.slot_list_append ⟨_,e,rfl⟩ F.entry_list_append (F.args_list_append_2 _ _) (PySem.list_append l a.toArray n u (by rw[Zw];omega)) ⟨e,?_⟩;refine⟨.ay,_,I.Ts (its':=a ++ [u]) b e (by simp) (r.append (.cons f .nil)) ?_,rfl,q⟩;rw[ZH,afh];omega
theorem len_rep {a:Type}(xs:List a)(k:Nat):(ZA k xs).flatten.length=k*xs.length:=by
 induction k with
 |zero=>simp|succ k ih=>rw[abu,aaj,ZH,ih,Nat.succ_mul,Nat.add_comm]
end
end L2
namespace u5
open PySem.W PySem.Calls PyProof.Rows
theorem pF {P:Params}{h:Heap}:∀(ns:List Int) (vs:List Value),WellAll P h vs (ns.map WData.int)->abQ vs ns:=by
 intro ns;induction ns with
 |nil =>
  intro vs w;rw[afU]at w;cases w;exact .nil
 |cons n ns ih =>
  intro vs w;rw[aaE]at w;cases w with
  |cons a b =>
   cases a;exact .cons _ _ (ih _ b)
theorem Bh {l:acB}{n:Nat}(x:l.most=some n){P:Params}{h:Heap}{args:List WData}{s:List Value}
  (u:l.row.toRowW.claim.pre args=true) (y:WellAll P h s args):
  ∃a vs ns,s = [abt a]/\args = [WData.list (ns.map WData.int)]/\h.get? a=some { cls:=.type "list",data:=.seq vs.toArray }/\abQ vs ns/\ns.length<=n:=by
 have o:WShape.hasAll [] args [.list .int]=true:=(pre_splitW u).1;have e:l.pre.holds [] { args:=args }=true:=(pre_splitW u).2;obtain⟨d,r,rfl,k,j⟩:=hasAllW_cons o;obtain rfl:=hasAllW_nil j;obtain⟨xs,rfl,f⟩:=hasW_list k;obtain⟨ns,rfl⟩:=items_int f;have hlen:ns.length<=n:=by
  unfold OpenLaw.pre at e;have b:(WTm.not (.lt (.lit (.int (n:Int))) (.len (.arg 0)))).holds [] { args:=[.list (ns.map .int)] }=true:=by have b:=(holds_andW e).1;rw[x]at b;exact b
  have c:=condW_of b (w_not (w_lt w_lit (w_len_list (w_arg rfl))));rw[Z2]at c;refine Nat.le_of_not_lt λq=>?_;have i:(n:Int)<((ns.length:Nat):Int):=by omega
  first
   | (rw[decide_eq_true i]at c;exact absurd c (by decide))
   | (simp at c;omega)
 cases y with
 |cons w1 w2 =>
  cases w2;cases w1 with
  |list ho mQ=>exact⟨_,_,ns,rfl,rfl,ho,pF ns _ mQ,hlen⟩
theorem Bi (l:acB)(args:List WData):l.row.toRowW.claim.post args (.bool true) args=true :=
 postW_of (r:=l.row.toRowW) (X:=(true == true))
  (show WShape.has [] (.bool true) .bool=true by first|rfl|decide|simp[WShape.has,WShape.arms,WShape.armsAll])
  (show(WTm.eq .res (.lit (.bool true))).value [] { args:=args,res:=some (.bool true),after:=args }=some (.bool (true == true)) from w_eq_bool (w_res rfl) w_lit) rfl
theorem w9 {l:acB}{n:Nat}{q:ZW}{A:List Str}{C:(Str->Option Value)->Heap->Prop}{B:World->Heap->Prop}{d:DefRec}
  (E:l.most=some n) (H:d.params.defaults = [])
  (call:∀(w:World) (s₀ s₁:Zo) (mg mb:Str->Option Value) (fa:Addr) (o:Obj) (pm cd doc:Value) (a:Addr) (vs:List Value) (ns:List Int),
   Ground q A [] C w s₀ mg mb s₁.heap->B w s₁.heap ->
   s₁.heap.get? fa=some o->o.data = .func (docDef d.name d.params d.body d.scope pm cd doc)->s₁.heap.CodeRec cd d.name->mg d.name=some (.ref fa) ->
   s₁.heap.get? a=some { cls:=.type "list",data:=.seq vs.toArray }->abQ vs ns->ns.length<=n->s₁.gens = #[] ->
   acK (model l.prog w) adX (.call (.ref fa) ⟨[.ref a],[]⟩) (λr s'=>r = .ok (.ret (.bool true))/\OldK s₁.heap s'.heap/\s'.os=s₁.os/\adw s'.gens) s₁):
  WalkO q A C B l.row.toRowW d [] (λf vs=>aft f vs):=by
 intro w s₀ s₁ mg mb G Y fa o pm cd doc i kV u hd k hD h b args vals as j YD YK x QT;obtain rfl:i = .none:=Dflts.none hD H;obtain rfl:kV = .none:=Dflts.noKw hD;obtain⟨a,vs,ns,rfl,rfl,z,hints,hlen⟩:=Bh E j x;refine enter_call (acp (call w s₀ s₁ mg mb fa o pm cd doc a vs ns G Y u (fd_plain hd) k h z hints hlen b) λr s' y=>?_);obtain⟨rfl,c,e,s⟩:=y;exact⟨.inl ⟨.bool true,.bool true,[],rfl,λ_=>rfl,.bool true,Bi l _,λ_=>⟨agd,λ_ hm=>(nomatch hm)⟩⟩,c,e,s⟩
end u5
namespace L2
open PyProof.Rows
theorem iP:∀{vs:List Value} {ns:List Int},abQ vs ns->Vals (ns.map V.int) vs
 |_,_,.nil=>.nil|_,_,.cons n t h=>.cons ⟨t,rfl⟩ (iP h)
def Tv (H:Hp):Prop:=∀b,H b=none\/(∃o xs,H b=some (.me o (.lst xs))) \/ ∃p q,H b=some (.cw p q)
structure TabsOk (K:ZF)(ts:List Addr)(lx:Lx):Prop where
 hd:∀q∈lx.tb,∃c,acC K c q.1=true
 out:∀q∈lx.tb,K.lookup q.1=none
 mem:∀q∈lx.tb,q.1∈ts
 nd:(lx.tb.map (·.1)).Nodup
noncomputable def kD (l:List (Addr×Pos×Str)):Hp:=λb=>(l.lookup b).map λq=>.cw q.1 q.2
theorem qO:∀{l:List (Addr×Pos×Str)} {q:Addr×Pos×Str},(l.map (·.1)).Nodup->q∈l->kD l q.1=some (.cw q.2.1 q.2.2)
 |x::l,q,nd,h=>by
  unfold kD;rw[Z9];rw[aaE,aaU]at nd;rcases Zx.mp h with rfl|h
  . simp
  . rw[show(q.1 == x.1)=false from beq_eq_false_iff_ne.mpr λe=>nd.1 (by rw[<- e];exact aay h)]
    exact qO nd.2 h
theorem mR:∀{l:List (Addr×Pos×Str)} {b:Addr} {u:HO},kD l b=some u->∃q∈l,q.1=b/\u = .cw q.2.1 q.2.2
 | [],b,u,h=>by cases h
 |x::l,b,u,h=>by
  unfold kD at h;rw[Z9]at h;split at h
  . rename_i e
    cases h;exact⟨x,ZU,(eq_of_beq e).symm,rfl⟩
  . obtain⟨q,m,r⟩:=mR (l:=l) h
    exact⟨q,Zz _ m,r⟩
theorem DZ {P:ZW}{w:World}{K:ZF}{mg I:Str->Option Value}{CX:mO}{k:Nat}{L a:Addr}{fd:aaM}{x:Str}{sp:Sp}{s₁:Zo}{vs:List Value}{ns:List Int}{lx:Lx}{Q:List Addr}
  (J:K.In s₁.heap) (N:s₁.heap.Ns Z_ mg) (A:s₁.heap.Ns aeu I) (R:∀x:Str,x ≠ "__name__"->I x=abU x) (W:s₁.heap.NoLimit) (X:∃bm ob,BMod s₁.heap Z_ mg bm ob) (T:s₁.gens = #[])
  (E:s₁.heap.get? a=some { cls:=.type "list",data:=.seq vs.toArray }) (M:abQ vs ns) (O:ns.length<=ZM) (C:dn k adX) (TO:TabsOk K Q lx) (S:∀P∈Q,s₁.heap.get? P=some (abP #[]))
  (F:∀base:Heap,K.In base->base.Ns Z_ mg->dS P w K mg base CX k L fd [x] sp) (Y:∀(s:Zo) (u:Value),af9 s fd ⟨[u],[]⟩ [(x,u)])
  (Z:∀H:Hp,dw K H a (ns.map V.int)->(∀q∈lx.tb,H q.1=some (.cw q.2.1 q.2.2))->sp [.ref a] H (λv _=>v = .bl true) λ_ _ _=>False)
  (U:∀H e s',CX [] H s₁ (λ_ _ _=>False) e s'->False):
  acK (model P w) adX (.call (.ref L) ⟨[.ref a],[]⟩) (λr s'=>r = .ok (.ret (.bool true))/\OldK s₁.heap s'.heap/\s'.os=s₁.os/\adw s'.gens) s₁:=by
 have rv:=iP M;have Tx:=M.length;have tabs:∀q∈lx.tb,s₁.heap.get? q.1=some (abP #[]):=λq i=>S _ (TO.mem q i);have core:∀H:Hp,Tv H->dw K H a (ns.map V.int)->dY P w H s₁.heap->(∀b,H b≠none->b=a \/ ∃q∈lx.tb,q.1=b)->(H a≠none->K.lookup a=none)->(∀q∈lx.tb,H q.1=some (.cw q.2.1 q.2.2)) ->
    acK (model P w) adX (.call (.ref L) ⟨[.ref a],[]⟩) (λr s'=>r = .ok (.ret (.bool true))/\OldK s₁.heap s'.heap/\s'.os=s₁.os/\adw s'.gens) s₁:=by
  intro H hO hS aS hA hK V9;have f:∀{b:Addr} {o:Obj},s₁.heap.get? b=some o->H b=none->(lg s₁.heap H).get? b=some o:=λe n=>Dw e n;have QU:∀{b:Addr} {o:Obj},s₁.heap.get? b=some o->o≠{ cls:=.type "list",data:=.seq vs.toArray }->o≠abP #[]->H b=none:=fun {b o} e d1 d2=>by
    cases q:H b with
    |none=>rfl
    |some u =>
      rcases hA b (by rw[q];simp)with e'|⟨r,C,e'⟩
      . subst e';rw[E]at e;exact absurd (aam e).symm d1
      . have:=tabs r C;rw[e',e]at this;exact absurd (aam this) d2
  have pC:∀{b:Addr} {o:Obj} {es:Array aaf} {ep:Nat},s₁.heap.get? b=some o->o.data = .dict es ep->H b=none:=fun {b o es ep} e d=>QU e (λz=>by rw[z]at d;cases d) λz=>by rw[z]at d;cases d
  have y:∀{b:Addr} {m:Str->Option Value},s₁.heap.Ns b m->(lg s₁.heap H).Ns b m:=fun {b m} ⟨o,es,ep,e,d,r⟩=>⟨o,es,ep,f e (pC e d),d,r⟩
  have QV:K.In (lg s₁.heap H):=λb o e=>f (J b o e) (by
    cases q:H b with
    |none=>rfl
    |some u =>
      rcases hA b (by rw[q];simp)with e'|⟨r,C,e'⟩
      . subst e'
        rw[hK (by rw[q];simp)]at e;cases e
      . have:=TO.out r C;rw[e',e]at this;cases this)
  have hM:Mod K mg (lg s₁.heap H):=⟨QV,y N,⟨I,y A,R⟩,let⟨mc,h1,h2⟩:=W;⟨mc,y h1,h2⟩,let⟨bm,ob,B⟩:=X
    ⟨bm,ob,y B.ns,B.name,B.ne,f B.obj (QU B.obj (λz=>by have:=B.cls;rw[z]at this;have this:aav "list" = .type "module":=this;exact absurd this (by decide)) λz=>by have:=B.cls;rw[z]at this;exact absurd this (by decide)),B.cls,B.dict,B.data⟩⟩
  have e0:oN P w K mg (lg s₁.heap H) adX [] s₁ H:=⟨rfl,hM,λb o e=>Ha e,afV (AR _ _),trivial,λb A=>absurd (show b∈([]:List Addr) from A) (by simp),aS,.of_eq T⟩
  refine acp ((F _ QV (y N)).run adX [] s₁ H ⟨[.ref a],[]⟩ [.ref a] [.ref a] _ _ C e0 (Y s₁ (.ref a)) (.cons rfl .nil) (Z H hS V9)) λr s' h=>?_;cases r with
  |error e=>exact(U H e s' h).elim
  |ok fl =>
    cases fl with
    |next=>exact aba h|brk=>exact aba h|cont=>exact aba h
    |ret u =>
      obtain⟨v,H',os,bare,un,KJ,r',q⟩:=h;have q':v = .bl true:=q;subst q';obtain rfl:u=aet true:=r';have key:∀b o,s₁.heap.get? b=some o->s'.heap.get? b=some o\/(∃r∈lx.tb,r.1=b) /\ ∃j,s'.heap.get? b=some (abP j):=λb o e=>by
        cases q:H b with
        |none=>exact .inl (un.keep b o e q (by intro z;exact absurd (show b∈([]:List Addr) from z) (by simp)) (by simp))
        |some u =>
          rcases hO b with z|⟨ob,xs,z⟩|⟨p,q',z⟩
          . rw[q]at z;cases z
          . have z2:=un.jt b ob _ z
            obtain⟨l,_⟩:=aS b _ z;obtain⟨e2,_⟩:=KJ b _ z2;rw[e]at l;cases l;exact .inl e2
          . have z2:=un.ju b _ rfl z
            obtain⟨j,e2,_⟩:=KJ b _ z2;rcases hA b (by rw[q];simp)with e'|C
            . subst e'
              obtain⟨_,l,_⟩:=aS b _ z;rw[E]at l;cases l
            . exact .inr ⟨C,j,e2⟩
      refine⟨rfl,⟨λb o e=>?_,λb o e=>?_⟩,os,bare⟩
      . rcases key b o e with k|⟨⟨r,C,e'⟩,j,k⟩
        . exact .inl k
        . obtain⟨c,hc⟩:=TO.hd r C
          have hP:=tabs r C;have hC:=(afI J hc).tab hP;rw[e']at hP hC;rw[e]at hP;cases hP;exact .inr (.inl ⟨hC.isCodeTable,rfl,#[],j,rfl,by rw[Array.empty_append];exact k⟩)
      . rcases key b o e with k|⟨_,j,k⟩
        . exact⟨_,k⟩
        . exact⟨_,k⟩
 have QW:∀q∈lx.tb,q.1≠a:=λq i z=>by have:=tabs q i;rw[z,E]at this;cases this
 have Tz:dY P w (kD lx.tb) s₁.heap:=λb u z=>by obtain⟨q,i,rfl,rfl⟩:=mR z;exact⟨#[],tabs q i,trivial,.inl rfl⟩
 have Fy:∀b,kD lx.tb b=none\/(∃o xs,kD lx.tb b=some (.me o (.lst xs))) \/ ∃p q,kD lx.tb b=some (.cw p q):=λb=>by
  cases z:kD lx.tb b with
  |none=>exact .inl rfl
  |some u =>
    obtain⟨q,_,_,rfl⟩:=mR z;exact .inr (.inr ⟨_,_,rfl⟩)
 have D0:∀b,kD lx.tb b≠none->∃q∈lx.tb,q.1=b:=λb z=>by
  cases e:kD lx.tb b with
  |none=>exact absurd e z|some u=>obtain⟨q,h1,h2,_⟩:=mR e;exact⟨q,h1,h2⟩
 cases hk:K.lookup a with
 |some o =>
  have e:=J a o hk;rw[E]at e;cases e;refine core (kD lx.tb) Fy (.inr ⟨_,vs.toArray,_,hk,rfl,rfl,rfl,by rw[Zw,Tx];exact O,by simpa using rv⟩) Tz (λb z=>.inr (D0 b z)) (λz=>?_) λq i=>qO TO.nd i;obtain⟨q,i,e⟩:=D0 a z;exact absurd e (QW q i)
 |none =>
  refine core (upd (kD lx.tb) a (.me { cls:=.type "list",data:=.seq vs.toArray } (.lst (ns.map V.int)))) (λb=>?_) (.inl (.inr ⟨{ cls:=.type "list",data:=.seq vs.toArray },aP⟩)) (λb u z=>?_) (λb z=>?_) (λ_=>hk) λq i=>by rw[aC (QW q i)];exact qO TO.nd i
  . by_cases A:b=a
    . subst A;exact .inr (.inl ⟨_,_,aP⟩)
    . rw[aC A];exact Fy b
  . by_cases A:b=a
    . subst A
      rw[aP]at z;cases z;exact⟨E,by rw[Z2];exact O,vs,_,rv,E⟩
    . rw[aC A]at z
      obtain⟨q,i,rfl,rfl⟩:=mR z;exact⟨#[],tabs q i,trivial,.inl rfl⟩
  . by_cases A:b=a
    . exact .inl A
    . rw[aC A]at z;exact .inr (D0 b z)
theorem Hy {l:acB}{n k:Nat}{q:ZW}{A:List Str}{E:(Str->Option Value)->Heap->Prop}{B:World->Heap->Prop}{d:DefRec}{K:Params->ZF}{CX:World->mO}{sp:World->Lx->Sp}{x:Str}{C:List Addr}
  (N:l.most=some n) (I:n<=ZM) (M:d.params.defaults = []) (L:dn k adX)
  (J:∀(w:World) (h:Heap),B w h->(K w.params).In h /\ ∀P∈C,h.get? P=some (abP #[]))
  (F:∀(w:World) (mg:Str->Option Value) (fa:Addr) (h:Heap),(K w.params).In h->h.Ns Z_ mg->mg d.name=some (.ref fa) ->
   ∃(fd:aaM) (lx:Lx),TabsOk (K w.params) C lx/\(∀(s:Zo) (u:Value),af9 s fd ⟨[u],[]⟩ [(x,u)]) /\
    ∀base:Heap,(K w.params).In base->base.Ns Z_ mg->dS l.prog w (K w.params) mg base (CX w) k fa fd [x] (sp w lx))
  (Q:∀(w:World) (lx:Lx) (H:Hp) (a:Addr) (ns:List Int),ns.length<=n->dw (K w.params) H a (ns.map V.int)->(∀q∈lx.tb,H q.1=some (.cw q.2.1 q.2.2))->sp w lx [.ref a] H (λv _=>v = .bl true) λ_ _ _=>False)
  (O:∀(w:World) (H:Hp) (s:Zo) (e:Value) (s':Zo),CX w [] H s (λ_ _ _=>False) e s'->False):
  afE q A E B l.row.toRowW d [] (λf vs=>aft f vs):=by
 refine u5.w9 N M λw s₀ z mg mb fa o pm cd doc a vs ns G Y ho hd i5 r DY hints hlen j=>?_;obtain⟨c,KH⟩:=J w _ Y;obtain⟨fd,lx,TO,hb,hF⟩:=F w mg fa _ c G.T.g r;obtain⟨bm,ob,i,b2,b3,b4,b5,b6⟩:=G.T.bmain;exact DZ c G.T.g G.T.b G.T.builtins G.T.nolimit ⟨bm,ob,G.T.g,i,b2,b3,b4,b5,b6⟩ j DY hints (Z4 hlen I) L TO KH hF hb (λH hS y=>Q w lx H a ns hlen hS y) λH e s'=>O w H z e s'
noncomputable def fU (s:Stmt):acz:=match s with
 |.FunctionDef _ a _ _ _ _ _ _ _ _=>a|_=>{ posonlyargs:=[],args:=[],vararg:=none,kwonlyargs:=[],kw_defaults:=[],kwarg:=none,defaults:=[] }
noncomputable def dQ (s:Stmt):List Stmt:=match s with
 |.FunctionDef _ _ b _ _ _ _ _ _ _=>b|_=>[]
noncomputable def aV (s:Stmt):Scope:=match s with
 |.FunctionDef _ _ _ _ _ _ sc _ _ _=>sc|_=>{ kind:=.function,names:=[],isGenerator:=false,isCoroutine:=false }
noncomputable abbrev gX:mO:=λ_ _ _ _ _ _=>False
noncomputable abbrev E0:XK:=λ_ _ _=>False
theorem zx {X:Cx}:Passes gX X E0:=λ_ _ _ _ _ _ _ h=>h.elim
structure xw (K:ZF)(x qual:Str)(st:Stmt)(f:Addr)(fd:aaM):Prop where
 ex:∃(oc:Value) (od:Option Addr) (kV doc pm:Value) (an:Option Addr) (dy ct:Value) (uV:Array (Option Value)),
  fd=abv x qual (fU st) (dQ st) (aV st) .none kV doc pm an dy ct/\K.lookup f=some ⟨oc,od,.func fd,uV⟩/\ac1 K dy qual=true
 kp:abn K (.ref f)=true
section
variable {P:ZW}{w:World}{K:ZF}{mg:Str->Option Value}{base:Heap}
theorem xw.ok {lx:Lx}{x r:Str}{u:Stmt}{f:Addr}{fd:aaM}{N ps:List Str}{k:Nat}{sp:Sp}(F:xw K x r u f fd)(S:jk N ps (aV u))(len:∀vs H Q E,sp vs H Q E->vs.length=ps.length)
  (y:∀(dy:Value) (A:ZY) (outer:List Env) (s:Zo) (H:Hp) (vs:List V) (Q:VK) (E:XK),fd.code=dy->dn k (A.deeper (adH r (aV u) s.heap.objs.size f dy))->sp vs H Q E ->
   ∃t,gU (lu lx gX P w K mg base N r (aV u) f dy A outer s H E).uQ (dQ u) t/\t { nx:=λ_ H'=>Q .ay H',rt:=Q } (start N vs) H):dS P w K mg base gX (k+1) f fd ps sp:=by
 obtain⟨j,i,kV,doc,pm,an,dy,l,o,rfl,c,e⟩:=F.ex;refine OJ (lx:=lx) c e S len λA outer s H vs Q E b a=>?_;obtain⟨t,h,q⟩:=y dy A outer s H vs Q E rfl b a;exact⟨t,h.uQ,q⟩
theorem Bk {x a:Str}{b:Stmt}{f:Addr}{r:Value}{o i:Option Addr}{q:Array (Option Value)}{kV e j h ct:Value}(l:K.lookup f=some ⟨r,o,.func (abv x a (fU b) (dQ b) (aV b) .none kV e j i h ct),q⟩)
 (c:ac1 K h a=true) (k:abn K (.ref f)=true):xw K x a b f (abv x a (fU b) (dQ b) (aV b) .none kV e j i h ct):=⟨⟨r,o,kV,e,j,i,h,ct,q,rfl,l,c⟩,k⟩
end
end L2
namespace SW
open PyProof.Rows
theorem jm:Slot "set_iterator" "__next__" "set_iterator.__next__" :=
 .of (owner:="set_iterator") (n:="__next__") (by rw[adJ,acq];kernel_rfl) (by decide +kernel) (by decide +kernel) (by decide +kernel)
  (by first|exact .inl (by decide +kernel)|exact .inr (by decide +kernel)) (by rw[isSubtype_type];kernel_rfl)
theorem xx:entryFor table "set_iterator.__next__" = some aa9.«set_iterator.__next__»:=entryFor_of_tree (by kernel_rfl)
theorem xA (a:Value):afi "set_iterator.__next__" ⟨[a],[]⟩:=by unfold afi;kernel_rfl
theorem Hz:entryFor table "set.__iter__" = some aa9.«frozenset.__iter__» :=
 entryFor_alias (id':="frozenset.__iter__") (by kernel_rfl) rfl (by decide +kernel) (by kernel_rfl)
noncomputable def gG (slot i:Nat)(a:Addr)(n b:Nat):Obj:={ cls:=.type "set_iterator",data:=.fields #[ab5 slot,ab5 i,.ref a,ab5 n,ab5 b] }
noncomputable def h_ (es:Array (Int×Value))(a:Nat)(t:acW):Obj:={ cls:=.type "set",data:=.set es a t }
section
variable {prog:ZW}{w:World}{A:ZY}{E:Value->Zo->Prop}{s:Zo}{I a:Addr}{es:Array (Int×Value)}{ep:Nat}{t:acW}{slot i:Nat}
theorem u9 {slot':Nat}{hh:Int}{Q:Option (Value×Nat)->Zo->Prop}(h:s.heap.get? a=some (h_ es ep t))(e:t.fits es.size=true)
  (l:w.params.followText "set-order" = false) (f:t.led=true) (o:t.plain=true)
  (k:Q (match es[ZV t.place slot]?,t.place[ZV t.place slot]? with|some (_,x),some j=>some (x,j+1)|_,_=>none) s):wpAny (model prog w) A (ac3 a slot i ep) Q E s:=by
 unfold ac3;refine Zm (ack h rfl e ?_);dsimp only;unfold afu;refine Zm (Zm (ab9 (Zp ?_)));have b:(ag2 ⟨(model prog w).prog,(model prog w).w.params⟩).followText "set-order" = false:=l;rw[b];simp only[ZJ,if_false];have dr:¬(!t.plain&&decide (es.size>1))=true:=by simp[o]
 show wpAny _ _ (if(!t.plain&&decide (es.size>1))=true then _ else _) _ _ s;rw[if_neg dr];have c:¬(!t.led && !es.isEmpty)=true:=by simp[f]
 show wpAny _ _ ((if(!t.led && !es.isEmpty)=true then unsupported "set:maker-not-led" else pure ()) >>= _) _ _ s;rw[if_neg c];exact Zm (Zp (Zp k))
theorem sD {Q:Option (Value×Nat)->Zo->Prop}(h:s.heap.get? a=some (h_ es ep t))(f:t.fits es.size=true)
  (k:w.params.followText "set-order" = true)
  (j:Q (((acX (w.params.setOrder a ep) es)[i]?).map λe=>(e.2,slot)) s):wpAny (model prog w) A (ac3 a slot i ep) Q E s:=by
 have b:(ag2 ⟨(model prog w).prog,(model prog w).w.params⟩).followText "set-order" = true:=k;unfold ac3;refine Zm (ack h rfl f ?_);dsimp only;unfold afu;refine Zm (Zm (ab9 (Zp ?_)));rw[b];have c:(ep != ep)=false:=by simp
 simp only[if_true,c,ZJ,if_false];refine Zm ?_;unfold setWalk afu;refine Zm (ack h rfl f ?_);dsimp only;refine Zm (Zm (ab9 (Zp ?_)));rw[b];simp only[if_true];refine Zm (ab9 ?_);exact Zp (Zp j)
theorem Bl {x:Value}{f:Nat}{Q:Option Value->Zo->Prop}(h:s.heap.get? I=some (gG slot i a es.size ep))(l:s.heap.get? a=some (h_ es ep t))(j:t.fits es.size=true)
   (k:∀(A:ZY) (E:Value->Zo->Prop) (Q:Option (Value×Nat)->Zo->Prop),Q (some (x,f)) s->wpAny (model prog w) A (ac3 a slot i ep) Q E s)
   (o:∀h',h'.get? I=some (gG f (i+1) a es.size ep)->abD I s.heap h'->Q (some x) { s with heap:=h' }):wpAny (model prog w) A (acT (.ref I)) Q E s:=by
 have c:s.TypeIs (.ref I) "set_iterator":=⟨_,h,rfl⟩
 unfold acT;refine Zm (afF (aaw (name:=abl "__next__") c jm (aai jm c xx ?bd (xA _))));unfold aa9.«set_iterator.__next__»;refine Zm (Zp ?_);refine Zm (wpAny_fieldsOf h rfl ?_);show wpAny _ _ (setEntries a >>= _) _ _ s;refine Zm (adS l rfl j ?_);have e:(((es.size:Nat):Int) != ((es.size:Nat):Int))=false:=by simp
 dsimp only;rw[e];simp only[ZJ,if_false];show wpAny _ _ (ac3 a (ad_ (slot:Int)) (ad_ (i:Int)) (ad_ (ep:Int)) >>= _) _ _ s;rw[aaP,aaP,aaP];refine Zm (k _ _ _ ?_);dsimp only;refine Zm (ac4 h rfl (by simp) ?_)
 have b:=aaC (Obj.mapFields (·.setIfInBounds 0 (ab5 (f:Int)))) h (by rfl)
 refine Zm (ac4 b (vs:=#[ab5 (f:Int),ab5 i,.ref a,ab5 es.size,ab5 ep]) (by rfl) (by simp) ?_);refine Zp ⟨x,rfl,Zp (o _ ?_ ?_)⟩
 . exact(aaC (Obj.mapFields (·.setIfInBounds 1 (ab5 ((i:Int)+1)))) b (by rfl)).trans rfl
 . exact(aa0 ..).trans (aa0 ..)
theorem Bm {Q:Option Value->Zo->Prop}(hh:A.handled=none)(f:s.heap.get? I=some (gG slot i a es.size ep))(k:s.heap.get? a=some (h_ es ep t))(h:t.fits es.size=true)
  (j:∀(A:ZY) (E:Value->Zo->Prop) (Q:Option (Value×Nat)->Zo->Prop),Q none s->wpAny (model prog w) A (ac3 a slot i ep) Q E s)
  (l:∀h',ae6 I s.heap h'->Q none { s with heap:=h' }):wpAny (model prog w) A (acT (.ref I)) Q E s:=by
 have c:s.TypeIs (.ref I) "set_iterator":=⟨_,f,rfl⟩
 unfold acT;refine Zm (afF (aaw (name:=abl "__next__") c jm (aai jm c xx ?bd (xA _))));unfold aa9.«set_iterator.__next__»;refine Zm (Zp ?_);refine Zm (wpAny_fieldsOf f rfl ?_);show wpAny _ _ (setEntries a >>= _) _ _ s;refine Zm (adS k rfl h ?_);have e:(((es.size:Nat):Int) != ((es.size:Nat):Int))=false:=by simp
 dsimp only;rw[e];simp only[ZJ,if_false];show wpAny _ _ (ac3 a (ad_ (slot:Int)) (ad_ (i:Int)) (ad_ (ep:Int)) >>= _) _ _ s;rw[aaP,aaP,aaP];refine Zm (j _ _ _ ?_);dsimp only;refine Zm (ac4 f rfl (by simp) ?_);refine Zm ?_;simp only[newExc,newTuple];refine Zm (aae ?_ (by size_fits));refine Zm (m:=adY _ _) (ago (a:=aa_) (by first|rfl| (simp only[adY];rfl)) ?_);refine aae ?_ (by size_fits);simp only[raiseNew];refine Zm (wpAny_handled ?_);rw[show A.in1.handled=none from hh];refine Zm (Zp (wpAny_throw ?_));refine Zm (adn (T:="StopIteration") (b:=true) ⟨_,ZC _ rfl,rfl⟩ isSubtype_stop ?_);exact Zp (l _ (((aa0 ..).extBut.push _).push _))
end
theorem xB:Slot "set_iterator" "__iter__" "set_iterator.__iter__" :=
 .of (owner:="set_iterator") (n:="__iter__") (by rw[adJ,acq];kernel_rfl) (by decide +kernel) (by decide +kernel) (by decide +kernel)
  (by first|exact .inl (by decide +kernel)|exact .inr (by decide +kernel)) (by rw[isSubtype_type];kernel_rfl)
theorem HA:entryFor table "set_iterator.__iter__" = some aa9.«dict_keyiterator.__iter__» :=
 entryFor_alias (id':="dict_keyiterator.__iter__") (by kernel_rfl) rfl (by decide +kernel) (by kernel_rfl)
theorem HB (a:Value):afi "set_iterator.__iter__" ⟨[a],[]⟩:=by unfold afi;kernel_rfl
section
variable {prog:ZW}{w:World}{A:ZY}{E:Value->Zo->Prop}{s:Zo}{I a:Addr}{es:Array (Int×Value)}{ep:Nat}{t:acW}{slot i:Nat}
theorem Bn {Q:Value->Zo->Prop}(c:s.heap.get? I=some (gG slot i a es.size ep))(h:Q (.ref I) s):wpAny (model prog w) A (aff (.ref I)) Q E s:=by
 have b:s.TypeIs (.ref I) "set_iterator":=⟨_,c,rfl⟩
 refine wpAny_pyIter_slot b xB (aai xB b HA ?_ (HB _));show wpAny _ _ (ret (.ref I)) _ _ s;exact Zp ⟨_,rfl,"set_iterator",_,b,jm.lookup,h⟩
structure Way (prog:ZW)(w:World)(a:Addr)(es:Array (Int×Value))(ep:Nat)(t:acW)(ord:List Value)(ok:Nat->Nat->Prop):Prop where
 fit:t.fits es.size=true
 len:ord.length=es.size
 zero:ok 0 0
 step:∀i slot,i<es.size->ok i slot->∃x mJ,ord[i]? = some x/\ok (i+1) mJ /\ ∀(s:Zo) (A:ZY) (E:Value->Zo->Prop) (Q:Option (Value×Nat)->Zo->Prop),s.heap.get? a=some (h_ es ep t)->Q (some (x,mJ)) s->wpAny (model prog w) A (ac3 a slot i ep) Q E s
 stop:∀slot,ok es.size slot->∀(s:Zo) (A:ZY) (E:Value->Zo->Prop) (Q:Option (Value×Nat)->Zo->Prop),s.heap.get? a=some (h_ es ep t)->Q none s->wpAny (model prog w) A (ac3 a slot es.size ep) Q E s
theorem walks {B:List Value}{ok:Nat->Nat->Prop}(W:Way prog w a es ep t B ok)(hh:A.handled=none)(C:a≠I):
  Walks prog w A I [I,a] [I] es.size (λi v=>B[i]? = some v) (λi h=>(∃slot,ok i slot/\h.get? I=some (gG slot i a es.size ep))/\h.get? a=some (h_ es ep t)) where
 sub:=λb j=>by simp at j;simp[j]
 frame:=λ_ _ _ st u=>⟨let⟨f,q,e⟩:=st.1;⟨f,q,u I (by simp) _ e⟩,u a (by simp) _ st.2⟩
 item:=λi s Q E z st k=>by obtain⟨⟨f,q,e⟩,c⟩:=st;obtain⟨x,y,hx,hq,hn⟩:=W.step i f z q;refine Bl e c W.fit (λA E Q h=>hn s A E Q c h) λl Wa r=>?_;exact k _ l s.toks hx ⟨⟨y,hq,Wa⟩,r.extBut a _ C c⟩ λb o j e=>r.extBut b o (λh=>j (by simp[h])) e
 done:=λs Q E st k=>by obtain⟨⟨f,q,e⟩,c⟩:=st;exact Bm hh e c W.fit (λA E Q h=>W.stop f q s A E Q c h) λl he=>k l s.toks λb o j e=>he b o (λh=>j (by simp[h])) e
 self:=λi s Q E st k=>by obtain⟨⟨f,q,e⟩,c⟩:=st;exact Bn e k
theorem xC {b:Type}:∀(l:List b) (i:Nat) (h:i<l.length),(l[i]::l.eraseIdx i).Perm l
 |x::l,0,h=>by simp|x::l,i+1,h=>by have:=xC l i (by simpa using h);simp only[List.getElem_cons_succ,List.eraseIdx_cons_succ];exact(ag5 _ _ _).trans (this.cons x)
theorem xD {b:Type}(f:Nat->Nat):∀(n k:Nat) (l:List b) (out:Array b),n=l.length->(afW f n k l out).toList.Perm (out.toList++l)
 | 0,k,l,out,h=>by have:l = []:=abL.mp h.symm;subst this;simp[afW]
 |n+1,k,l,out,h=>by
  have a:0<l.length:=by omega
  have hm:=Nat.mod_lt (f k) a;rw[afW,Zn hm];dsimp only;refine(xD f n (k+1) _ _ (by rw[List.length_eraseIdx_of_lt hm];omega)).trans ?_;rw[Array.toList_push,Z3,afj];exact List.Perm.append_left _ (xC l _ hm)
theorem sE {b:Type}(f:Nat->Nat)(xs:Array b):(acX f xs).toList.Perm xs.toList:=by have:=xD f xs.size 0 xs.toList #[] (by simp);simpa[acX]using this
theorem TB (k:t.fits es.size=true)(l:w.params.followText "set-order" = true):Way prog w a es ep t ((acX (w.params.setOrder a ep) es).toList.map (·.2)) (λ_ slot=>slot=0):=by
 have h:(acX (w.params.setOrder a ep) es).toList.length=es.toList.length:=(sE _ es).length_eq;have f:(acX (w.params.setOrder a ep) es).size=es.size:=by simpa using h
 refine⟨k,by simp[f],rfl,λi slot j h0=>?_,λslot h0 s A E Q b c=>?_⟩
 . subst h0
   have e:i<(acX (w.params.setOrder a ep) es).size:=by omega
   refine⟨(acX (w.params.setOrder a ep) es)[i].2,0,by simp[e],rfl,λs A E Q b c=>?_⟩;refine sD b k l ?_;rw[aad e];exact c
 . subst h0
   refine sD b k l ?_;rw[adf (by omega)];exact c
theorem TC (k:t.fits es.size=true)(o:w.params.followText "set-order" = false)(l:t.led=true)(q:t.plain=true)(u:t.place.size=es.size)(r:ZV t.place 0=0)
   (hw:∀i j,t.place[i]? = some j->ZV t.place (j+1)=i+1):Way prog w a es ep t (es.toList.map (·.2)) (λi slot=>ZV t.place slot=i):=by
 refine⟨k,by simp,r,λi slot e h=>?_,λslot h s A E Q b c=>?_⟩
 . have f:i<t.place.size:=by omega
   refine⟨es[i].2,t.place[i]+1,by simp[e],hw i _ (aad f),λs A E Q b c=>?_⟩;refine u9 (slot':=0) (hh:=0) b k o l q ?_;rw[h,aad e,aad f];exact c
 . refine u9 (slot':=0) (hh:=0) b k o l q ?_
   rw[h,adf (by omega)];exact c
end
theorem D1:typeLookup (.type "set") "__len__" = pure (some (.builtin "set.__len__")):=by rw[adJ,acq];kernel_rfl
section
variable {prog:ZW}{w:World}{A:ZY}{E:Value->Zo->Prop}{s:Zo}{I a:Addr}{es:Array (Int×Value)}{ep:Nat}{t:acW}{slot i:Nat}
theorem Bo {Q:Bool->Zo->Prop}(f:s.heap.get? a=some (h_ es ep t))(b:t.fits es.size=true)(c:w.params.followText "set-order" = true\/t.plain=true)(j:Q false s):wpAny (model prog w) A (setDrawn a) Q E s:=by
 unfold setDrawn;refine Zm (ack f rfl b ?_);dsimp only;unfold afu;refine Zm (Zm (ab9 (Zp ?_)));have e:(!w.params.followText "set-order" && (!t.plain&&decide (es.size>1)))=false:=by rcases c with h|h<;>simp[h]
 refine Zp ?_;show Q (!w.params.followText "set-order" && (!t.plain&&decide (es.size>1))) s;rw[e];exact j
theorem D2 {Q:Value->Zo->Prop}(c:s.heap.get? a=some (h_ es ep t))(e:t.fits es.size=true)(f:w.params.followText "set-order" = true\/t.plain=true)
  (h:Q (.ref s.heap.objs.size) { s with heap:=s.heap.push (gG 0 0 a es.size ep) }):wpAny (model prog w) A (aff (.ref a)) Q E s:=by
 have b:s.TypeIs (.ref a) "set":=⟨_,c,rfl⟩
 refine wpAny_pyIter_slot b F.slot_set_iter (aai F.slot_set_iter b Hz ?_ (F.args_set_iter_1 _));unfold aa9.«frozenset.__iter__» air slotArgs;simp only[List.isEmpty_nil,ZR,ZJ,↓reduceIte,bind_assoc,aeX,bne_self_eq_false];unfold ah1 ah2;refine Zm (Zp ?_);try dsimp only
 refine Zm (Zp ?_);refine Zm (Zm (adS c rfl e (Zp ?_)));refine Zm (Bo c e f ?_);simp only[ZJ,if_false];refine Zm (Zp ?_);refine Zm (wpAny_setEpoch_of c rfl e ?_);refine Zm (m:=newFields _ _) (aae ?_);exact Zp ⟨_,rfl,"set_iterator",_,⟨_,ZC _ rfl,rfl⟩,jm.lookup,h⟩
set_option maxHeartbeats 4000000 in
theorem w_ {ord:List Value}{ok:Nat->Nat->Prop}{Q:List Value->Zo->Prop}(W:Way prog w a es ep t ord ok)(hh:A.handled=none)(B:s.heap.get? a=some (h_ es ep t))(J:w.params.followText "set-order" = true\/t.plain=true)(C:es.size<=ZM)
   (K:∀(h':Heap) (tk:Nat),s.heap.objs.size<h'.objs.size->(∀b o,s.heap.get? b=some o->h'.get? b=some o)->Q ord { s with heap:=h',toks:=tk }):wpAny (model prog w) A (collect (.ref a)) Q E s:=by
 have z:a<s.heap.objs.size:=ZG B;have u:s.heap.objs.size≠a:=λe=>aaS _ (e ▸ z);unfold collect;refine Zm (wpAny_runValue (abF F.entry_proto_collect ?_));rw[abo F.plain_proto_collect _];show wpAny _ A.in1 (newList [] >>= λl=>again (.builtin "list.__iadd__" ⟨[l,.ref a],[]⟩)) _ _ s;refine Zm (aae ?_);refine Zp ⟨acH F.plain_list_iadd _,abF F.entry_list_iadd ?_⟩;rw[abo F.plain_list_iadd _];show wpAny _ A.in1 (aea (.ref s.heap.objs.size) (.ref a) (.ref s.heap.objs.size)) _ _ _;unfold aea;have r:(s.heap.push { cls:=.type "list",data:=.seq ([]:List Value).toArray }).get? a=some (h_ es ep t):=Zs _ B;refine Zm (ab7 (T:="set") ⟨_,r,rfl⟩ ?_);have h1:aeJ (.ref s.heap.objs.size) (.ref a)=false:=by simp[aeJ,u]
 have h2:(aav "set" == aav "list")=false:=by decide
 have h3:(aav "set" == aav "tuple")=false:=by decide
 simp only[h1,h2,h3,adj,ZJ,if_false];refine Zm (D2 r W.fit J ?_);refine Zm (aaa ?_);generalize k:s.heap.push { cls:=.type "list",data:=.seq ([]:List Value).toArray }=H at *;have i:H.objs.size=s.heap.objs.size+1:=by rw[<- k,abe]
 have c:(H.push (gG 0 0 a es.size ep)).get? a=some (h_ es ep t):=Zs _ r;unfold Builtin.List.listLengthHint;refine Zm (aeY (T:="set") ⟨_,c,rfl⟩ D1 ?_)
 wp_delta
 refine Zm (adn (T:="set") (v:=.ref a) (b:=true) ⟨_,c,rfl⟩ sub_set_self ?_);show wpAny _ A.in1 (typeOf (abt a) >>= _) _ _ _;refine Zm (ab7 (T:="set") (v:=.ref a) ⟨_,c,rfl⟩ ?_);refine Zp ?_;show wpAny _ A.in1 (rule "list.extend.makes-room" >>= λ_=>Builtin.List.listTouch (.ref s.heap.objs.size) >>= λ_ =>
   again (.builtin "list.extend.loop" ⟨[.ref s.heap.objs.size,.ref H.objs.size,.ref s.heap.objs.size],[]⟩)) _ _ _
 refine Zm (abf ?_);have QX:(H.push (gG 0 0 a es.size ep)).get? s.heap.objs.size=some { cls:=.type "list",data:=.seq ([]:List Value).toArray }:=Zs _ (k ▸ ZC _ rfl);refine Zm ?_
 show wpAny _ A.in1 (updateSeq s.heap.objs.size (·.push .none) >>= λ_=>updateSeq s.heap.objs.size (·.pop)) _ _ _
 refine Zm (aeZ QX rfl ?_)
 have sF:=aaC (abE (·.push aa_)) QX rfl
 refine aeZ sF rfl ?_
 have Wb:=aaC (abE (·.pop)) sF rfl
 have eL:∀b o,b≠s.heap.objs.size->(H.push (gG 0 0 a es.size ep)).get? b=some o ->
     (((H.push (gG 0 0 a es.size ep)).update s.heap.objs.size (abE (·.push aa_))).update s.heap.objs.size (abE (·.pop))).get? b=some o :=
   λb o f e=>(abw _ _ (abi f)).trans ((abw _ _ (abi f)).trans e)
 have Wc:a≠H.objs.size:=by rw[i];exact Z1 (aa1 z)
 have x:H.objs.size≠s.heap.objs.size:=by rw[i];exact agy _
 have xF:s.heap.objs.size ∉ [H.objs.size,a]:=by simp only[Zx,aaF,or_false,not_or];exact⟨abi x,u⟩
 refine Zp ⟨acH F.plain_extend_loop _,codeAny_extend_loopS (walks W (I:=H.objs.size) (A:=A.in1) (by simp[hh]) Wc).toS C _ xF _ es.size 0 _ _ _ rfl (aab _)
   ⟨⟨0,W.zero,eL _ _ x (ZC _ rfl)⟩,eL _ _ (abi u) c⟩ Wb (ItemsOf.nil _) λs' q c' hm y KP=>?_⟩
 show wpAny _ A (load s.heap.objs.size >>= _) _ _ s';refine Zm (wpAny_load y ?_);have TF:q.toList=ord:=by
   apply acm;intro j;by_cases hj:j<q.size
   . have:=KP.2 j q[j] (aad hj)
     rw[this,acr,aad hj]
   . have e1:=KP.1
     rw[aaO (by simp;omega),aaO (by rw[W.len];omega)]
 refine Zp ?_;rw[TF];obtain⟨h',g',d',sG,A_⟩:=s';have eg:g'=s.gens:=hm.gens;have ed:d'=s.drawn:=hm.drawn;have eo:A_=s.os:=hm.os;subst eg;subst ed;subst eo;refine K h' sG (ZG y) λb o e=>?_;have QZ:=ZG e;have nb:b≠s.heap.objs.size:=Z1 QZ;have We:b≠H.objs.size:=by rw[i];exact Z1 (aa1 QZ)
 refine hm.heap b o (λf=>?_) (eL b o nb (Zs _ (k ▸ Zs _ e)));rcases Zx.mp f with h|h
 . exact nb h
 . exact We (aeb.mp h)
end
noncomputable def tb (P:List Nat)(led:Bool):acW:={ mask:=7,place:=P.toArray,dummies:=#[],finger:=0,led:=led,moves:=0,plain:=true }
end SW
namespace SJ
def pG (xs:Array Nat):Prop:=xs.toList.Pairwise (· < ·)
theorem pH {xs:Array Nat}(h:pG xs){i j:Nat}(a:j<xs.size)(b:i<j):xs[i]'(by omega)<xs[j]:=by have:=(List.pairwise_iff_getElem.mp h) i j (by simpa using aeK b a) (by simpa using a) b;simpa using this
theorem oO {xs:Array Nat}(h:pG xs){j:Nat}:∀(fuel lo hi:Nat),lo<=hi->hi<=xs.size->hi-lo<=fuel->(∀i (hz:i<xs.size),i<lo->xs[i]< j)->(∀i (hz:i<xs.size),hi<=i->j<=xs[i]) ->
  lo<=acn xs j fuel lo hi/\acn xs j fuel lo hi<=hi/\(∀i (hz:i<xs.size),i<acn xs j fuel lo hi->xs[i]< j)/\(∀i (hz:i<xs.size),acn xs j fuel lo hi<=i->j<=xs[i])
 | 0,lo,hi,h1,h2,h3,h4,h5=>by
  have:lo=hi:=by omega
  subst this;exact⟨Zu _,Zu _,h4,h5⟩
 |fuel+1,lo,hi,h1,h2,h3,h4,h5=>by
  unfold acn;by_cases hl:lo<hi
  . rw[if_pos hl]
    dsimp only;have hm:(lo+hi) / 2<xs.size:=by omega
    have l:xs.getD ((lo+hi) / 2) j=xs[(lo+hi) / 2]:=by simp[hm]
    rw[l];split
    . rename_i f
      obtain⟨a,b,c,d⟩:=oO h fuel ((lo+hi) / 2+1) hi (by omega) h2 (by omega) (λi k o=>by
       by_cases e:i=(lo+hi) / 2
       . subst e;exact f
       . exact aeK (pH h hm (by omega)) f) h5
      exact⟨by omega,b,c,d⟩
    . rename_i f
      obtain⟨a,b,c,d⟩:=oO h fuel lo ((lo+hi) / 2) (by omega) (by omega) (by omega) h4 (λi k hle=>by
       by_cases e:i=(lo+hi) / 2
       . subst e;omega
       . have:=pH h k (show(lo+hi) / 2<i by omega)
         omega)
      exact⟨a,by omega,c,d⟩
  . rw[if_neg hl]
    have:lo=hi:=by omega
    subst this;exact⟨Zu _,Zu _,h4,h5⟩
theorem lC {xs:Array Nat}(h:pG xs)(j:Nat):ZV xs j<=xs.size/\(∀i (hi:i<xs.size),i<ZV xs j->xs[i]< j)/\(∀i (jX:i<xs.size),ZV xs j<=i->j<=xs[i]):=by obtain⟨_,a,b,c⟩:=oO h (j:=j) xs.size 0 xs.size (aab _) (Zu _) (by omega) (λi hi e=>by omega) (λi hi hle=>by omega);exact⟨a,b,c⟩
theorem Bp {xs:Array Nat}(h:pG xs)(j:Nat):(xs[ZV xs j]? == some j)=true ↔ j∈xs:=by
 obtain⟨a,b,c⟩:=lC h j;rw[beq_iff_eq];constructor
 . intro e
   exact adx e
 . intro hm
   obtain⟨i,f,e⟩:=Array.mem_iff_getElem.mp hm;have r:¬i<ZV xs j:=λk=>by have:=b i f k;omega
   have q:¬ZV xs j<i:=λk=>by
    have o:ZV xs j<xs.size:=by omega
    have:=c _ o (Zu _);have:=pH h f k;omega
   have l:ZV xs j=i:=by omega
   rw[l,aad f,e]
structure lD (t:acW)(n:Nat):Prop where
 dm:t.dummies = #[]
 pl:t.plain=true
 sz:t.place.size=n
 ri:pG t.place
 le:∀j∈t.place,j<=t.mask
 mx:t.mask=7
 n4:n<=4
theorem lD.fits (h:lD t n):t.fits n=true:=by
 have hd:t.dummies.size=0:=by rw[h.dm];rfl
 have a:=h.sz;have hm:=h.mx;have b:=h.n4;unfold ahu afG;simp only[Zr,beq_iff_eq,decide_eq_true_eq];exact⟨a,by omega⟩
theorem lD.slot (h:lD t n)(j:Nat):(j ∉ t.place->t.slot j = .empty)/\(j∈t.place->∃i,t.slot j = .live i):=by
 have a:=Bp h.ri j;unfold SetTable.slot;dsimp only;constructor
 . intro b
   have:(t.place[ZV t.place j]? == some j)=false:=by
    cases e:(t.place[ZV t.place j]? == some j)with
    |false=>rfl|true=>exact absurd (a.mp e) b
   rw[this,h.dm];have c:aeL #[] j=false:=by simp[aeL]
   rw[c];rfl
 . intro hm
   rw[a.mpr hm];exact⟨_,rfl⟩
theorem HC (T:lD t n){k:Nat}(h:k<=7)(f:k ∉ t.place):t.freeSlot (k:Int)=some (k,false):=by
 have b:∀k:Nat,k<=7->ahv (k:Int) % 8=k:=by decide
 have c:(t.probeStart (k:Int)).j=k:=by show ahv (k:Int) % (t.mask+1)=k;rw[T.mx];exact b k h
 have a:(t.probeStart (k:Int)).dummy=none:=rfl;have e:10*afk t.mask=10*afk t.mask-1+1:=by unfold afk;omega
 unfold SetTable.freeSlot SetTable.probe;rw[e];unfold SetTable.probe.go;rw[c,(T.slot k).1 f];dsimp only;rw[a];rfl
theorem u_ {a:Type}(xs:Array a)(p:Nat)(x:a):(abq xs p x).toList=xs.toList.take p++x::xs.toList.drop p:=by unfold abq;simp;exact aal (by simp)
theorem jx {a:Type}(xs:Array a)(p:Nat)(x:a):(abq xs p x).toList.Perm (x::xs.toList):=by rw[u_];refine List.perm_middle.trans ?_;rw[List.take_append_drop]
theorem HD {xs:Array Nat}(h:pG xs){j:Nat}(s:j ∉ xs):pG (abq xs (ZV xs j) j):=by
 obtain⟨a,b,c⟩:=lC h j;unfold pG;rw[u_,List.pairwise_append];have lo:∀x∈xs.toList.take (ZV xs j),x<j:=λx k=>by obtain⟨i,f,e⟩:=aaW.mp k;rw[aah]at f;rw[agf]at e;have:=b i (by simp at f;omega) (by omega);rw[<- e];simpa using this
 have f:∀x∈xs.toList.drop (ZV xs j),j<x:=λx k=>by
   obtain⟨i,f,e⟩:=aaW.mp k;rw[adm]at f;rw[List.getElem_drop]at e;have o:ZV xs j+i<xs.size:=by simp at f;omega
   have r:=c _ o (by omega);have q:xs[ZV xs j+i]=x:=by simpa using e
   have:x≠j:=λz=>s (by rw[<- z,<- q];exact aeo o);omega
 refine⟨h.sublist (aen _ _),List.pairwise_cons.mpr ⟨f,h.sublist (List.drop_sublist _ _)⟩,λx k y l=>?_⟩;rcases Zx.mp l with rfl|l
 . exact lo x k
 . exact aeK (lo x k) (f y l)
structure zy (t:acW)(n:Nat):Prop where
 dm:t.dummies = #[]
 pl:t.plain=true
 sz:t.place.size=n
 ri:pG t.place
 le:∀j∈t.place,j<=t.mask
theorem zy.fits (h:zy t n)(b:n<=t.mask):t.fits n=true:=by
 have hd:t.dummies.size=0:=by rw[h.dm];rfl
 have a:=h.sz;unfold ahu afG;simp only[Zr,beq_iff_eq,decide_eq_true_eq];exact⟨a,by omega⟩
theorem KQ (T:lD t n){es:Array (Int×Value)}(l:es.size=n){j:Nat}(f:j<=7)(h:j ∉ t.place)(x:Value):∃dC t',layNew t es (j:Int) x=(dC,t',false,false)/\zy t' (n+1)/\t'.mask=t.mask/\t'.led=t.led/\dC.toList.Perm (((j:Int),x)::es.toList)/\dC.size=n+1 /\ ∀i∈t'.place,i=j\/i∈t.place:=by
 have e:=HC T f h;have hm:j<=t.mask:=by rw[T.mx];exact f
 have hd:aeL #[] j=false:=by simp[aeL]
 have a:(abq es (ZV t.place j) ((j:Int),x)).size=n+1:=by have:=(jx es (ZV t.place j) ((j:Int),x)).length_eq;simp at this;omega
 have P:zy { t with place:=abq t.place (ZV t.place j) j,dummies:=t.dummies } (n+1):=by
  refine⟨T.dm,T.pl,?_,HD T.ri h,λk f=>?_⟩
  . have:=(jx t.place (ZV t.place j) j).length_eq
    have:=T.sz;simp at *;omega
  . have:=(jx t.place (ZV t.place j) j).mem_iff.mp (by simpa using f)
    rcases Zx.mp this with rfl|h'
    . exact hm
    . exact T.le k (by simpa using h')
 have c:t.put j=({ t with place:=abq t.place (ZV t.place j) j,dummies:=t.dummies },ZV t.place j):=by unfold SetTable.put;dsimp only;rw[T.dm,hd];rfl
 have hf:=P.fits (by show n+1<=t.mask;have:=T.mx;have:=T.n4;omega)
 refine⟨abq es (ZV t.place j) ((j:Int),x),_,?_,P,rfl,rfl,jx _ _ _,a,λi b=>Zx.mp ((jx t.place (ZV t.place j) j).mem_iff.mp (by simpa using b)) |>.imp id (by simp)⟩;unfold layNew;rw[e];dsimp only;rw[c];dsimp only;rw[a,hf];unfold SetTable.orStandIn;rw[hf];rfl
end SJ
namespace SJ
open PyProof.Rows SW
noncomputable def mS (p:Int×Nat):Int×Value:=(af7 p.1,.int p.1 p.2)
noncomputable def ik (h:Heap)(a:Addr)(led:Bool)(ks:List Int):Prop :=
 ∃(es:Array (Int×Value)) (ep:Nat) (t:acW) (l:List (Int×Nat)),h.get? a=some (h_ es ep t)/\lD t es.size/\t.led=led/\es.toList.Perm (l.map mS)/\l.map (·.1)=ks /\ ∀j∈t.place,((j:Nat):Int)∈ks
noncomputable def jy (ks:List Int)(k:Int):List Int:=if k∈ks then ks else ks ++ [k]
section
variable {prog:ZW}{w:World}{A:ZY}{E:Value->Zo->Prop}{s:Zo}{a:Addr}{led:Bool}{ks:List Int}
theorem elems {es:Array (Int×Value)}{l:List (Int×Nat)}(b:es.toList.Perm (l.map mS)):ElemsOf (acJ prog w) es.toList:=by intro e he;have:=b.mem_iff.mp he;rw[ZK]at this;obtain⟨p,hm,rfl⟩:=this;exact⟨⟨p.1,by simp[mS,acJ,ad1],rfl⟩,rfl⟩
set_option maxHeartbeats 2000000 in
theorem HE {k:Int}{tok:Nat}{Q:Bool->Zo->Prop}(B:ik s.heap a led ks)(H:ks.length<=3\/k∈ks)(I:0<=k/\k<=7)
  (C:∀b h',abD a s.heap h'->ik h' a led (jy ks k)->Q b { s with heap:=h' }):wpAny (model prog w) A (setAddHashed a (.int k tok) (af7 k)) Q E s:=by
 obtain⟨es,ep,t,l,ha,T,qQ,y,va,eG⟩:=id B;have Q0:=elems (prog:=prog) (w:=w) y;have hf:t.fits es.size=true:=T.fits;have FC:es.size<=4:=T.n4;have hb:es.size<scanBound:=by unfold scanBound;omega
 have TH:(acJ prog w).is k (.int k tok)=true:=by simp[acJ,ad1]
 unfold setAddHashed setAddHashedIn;refine aaa (Zm (ack ha rfl hf ?_));dsimp only;rw[byScan_of (knd:=acJ prog w) (x:=.int k tok) rfl hb Q0];simp only[↓reduceIte];unfold setAddByScan;refine Zm ?_;refine Zm (abf ?_);refine Zm (wpAny_setScan_of (knd:=acJ prog w) (k:=k) TH ha rfl hf Q0 ?_);cases hr:List.findIdx? (λe=>(acJ prog w).is k e.2) es.toList with
 |some j =>
  dsimp only;obtain⟨hj,z,_⟩:=adg.mp hr;have cq:k∈ks:=by
    have:=y.mem_iff.mp (Z6 hj);rw[ZK]at this;obtain⟨p,hm,e⟩:=this;rw[<- e]at z;have Wh:k=p.1:=by simp[mS,acJ,ad1]at z;first|exact z|exact z.symm
    rw[Wh,<- va];exact aay hm
  refine Zp (Zp ?_);have hd:jy ks k=ks:=by unfold jy;rw[if_pos cq]
  have e:s={ s with heap:=s.heap }:=by cases s;rfl
  rw[e];exact C _ s.heap (Heap.SameBut.refl a s.heap) (by rw[hd];exact B)
 |none =>
  dsimp only;have zz:¬k∈ks:=by intro cq;rw[<- va,ZK]at cq;obtain⟨p,hm,e⟩:=cq;have pI:=y.mem_iff.mpr (aay (f:=mS) hm);have:=List.findIdx?_eq_none_iff.mp hr _ pI;subst e;simp[mS,acJ,ad1]at this
  have YL:es.size<=3:=by
    have hlen:=y.length_eq;rcases H with h|h
    . have:l.length=ks.length:=by rw[<- va];simp
      simp at hlen;omega
    . exact absurd h zz
  obtain⟨c,rfl⟩:∃n:Nat,k=n:=⟨k.toNat,(abM I.1).symm⟩
  have hh:∀n:Nat,n<=7->af7 (n:Int)=n:=by decide
  have KR:c<=7:=by omega
  obtain⟨u,r,e1,P,kE,gH,xH,Wi,TJ⟩:=KQ T (es:=es) rfl KR (λq=>zz (eG c q)) (.int (c:Int) tok);rw[hh c KR,e1];dsimp only;refine Zm (Zp ?_);rw[P.pl];simp only[if_true];refine Zm ?_;rw[hashByValue_scannable 8 (x:=.int (c:Int) tok) rfl];refine Zp ?_;refine Zm (wpAny_storeSet_of ha rfl ?_ (fits_of_scanBound (by unfold scanBound;omega)));have hg:(s.heap.update a (Obj.putSet u r)).get? a=some (h_ u (ep+1) r):=by have:=aaC (Obj.putSet u r) ha (by rw[putSet_of u r (o:=h_ es ep t) rfl];rfl);rw[putSet_of u r (o:=h_ es ep t) rfl]at this;exact this
  have sH:plainKind (.int (c:Int) tok)=true:=rfl;have TK:u.toList.Perm ((l ++ [((c:Int),tok)]).map mS):=by
    rw[aag];have:mS ((c:Int),tok)=((c:Int),.int (c:Int) tok):=by unfold mS;rw[hh c KR]
    rw[List.map_singleton,this];refine xH.trans ((y.cons _).trans ?_);exact(List.perm_append_singleton _ _).symm
  have TM:(l ++ [((c:Int),tok)]).map (·.1)=jy ks (c:Int):=by unfold jy;rw[if_neg zz,<- va];simp
  have sI:r.fill=es.size+1:=by unfold afG;rw[P.sz,P.dm];rfl
  have Wj:r.tooFull=false:=decide_eq_false (by rw[sI,kE];have:=T.mx;omega)
  simp only[sH,if_true,ZS,Bool.true_and,Wj,ZJ,if_false];refine Zp (Zp (C true _ (aa0 s.heap a _) ?_));refine⟨u,ep+1,r,l ++ [((c:Int),tok)],hg,⟨P.dm,P.pl,by rw[P.sz,Wi],P.ri,P.le,kE.trans T.mx,by omega⟩,by rw[gH,qQ],TK,TM,λi hi=>?_⟩;unfold jy;rw[if_neg zz,Zy];rcases TJ i hi with rfl|h
  . exact .inr ZU
  . exact .inl (eG i h)
end
end SJ
namespace SW
open PyProof.Rows
noncomputable def jy (ks:List Nat)(k:Nat):List Nat:=if k∈ks then ks else ks ++ [k]
section
variable {prog:ZW}{w:World}{A:ZY}{R:Result->Zo->Prop}{I:Addr}{fp wr:List Addr}{G:Array aeF->Array aeF->Prop}{n:Nat}{P:Nat->Value->Prop}{St:Nat->Zo->Prop}
noncomputable def seen (val:Nat->Nat):Nat->List Nat
 | 0=>[]|i+1=>jy (seen val i) (val i)
end
section
variable {prog:ZW}{w:World}{A:ZY}{E:Value->Zo->Prop}{s:Zo}
noncomputable def emp (led:Bool):Obj:=h_ #[] 0 (tb [] led)
theorem HF (a:Value){Q₁:Value->Zo->Prop}(h:Q₁ (.ref s.heap.objs.size) { s with heap:=s.heap.push (emp (!w.params.followText "set-order")) }):
  acK (model prog w) A (.call (.builtin "set.__new__") ⟨[.type "set",a],[]⟩) (wants Q₁ E) s:=by
 refine codeAny_of_tree ?_;show wpAny _ A.in1 (do aeM "set.__new__" ⟨[.type "set",a],[]⟩;again (.builtin "set.__new__" ⟨[.type "set",a],[]⟩)) _ _ s;refine Zm (ago (F.newCall_set_1 a) (Zp ⟨acH F.plain_set_new _,abF F.entry_set_new ?_⟩));rw[abo F.plain_set_new _];unfold aa9.«set.__new__» ahy;have e:=sub_set_self;obtain⟨b,g,d,c,os⟩:=s;dsimp only
 wp_walk
 refine ab9 (Zp ?_);dsimp only;simp only[newObj];refine Zm (agp (Zp ?_));exact Zp h
end
noncomputable def zs (ks:List Nat):List Int:=ks.map λ(k:Nat)=>(k:Int)
theorem sJ {vs us:List Value}(i:vs.Perm us):∀{ns:List Int},abQ us ns->∃ms,abQ vs ms/\ms.Perm ns:=by
 induction i with
 |nil=>intro ns h;exact⟨ns,h,ag7 _⟩
 |cons x _ ih =>
  intro ns h;cases h with
  |cons n t hr =>
   obtain⟨ms,b,a⟩:=ih hr;exact⟨n::ms,.cons _ _ b,a.cons n⟩
 |swap x y l =>
  intro ns h;cases h with
  |cons n t hr =>
   cases hr with
   |cons m u pJ=>exact⟨m::n::_,.cons _ _ (.cons _ _ pJ),ag5 _ _ _⟩
 |trans _ _ KS Bq =>
  intro ns h;obtain⟨ms,b,a⟩:=Bq h;obtain⟨f,c,e⟩:=KS b;exact⟨f,c,e.trans a⟩
end SW
namespace L3
open PyProof.Rows L2
inductive D where
 |ay|bl (b:Bool)|int (i:Int)|str (x:Str)|tup (xs:List D)|lst (xs:List D)|dZ|ref (n:Nat)|aX (n:Nat)|fn (x:Str) (ds:List D)
structure KW where
 fr:ZF
 w:World
 mg:Str->Option Value
 lx:Lx
instance:Coe KW ZF:=⟨KW.fr⟩
noncomputable abbrev _root_.L2.Cx.kw (X:L2.Cx):KW:=⟨X.K,X.w,X.mg,X.lx⟩
abbrev G:=List (List D)
abbrev Sg:=List (Option D)
structure Ix where
 ix:List Addr
 hd:List Addr
 kd:Nat->Nat
noncomputable def kb:Nat->Bool
 | 0=>false|_+1=>true
def d5 (ι:Ix)(n:Nat)(a:Addr)(b:Bool):Prop:=ι.ix[n]? = some a/\kb (ι.kd n)=b
noncomputable def Ix.more (ι:Ix)(p:Addr)(b:Nat):Ix:=⟨ι.ix ++ [p],ι.hd,λi=>if i=ι.ix.length then b else ι.kd i⟩
mutual
noncomputable def aU:Nat->D->Bool
 |_,.ay=>true|_,.int _=>true|_,.str _=>true|n+1,.tup xs=>jA n xs|_,_=>false
noncomputable def jA:Nat->List D->Bool
 |_,[]=>true|n,d::ds=>aU n d&&jA n ds
end
mutual
noncomputable def hD (w:World):D->Int
 |.int i=>af7 i|.str x=>hashStr w x|.ay=>reduceHash 0xFCA86420|.tup xs=>reduceHash (aex (Br w xs))|_=>0
noncomputable def Br (w:World):List D->List Int
 | []=>[]|d::ds=>hD w d::Br w ds
end
noncomputable def dO (a:Addr)(es:List aaf)(c:Nat):HO:=.ext λh=>h.get? a=some { cls:=.type "dict",data:=.dict es.toArray (es.length-c) }
noncomputable def pK:List aaf->List Value
 | []=>[]|e::es=>e.key::e.val::pK es
noncomputable def cG:List D->List D
 |k::_::r=>k::cG r|_=>[]
inductive jB (w:World):List D->List aaf->Prop
 |nil:jB w [] []
 |cons {k v:D} {r:List D} {e:aaf} {es:List aaf}:aU 6 k=true->e.hash=hD w k->jB w r es->jB w (k::v::r) (e::es)
inductive OV (K:KW)(a:Addr)(xs:List D):Nat->HO->List V->Prop
 |l (vs:List V):OV K a xs 0 (.lst vs) vs
 |d (c:Nat) (es:List aaf) (vs:List V):c<=es.length->Vals vs (pK es)->jB K.w xs es->(cG xs).Nodup->(a == ace)=false->es.length<=ZM->OV K a xs (c+1) (dO a es c) vs
noncomputable def mq (K:KW)(H:Hp)(ι:Ix)(a:Addr)(xs:List V):Prop :=
 (Rd H a (.lst xs)/\a ∉ ι.ix/\a ∉ ι.hd) \/
  ∃(o:Obj) (au:Array Value) (n:Nat),K.fr.lookup a=some o/\o.cls = .type "list" /\ o.dict=none/\o.data = .seq au n/\au.size<=ZM/\Vals xs au.toList
theorem mq.sq {K H ι a xs}(h:mq K H ι a xs):dw K H a xs:=by
 rcases h with⟨h,_⟩|h
 . exact .inl h
 . exact .inr h
noncomputable def ox (K:KW)(H:Hp)(ι:Ix)(a:Addr)(xs:List V):Prop :=
 (Rd H a (.tup xs)/\a ∉ ι.ix) \/
  ∃(o:Obj) (au:Array Value) (n:Nat),K.fr.lookup a=some o/\o.cls = .type "tuple" /\ o.dict=none/\o.data = .seq au n/\au.size<=ZM/\Vals xs au.toList
theorem ox.sq {K H ι a xs}(h:ox K H ι a xs):eK K H a xs:=by
 rcases h with⟨h,_⟩|h
 . exact .inl h
 . exact .inr h
noncomputable def Q1:HO->Bool
 |.ext _=>true|_=>false
def Xo (H:Hp)(ι:Ix)(a:Addr)(u:HO):Prop:=H a=some u/\a ∉ ι.ix/\(Q1 u=true->a ∉ ι.hd)
noncomputable def KU:HO->Bool
 |.ext _=>true|.hZ _=>true|_=>false
noncomputable abbrev oK (a:Addr)(o:Obj):HO:=.ext λh=>h.get? a=some o
inductive cK (H:Hp)(ι:Ix):List (Str×Addr)->List V->Prop
 |nil:cK H ι [] []
 |cons {y:Str} {c:Addr} {o:Obj} {u:Value} {v:V} {cl:List (Str×Addr)} {vs:List V} (x:Xo H ι c (oK c o)) (d:o.data = .cell (some u)) (r:RelV v u) (t:cK H ι cl vs):cK H ι ((y,c)::cl) (v::vs)
inductive Bs (K:KW)(H:Hp)(ι:Ix)(x:Str)(a:Addr)(vs:List V):Prop
 |mk (l:dR) (c:Addr) (fE pm:Value) (cl:List (Str×Addr)) (hl:K.lx.lm x=some l) (hf:Xo H ι a (oK a (adK "<lambda>" l.qual l.ar l.bd l.sc cl pm c fE))) (hc:Xo H ι c (.hZ l.qual)) (hn:cl.map (·.1)=l.fv) (hd:(cl.map (·.2)).Nodup) (hv:cK H ι cl vs):Bs K H ι x a vs
def FF (K:KW)(H:Hp)(ι:Ix)(x:Str)(a:Addr)(vs:List V):Prop:=(vs = []/\K.lx.lm x=none/\K.mg x=some (.ref a))\/Bs K H ι x a vs
theorem cK.mono {H ι b a}(t:∀c u,KU u=true->Xo H ι c u->Xo b a c u):∀{cl vs},cK H ι cl vs->cK b a cl vs
 |_,_,.nil=>.nil|_,_,.cons x d r q=>.cons (t _ _ rfl x) d r (cK.mono t q)
theorem FF.mono {K H ι e b x a vs}(h:FF K H ι x a vs)(t:∀c u,KU u=true->Xo H ι c u->Xo e b c u):FF K e b x a vs:=by
 rcases h with h|⟨l,c,fE,pm,cl,hl,hf,hc,hn,hd,hv⟩
 . exact .inl h
 . exact .inr ⟨l,c,fE,pm,cl,hl,t _ _ rfl hf,t _ _ rfl hc,hn,hd,hv.mono t⟩
mutual
noncomputable def Rel (K:KW)(H:Hp)(ι:Ix):D->V->Prop
 |.ay,v=>v = .ay|.bl b,v=>v = .bl b|.int i,v=>v = .int i|.str x,v=>v = .str x|.tup xs,v=>∃a vs,v = .ref a/\ox K H ι a vs/\aj K H ι xs vs|.lst xs,v=>∃a vs,v = .ref a/\mq K H ι a vs/\aj K H ι xs vs|.dZ,v=>∃a,v = .ref a/\H a=some (.dK [])/\a ∉ ι.ix|.ref n,v=>∃a,v = .ref a/\d5 ι n a false|.aX n,v=>∃a,v = .ref a/\d5 ι n a true|.fn x ds,v=>∃a vs,v = .ref a/\FF K H ι x a vs/\aj K H ι ds vs
noncomputable def aj (K:KW)(H:Hp)(ι:Ix):List D->List V->Prop
 | [],vs=>vs = []|x::xs,vs=>∃v vr,vs=v::vr/\Rel K H ι x v/\aj K H ι xs vr
end
structure Ext (H:Hp)(ι:Ix)(H':Hp)(ι':Ix):Prop where
 same:∀a o,H a=some o->a ∉ ι.ix->H' a=some o
 there:∀a,H a≠none->H' a≠none
 more:∃m,ι'.ix=ι.ix++m /\ ∀a∈m,H a=none
 cH:ι'.hd=ι.hd
 mr:∀i,i < ι.ix.length->ι'.kd i=ι.kd i
structure aw (K:KW)(H:Hp)(ι:Ix)(g:G):Prop where
 nd:ι.ix.Nodup
 len:ι.ix.length=g.length
 cH:∀b∈ι.hd,b ∉ ι.ix/\H b≠none
 at_:∀(i:Nat) xs,g[i]? = some xs->∃a o vs,ι.ix[i]? = some a/\H a=some o/\OV K a xs (ι.kd i) o vs/\aj K H ι xs vs
 tb:∀q∈K.lx.tb,H q.1=some (.cw q.2.1 q.2.2)/\q.1 ∉ ι.ix
noncomputable def bH (K:KW)(H:Hp)(ι:Ix)(a:Sg)(σ:L2.St):Prop :=
 a.length=σ.length /\ ∀(i:Nat) d,a[i]? = some (some d)->∃v,σ[i]? = some (some v)/\Rel K H ι d v
theorem Ext.refl {H ι}:Ext H ι H ι:=⟨λ_ _ h _=>h,λ_ h=>h,⟨[],by simp,λ_ h=>by simp at h⟩,rfl,λ_ _=>rfl⟩
theorem Ext.old {H ι i f}(a:Ext H ι i f){c:Addr}{o:HO}(h:H c=some o)(n:c ∉ ι.ix):c ∉ f.ix:=λz=>by
 obtain⟨e,b,f1⟩:=a.more;rw[b]at z;rcases Zy.mp z with z|z
 . exact n z
 . rw[f1 c z]at h;cases h
theorem Ext.trans {H ι s r u ι2}(a:Ext H ι s r)(b:Ext s r u ι2):Ext H ι u ι2:=by
 obtain⟨f,e,f1⟩:=a.more;obtain⟨l,k,f2⟩:=b.more;refine⟨λc o h n=>b.same c o (a.same c o h n) (a.old h n),λc h=>b.there c (a.there c h),⟨f++l,by rw[k,e,Z3],λc z=>?_⟩,b.cH.trans a.cH,λi j=>(b.mr i (by rw[e,ZH];omega)).trans (a.mr i j)⟩;rcases Zy.mp z with z|z
 . exact f1 c z
 . cases q:H c with
   |none=>rfl|some o=>exact absurd (f2 c z) (a.there c (by rw[q];simp))
theorem Ext.at {H ι l k}(a:Ext H ι l k){i:Nat}{c:Addr}{b:Bool}(h:d5 ι i c b):d5 k i c b:=by obtain⟨j,f,_⟩:=a.more;have e:=(Zq.mp h.1).1;refine⟨?_,by rw[a.mr i e];exact h.2⟩;rw[f,ZI e];exact h.1
theorem mq.ext {K H ι c b a xs}(e:Ext H ι c b)(h:mq K H ι a xs):mq K c b a xs:=by
 rcases h with⟨h|⟨o,h⟩,n,k⟩|h
 . exact .inl ⟨.inl (e.same _ _ h n),e.old h n,by rw[e.cH];exact k⟩
 . exact .inl ⟨.inr ⟨o,e.same _ _ h n⟩,e.old h n,by rw[e.cH];exact k⟩
 . exact .inr h
theorem Xo.ext {H ι b a c u}(e:Ext H ι b a)(h:Xo H ι c u):Xo b a c u:=⟨e.same _ _ h.1 h.2.1,e.old h.1 h.2.1,λy=>by rw[e.cH];exact h.2.2 y⟩
theorem ox.ext {K H ι c b a xs}(e:Ext H ι c b)(h:ox K H ι a xs):ox K c b a xs:=by
 rcases h with⟨h|⟨o,h⟩,n⟩|h
 . exact .inl ⟨.inl (e.same _ _ h n),e.old h n⟩
 . exact .inl ⟨.inr ⟨o,e.same _ _ h n⟩,e.old h n⟩
 . exact .inr h
mutual
theorem Rel.ext {K H ι l k}(e:Ext H ι l k):∀(d:D) {v:V},Rel K H ι d v->Rel K l k d v
 |.ay,v,h=>by simpa[Rel]using h|.bl _,v,h=>by simpa[Rel]using h|.int _,v,h=>by simpa[Rel]using h|.str _,v,h=>by simpa[Rel]using h|.tup xs,v,h=>by simp only[Rel]at h ⊢;obtain⟨a,j,f,b,i⟩:=h;exact⟨a,j,f,b.ext e,aj.ext e xs i⟩
 |.lst xs,v,h=>by simp only[Rel]at h ⊢;obtain⟨a,j,f,b,i⟩:=h;exact⟨a,j,f,b.ext e,aj.ext e xs i⟩
 |.dZ,v,h=>by simp only[Rel]at h ⊢;obtain⟨a,f,b,i⟩:=h;exact⟨a,f,e.same _ _ b i,e.old b i⟩
 |.ref n,v,h=>by simp only[Rel]at h ⊢;obtain⟨a,f,b⟩:=h;exact⟨a,f,e.at b⟩
 |.aX n,v,h=>by simp only[Rel]at h ⊢;obtain⟨a,f,b⟩:=h;exact⟨a,f,e.at b⟩
 |.fn x ds,v,h=>by simp only[Rel]at h ⊢;obtain⟨a,j,f,b,i⟩:=h;exact⟨a,j,f,b.mono λc u z q=>q.ext e,aj.ext e ds i⟩
theorem aj.ext {K H ι j i}(e:Ext H ι j i):∀(ds:List D) {vs:List V},aj K H ι ds vs->aj K j i ds vs
 | [],vs,h=>by simpa[aj]using h|d::ds,vs,h=>by simp only[aj]at h ⊢;obtain⟨v,c,f,b,a⟩:=h;exact⟨v,c,f,Rel.ext e d b,aj.ext e ds a⟩
end
theorem bH.ext {K H ι j c f σ}(e:Ext H ι j c)(h:bH K H ι f σ):bH K j c f σ :=
 ⟨h.1,λi d q=>let⟨v,a,b⟩:=h.2 i d q;⟨v,a,Rel.ext e d b⟩⟩
theorem aj.length {K H ι}:∀{ds:List D} {vs:List V},aj K H ι ds vs->ds.length=vs.length
 | [],vs,h=>by simp only[aj]at h;subst h;rfl|d::ds,vs,h=>by simp only[aj]at h;obtain⟨v,b,rfl,_,a⟩:=h;simp[aj.length a]
theorem aj.append {K H ι}:∀{ds es:List D} {vs us:List V},aj K H ι ds vs->aj K H ι es us->aj K H ι (ds++es) (vs++us)
 | [],es,vs,us,h,k=>by simp only[aj]at h;subst h;exact k|d::ds,es,vs,us,h,k=>by simp only[aj]at h;obtain⟨v,c,rfl,b,a⟩:=h;simp only[List.cons_append,aj];exact⟨v,_,rfl,b,aj.append a k⟩
theorem aj.get {K H ι}:∀{ds:List D} {vs:List V} {i:Nat} {d:D},aj K H ι ds vs->ds[i]? = some d->∃v,vs[i]? = some v/\Rel K H ι d v
 | [],_,_,_,_,e=>by simp at e|x::ds,vs,0,d,h,e=>by simp only[aj]at h;obtain⟨v,j,rfl,b,a⟩:=h;simp at e;subst e;exact⟨v,rfl,b⟩
 |x::ds,vs,i+1,d,h,e=>by simp only[aj]at h;obtain⟨v,j,rfl,b,a⟩:=h;obtain⟨u,f,c⟩:=aj.get (i:=i) a (by simpa using e);exact⟨u,by simpa using f,c⟩
theorem aj.set {K H ι d v}(c:Rel K H ι d v):∀{ds:List D} {vs:List V} (i:Nat),aj K H ι ds vs->aj K H ι (ds.set i d) (vs.set i v)
 | [],_,_,h=>by simp only[aj]at h;subst h;simp[aj]|x::ds,vs,0,h=>by simp only[aj]at h;obtain⟨u,b,rfl,hu,a⟩:=h;simp only[aec,aj];exact⟨v,b,rfl,c,a⟩
 |x::ds,vs,i+1,h=>by simp only[aj]at h;obtain⟨u,b,rfl,hu,a⟩:=h;simp only[afX,aj];exact⟨u,_,rfl,hu,aj.set c i a⟩
theorem aj.take {K H ι}:∀{ds:List D} {vs:List V} (n:Nat),aj K H ι ds vs->aj K H ι (ds.take n) (vs.take n)
 |_,_,0,_=>by simp[aj]| [],_,n+1,h=>by simp only[aj]at h;subst h;simp[aj]|x::ds,vs,n+1,h=>by simp only[aj]at h;obtain⟨u,b,rfl,hu,a⟩:=h;simp only[List.take_succ_cons,aj];exact⟨u,_,rfl,hu,aj.take n a⟩
theorem aj.drop {K H ι}:∀{ds:List D} {vs:List V} (n:Nat),aj K H ι ds vs->aj K H ι (ds.drop n) (vs.drop n)
 |_,_,0,h=>h| [],_,n+1,h=>by simp only[aj]at h;subst h;simp[aj]|x::ds,vs,n+1,h=>by simp only[aj]at h;obtain⟨u,b,rfl,hu,a⟩:=h;simp only[List.drop_succ_cons];exact aj.drop n a
theorem aw.at {K H ι g}(h:aw K H ι g){n:Nat}{xs:List D}{a:Addr}(e:g[n]? = some xs)(q:d5 ι n a false):∃vs,H a=some (.lst vs)/\aj K H ι xs vs:=by
 obtain⟨b,o,vs,c,j,f,i⟩:=h.at_ n xs e;rw[q.1]at c;cases c;have c:=q.2;generalize ι.kd n=k at f c;cases f with
 |l=>exact⟨vs,j,i⟩|d=>cases c
theorem aw.xI {K H ι g}(h:aw K H ι g){n:Nat}{xs:List D}{a:Addr}(e:g[n]? = some xs)(r:d5 ι n a true):
  ∃es vs c,H a=some (dO a es c)/\ι.kd n=c+1/\c<=es.length/\Vals vs (pK es)/\jB K.w xs es/\(cG xs).Nodup/\(a == ace)=false/\es.length<=ZM/\aj K H ι xs vs:=by
 obtain⟨b,o,vs,f,q,i,j⟩:=h.at_ n xs e;rw[r.1]at f;cases f;have f:=r.2;generalize ι.kd n=k at i f;cases i with
 |l=>cases f|d c es vs h0 h3 h4 h5 h6 h7=>exact⟨es,vs,c,q,rfl,h0,h3,h4,h5,h6,h7,j⟩
theorem aw.jV {K H ι g}(h:aw K H ι g){a:Addr}(o:a∈ι.ix):H a≠none:=by
 obtain⟨i,c,e⟩:=aaW.mp o;have j:i<g.length:=by rw[<- h.len];exact c
 obtain⟨b,_,l,f,k,_⟩:=h.at_ i _ (Zn j);rw[Zn c,e]at f;cases f;rw[k];simp
theorem Ext.lay {H ι p o}(b:H p=none):Ext H ι (upd H p o) ι :=
 ⟨λa u h _=>by rw[aC (aK h b)];exact h,λa h=>by
  by_cases e:a=p
  . subst e;exact absurd b h
  . rw[aC e];exact h,⟨[],by simp,λ_ h=>by simp at h⟩,rfl,λ_ _=>rfl⟩
theorem aw.ext {K H ι g x}(h:aw K H ι g)(e:Ext H ι x ι)(k:∀a∈ι.ix,x a=H a):aw K x ι g :=
 ⟨h.nd,h.len,λb j=>⟨(h.cH b j).1,e.there b (h.cH b j).2⟩,λi xs q=>by obtain⟨a,o,r,f,s,u,l⟩:=h.at_ i xs q;exact⟨a,o,r,f,by rw[k a (ZP f)];exact s,u,aj.ext e xs l⟩,λq c=>⟨e.same _ _ (h.tb q c).1 (h.tb q c).2,(h.tb q c).2⟩⟩
theorem aw.lay {K H ι g p o}(h:aw K H ι g)(c:H p=none):aw K (upd H p o) ι g :=
 h.ext (Ext.lay c) λa b=>aC λe=>by subst e;exact h.jV b c
theorem aw.fresh {K H ι g p}(h:aw K H ι g)(b:H p=none):p ∉ ι.ix:=λa=>h.jV a b
theorem aw.gY {K H ι g p}(h:aw K H ι g)(b:H p=none):p ∉ ι.hd:=λa=>(h.cH p a).2 b
theorem Ext.iF {H ι p o b}(h:H p=none):Ext H ι (upd H p o) (ι.more p b):=by have e:=Ext.lay (ι:=ι) (o:=o) h;refine⟨e.same,e.there,⟨[p],rfl,λa c=>by simp at c;subst c;exact h⟩,rfl,λi f=>?_⟩;show(if i=ι.ix.length then b else ι.kd i)=ι.kd i;rw[if_neg (by omega)]
theorem Ext.push {H ι p o}(a:H p=none):Ext H ι (upd H p o) (ι.more p 0):=Ext.iF a
theorem aw.iF {K H ι g p o xs vs b}(h:aw K H ι g)(A:H p=none)(B:OV K p xs b o vs)(r:aj K H ι xs vs):aw K (upd H p o) (ι.more p b) (g ++ [xs]):=by
 have x:=h.fresh A;refine⟨?_,by simp[Ix.more,h.len],λb c=>⟨λz=>?_,(Ext.iF (ι:=ι) (o:=o) (b:=0) A).there b (h.cH b c).2⟩,λi ys q=>?_,λq f=>⟨by rw[aC (aK (h.tb q f).1 A)];exact(h.tb q f).1,λz=>(Zy.mp z).elim (h.tb q f).2 λz=>aK (h.tb q f).1 A (by simpa using z)⟩⟩
 . show(ι.ix ++ [p]).Nodup
   rw[abr];refine⟨h.nd,by simp,λa ha b c=>?_⟩;simp at c;subst c;intro e;subst e;exact x ha
 . rcases Zy.mp z with z|z
   . exact(h.cH b c).1 z
   . simp at z;subst z;exact(h.cH _ c).2 A
 . by_cases hi:i<g.length
   . rw[ZI hi]at q
     obtain⟨a,j,us,h1,l,Wl,u⟩:=h.at_ i ys q;refine⟨a,j,us,(by show(ι.ix ++ [p])[i]? = some a;rw[ZI (by rw[h.len];exact hi)];exact h1),?_,?_,aj.ext (Ext.iF A) ys u⟩
     . rw[aC (aK l A)];exact l
     . show OV K _ _ (if i=ι.ix.length then b else ι.kd i) j us
       rw[if_neg (by rw[h.len];omega)];exact Wl
   . rw[ZX (by omega)]at q
     have y:i-g.length=0:=by
       cases e:i-g.length with
       |zero=>rfl|succ k=>rw[e]at q;simp at q
     rw[y]at q;have e:xs=ys:=by simpa using q
     subst e;have s:i=ι.ix.length:=by rw[h.len];omega
     refine⟨p,o,vs,?_,aP,?_,aj.ext (Ext.iF A) xs r⟩
     . show(ι.ix ++ [p])[i]? = some p
       rw[s];simp
     . show OV K _ _ (if i=ι.ix.length then b else ι.kd i) o vs
       rw[if_pos s];exact B
theorem aw.push {K H ι g p xs vs}(h:aw K H ι g)(a:H p=none)(r:aj K H ι xs vs):aw K (upd H p (.lst vs)) (ι.more p 0) (g ++ [xs]):=h.iF a (.l vs) r
theorem d5.new {ι:Ix}{p:Addr}{k:Nat}{n:Nat}(h:ι.ix.length=n):d5 (ι.more p k) n p (kb k):=by subst h;exact⟨by show(ι.ix ++ [p])[ι.ix.length]? = some p;simp,by show kb (if ι.ix.length=ι.ix.length then k else ι.kd ι.ix.length)=kb k;rw[if_pos rfl]⟩
theorem Ext.put {H ι}{n:Nat}{a o c}{b:Bool}(f:d5 ι n a b)(h:H a=some o):Ext H ι (upd H a c) ι :=
 ⟨λb o q nb=>by rw[aC (λe=>nb (by rw[e];exact ZP f.1))];exact q,λb q=>by
  by_cases e:b=a
  . subst e;rw[aP];simp
  . rw[aC e];exact q,⟨[],by simp,λ_ z=>by simp at z⟩,rfl,λ_ _=>rfl⟩
theorem aw.KY {K H ι g}{n:Nat}{a o B xs ws}{b:Bool}(h:aw K H ι g)(A:d5 ι n a b)(C:H a=some o)(E:OV K a xs (ι.kd n) B ws)(r:aj K H ι xs ws):aw K (upd H a B) ι (g.set n xs):=by
 refine⟨h.nd,by simp[h.len],λb l=>⟨(h.cH b l).1,(Ext.put A C).there b (h.cH b l).2⟩,λi j q=>?_,λq c=>⟨by rw[aC λz=>(h.tb q c).2 (by rw[z];exact ZP A.1)];exact(h.tb q c).1,(h.tb q c).2⟩⟩;by_cases e:i=n
 . subst e
   have f:i<g.length:=by rw[<- h.len];exact(Zq.mp A.1).1
   rw[Z0 f]at q;cases q;exact⟨a,B,ws,A.1,aP,E,aj.ext (Ext.put A C) _ r⟩
 . rw[abm (abi e)]at q
   obtain⟨b,u,us,k,h2,y,s⟩:=h.at_ i j q;refine⟨b,u,us,k,?_,y,aj.ext (Ext.put A C) j s⟩;rw[aC ?_]
   . exact h2
   . intro z
     subst z;obtain⟨f,e1⟩:=Zq.mp k;obtain⟨hn,x⟩:=Zq.mp A.1;exact e ((aeG h.nd).mp (e1.trans x.symm))
theorem aw.put {K H ι g}{n:Nat}{a vs xs ws}(h:aw K H ι g)(c:d5 ι n a false)(f:H a=some (.lst vs))(r:aj K H ι xs ws):aw K (upd H a (.lst ws)) ι (g.set n xs):=h.KY c f (by
 have b:=c.2;cases e:ι.kd n with
 |zero=>exact .l ws|succ k=>rw[e]at b;cases b) r
noncomputable def Ix.hide (ι:Ix)(p:Addr):Ix:=⟨ι.ix,p::ι.hd,ι.kd⟩
mutual
theorem Rel.show {K H ι p}:∀(d:D) {v:V},Rel K H (Ix.hide ι p) d v->Rel K H ι d v
 |.ay,v,h=>by simpa[Rel]using h|.bl _,v,h=>by simpa[Rel]using h|.int _,v,h=>by simpa[Rel]using h|.str _,v,h=>by simpa[Rel]using h|.tup xs,v,h=>by simp only[Rel]at h ⊢;obtain⟨a,f,i,e,b⟩:=h;exact⟨a,f,i,e,aj.show xs b⟩
 |.lst xs,v,h=>by
  simp only[Rel]at h ⊢;obtain⟨a,f,i,e,b⟩:=h;refine⟨a,f,i,?_,aj.show xs b⟩;rcases e with⟨h,n,k⟩|h
  . exact .inl ⟨h,n,λz=>k (Zz _ z)⟩
  . exact .inr h
 |.dZ,v,h=>by simpa[Rel,Ix.hide]using h|.ref n,v,h=>by simpa[Rel,Ix.hide,d5]using h|.aX n,v,h=>by simpa[Rel,Ix.hide,d5]using h|.fn x ds,v,h=>by simp only[Rel]at h ⊢;obtain⟨a,f,i,e,b⟩:=h;exact⟨a,f,i,e.mono λc u z q=>⟨q.1,q.2.1,λy z=>q.2.2 y (Zz _ z)⟩,aj.show ds b⟩
theorem aj.show {K H ι p}:∀(ds:List D) {vs:List V},aj K H (Ix.hide ι p) ds vs->aj K H ι ds vs
 | [],vs,h=>by simpa[aj]using h|d::ds,vs,h=>by simp only[aj]at h ⊢;obtain⟨v,c,e,b,a⟩:=h;exact⟨v,c,e,Rel.show d b,aj.show ds a⟩
end
mutual
theorem Rel.hide {K H ι p o}(j:H p=none):∀(d:D) {v:V},Rel K H ι d v->Rel K (upd H p o) (Ix.hide ι p) d v
 |.ay,v,h=>by simpa[Rel]using h|.bl _,v,h=>by simpa[Rel]using h|.int _,v,h=>by simpa[Rel]using h|.str _,v,h=>by simpa[Rel]using h
 |.tup xs,v,h=>by
  simp only[Rel]at h ⊢;obtain⟨a,i,f,b,e⟩:=h;refine⟨a,i,f,?_,aj.hide j xs e⟩;rcases b with⟨h|⟨u,h⟩,n⟩|h
  . exact .inl ⟨.inl (by rw[aC (aK h j)];exact h),n⟩
  . exact .inl ⟨.inr ⟨u,by rw[aC (aK h j)];exact h⟩,n⟩
  . exact .inr h
 |.lst xs,v,h=>by
  simp only[Rel]at h ⊢;obtain⟨a,i,f,b,e⟩:=h;refine⟨a,i,f,?_,aj.hide j xs e⟩;have out:∀{u:HO},H a=some u->a ∉ ι.hd->a ∉ (Ix.hide ι p).hd:=λh k z=>by
    rcases Zx.mp z with z|z
    . exact aK h j z
    . exact k z
  rcases b with⟨h|⟨u,h⟩,n,k⟩|h
  . exact .inl ⟨.inl (by rw[aC (aK h j)];exact h),n,out h k⟩
  . exact .inl ⟨.inr ⟨u,by rw[aC (aK h j)];exact h⟩,n,out h k⟩
  . exact .inr h
 |.dZ,v,h=>by simp only[Rel]at h ⊢;obtain⟨a,f,b,e⟩:=h;exact⟨a,f,by rw[aC (aK b j)];exact b,e⟩
 |.ref n,v,h=>by simpa[Rel,Ix.hide,d5]using h|.aX n,v,h=>by simpa[Rel,Ix.hide,d5]using h|.fn x ds,v,h=>by simp only[Rel]at h ⊢;obtain⟨a,i,f,b,e⟩:=h;exact⟨a,i,f,b.mono λc u z q=>⟨by rw[aC (aK q.1 j)];exact q.1,q.2.1,λy z=>(Zx.mp z).elim (aK q.1 j) (q.2.2 y)⟩,aj.hide j ds e⟩
theorem aj.hide {K H ι p o}(f:H p=none):∀(ds:List D) {vs:List V},aj K H ι ds vs->aj K (upd H p o) (Ix.hide ι p) ds vs
 | [],vs,h=>by simpa[aj]using h|d::ds,vs,h=>by simp only[aj]at h ⊢;obtain⟨v,c,e,b,a⟩:=h;exact⟨v,c,e,Rel.hide f d b,aj.hide f ds a⟩
end
mutual
theorem Rel.grow {K H ι p us ws}(j:H p=some (.lst us)):∀(d:D) {v:V},Rel K H (Ix.hide ι p) d v->Rel K (upd H p (.lst ws)) (Ix.hide ι p) d v
 |.ay,v,h=>by simpa[Rel]using h|.bl _,v,h=>by simpa[Rel]using h|.int _,v,h=>by simpa[Rel]using h|.str _,v,h=>by simpa[Rel]using h
 |.tup xs,v,h=>by
  simp only[Rel]at h ⊢;obtain⟨a,i,f,b,e⟩:=h;refine⟨a,i,f,?_,aj.grow j xs e⟩;rcases b with⟨h|⟨u,h⟩,n⟩|h
  . exact .inl ⟨.inl (by rw[aC (pq h j (by simp))];exact h),n⟩
  . exact .inl ⟨.inr ⟨u,by rw[aC (pq h j (by simp))];exact h⟩,n⟩
  . exact .inr h
 |.lst xs,v,h=>by
  simp only[Rel]at h ⊢;obtain⟨a,i,f,b,e⟩:=h;refine⟨a,i,f,?_,aj.grow j xs e⟩;rcases b with⟨h,n,k⟩|h
  . have ne:a≠p:=λz=>k (by rw[z];exact ZU)
    rcases h with h|⟨u,h⟩
    . exact .inl ⟨.inl (by rw[aC ne];exact h),n,k⟩
    . exact .inl ⟨.inr ⟨u,by rw[aC ne];exact h⟩,n,k⟩
  . exact .inr h
 |.dZ,v,h=>by simp only[Rel]at h ⊢;obtain⟨a,f,b,e⟩:=h;exact⟨a,f,by rw[aC (pq b j (by simp))];exact b,e⟩
 |.ref n,v,h=>by simpa[Rel,Ix.hide,d5]using h|.aX n,v,h=>by simpa[Rel,Ix.hide,d5]using h|.fn x ds,v,h=>by simp only[Rel]at h ⊢;obtain⟨a,i,f,b,e⟩:=h;exact⟨a,i,f,b.mono λc u z q=>⟨by rw[aC (pq q.1 j (λy=>by rw[y]at z;cases z))];exact q.1,q.2⟩,aj.grow j ds e⟩
theorem aj.grow {K H ι p us ws}(f:H p=some (.lst us)):∀(ds:List D) {vs:List V},aj K H (Ix.hide ι p) ds vs->aj K (upd H p (.lst ws)) (Ix.hide ι p) ds vs
 | [],vs,h=>by simpa[aj]using h|d::ds,vs,h=>by simp only[aj]at h ⊢;obtain⟨v,c,e,b,a⟩:=h;exact⟨v,c,e,Rel.grow f d b,aj.grow f ds a⟩
end
theorem aw.hide {K H ι p o g}(u:H p=none)(h:aw K H ι g):aw K (upd H p o) (Ix.hide ι p) g :=
 ⟨h.nd,h.len,λb c=>by
  rcases Zx.mp c with rfl|c
  . exact⟨h.fresh u,by rw[aP];simp⟩
  . refine⟨(h.cH b c).1,?_⟩
    by_cases e:b=p
    . subst e;rw[aP];simp
    . rw[aC e];exact(h.cH b c).2,λi xs q=>by
  obtain⟨a,o,l,r,j,s,k⟩:=h.at_ i xs q;exact⟨a,o,l,r,by rw[aC (aK j u)];exact j,s,aj.hide u xs k⟩,λq f=>⟨by rw[aC (aK (h.tb q f).1 u)];exact(h.tb q f).1,(h.tb q f).2⟩⟩
theorem aw.show {K H ι p g}(h:aw K H (Ix.hide ι p) g):aw K H ι g :=
 ⟨h.nd,h.len,λb l=>h.cH b (Zz _ l),λi xs q=>by obtain⟨a,o,e,j,f,k,c⟩:=h.at_ i xs q;exact⟨a,o,e,j,f,k,aj.show xs c⟩,h.tb⟩
theorem aw.grow {K H ι p us ws g}(u:H p=some (.lst us))(h:aw K H (Ix.hide ι p) g):aw K (upd H p (.lst ws)) (Ix.hide ι p) g :=
 ⟨h.nd,h.len,λb j=>⟨(h.cH b j).1,by
   by_cases e:b=p
   . subst e;rw[aP];simp
   . rw[aC e];exact(h.cH b j).2⟩,λi xs q=>by
  obtain⟨a,o,l,f,r,s,k⟩:=h.at_ i xs q;refine⟨a,o,l,f,?_,s,aj.grow u xs k⟩;rw[aC (λe=>(h.cH p ZU).1 (by rw[<- e];exact ZP f))];exact r,λq c=>⟨by rw[aC (pq (h.tb q c).1 u (by simp))];exact(h.tb q c).1,(h.tb q c).2⟩⟩
abbrev FE:=Sg->G->Option (D×G)
abbrev FT:=Sg->G->Option (Bool×G)
abbrev FA:=Sg->G->Option (List D×G)
def fF (K:KW)(H:Hp)(ι:Ix)(d:D)(g':G)(Q:VK):Prop:=∀H' ι' v,Ext H ι H' ι'->aw K H' ι' g'->Rel K H' ι' d v->Q v H'
def OP (K:KW)(H:Hp)(ι:Ix)(ds:List D)(g':G)(Q:List V->Hp->Prop):Prop:=∀H' ι' vs,Ext H ι H' ι'->aw K H' ι' g'->aj K H' ι' ds vs->Q vs H'
def pL (K:KW)(H:Hp)(ι:Ix)(g':G)(Q:Hp->Prop):Prop:=∀H' ι',Ext H ι H' ι'->aw K H' ι' g'->Q H'
inductive tD (K:KW)(f:FE)(σ:L2.St)(H:Hp)(Q:VK):Prop
 |mk (ι:Ix) (σd:Sg) (g:G) (d:D) (g':G) (h0:aw K H ι g) (h1:bH K H ι σd σ) (h2:f σd g=some (d,g')) (h3:fF K H ι d g' Q):tD K f σ H Q
inductive ib (K:KW)(f:FA)(σ:L2.St)(H:Hp)(Q:(List V->Hp->Prop)):Prop
 |mk (ι:Ix) (σd:Sg) (g:G) (d:List D) (g':G) (h0:aw K H ι g) (h1:bH K H ι σd σ) (h2:f σd g=some (d,g')) (h3:OP K H ι d g' Q):ib K f σ H Q
inductive kF (K:KW)(f:FT)(σ:L2.St)(H:Hp)(Q:(Bool->Hp->Prop)):Prop
 |mk (ι:Ix) (σd:Sg) (g:G) (b:Bool) (g':G) (h0:aw K H ι g) (h1:bH K H ι σd σ) (h2:f σd g=some (b,g')) (h3:pL K H ι g' (Q b)):kF K f σ H Q
structure DE (X:Cx)(e:Expr)(f:FE):Prop where of ::
 un:PE X e (tD X.kw f)
structure DA (X:Cx)(es:List Expr)(f:FA):Prop where of ::
 un:PA X es (ib X.kw f)
structure DT (X:Cx)(e:Expr)(f:FT):Prop where of ::
 un:PT X e (kF X.kw f)
structure DW (X:Cx)(e:Expr)(f:FT):Prop where of ::
 un:PW X e (kF X.kw f)
theorem PE.imp {X:Cx}{e:Expr}{t t':TE}(h:PE X e t)(i:∀σ H Q,t' σ H Q->t σ H Q):PE X e t':=λa8 s σ H Q I q=>h a8 s σ H Q I (i σ H Q q)
theorem PT.imp {X:Cx}{e:Expr}{t t':TT}(h:PT X e t)(i:∀σ H Q,t' σ H Q->t σ H Q):PT X e t':=λa8 s σ H Q I q=>h a8 s σ H Q I (i σ H Q q)
theorem PW.imp {X:Cx}{e:Expr}{t t':TT}(h:PW X e t)(i:∀σ H Q,t' σ H Q->t σ H Q):PW X e t':=λw a8 s σ H Q I q=>h w a8 s σ H Q I (i σ H Q q)
theorem PA.imp {X:Cx}{e:List Expr}{t t':TA}(h:PA X e t)(i:∀σ H Q,t' σ H Q->t σ H Q):PA X e t':=λpos a8 s σ H Q I q=>h pos a8 s σ H Q I (i σ H Q q)
theorem fF.mono {K H ι h f d g' Q}(e:Ext H ι h f)(p:fF K H ι d g' Q):fF K h f d g' Q:=λa c v b r q=>p a c v (e.trans b) r q
theorem pL.mono {K H ι h f g' Q}(e:Ext H ι h f)(p:pL K H ι g' Q):pL K h f g' Q:=λa c b r=>p a c (e.trans b) r
theorem tD.bind {K f}{σ:L2.St}{H:Hp}{Q:VK}{ι c g d g'}(G0:aw K H ι g)(i:bH K H ι c σ)(h:f c g=some (d,g'))
  (k:∀H1 ι1 v,Ext H ι H1 ι1->aw K H1 ι1 g'->bH K H1 ι1 c σ->Rel K H1 ι1 d v->Q v H1):tD K f σ H Q :=
 ⟨ι,c,g,d,g',G0,i,h,λa b v e r q=>k a b v e r (i.ext e) q⟩
theorem ib.bind {K f}{σ:L2.St}{H:Hp}{Q:List V->Hp->Prop}{ι c g d g'}(G0:aw K H ι g)(i:bH K H ι c σ)(h:f c g=some (d,g'))
  (k:∀H1 ι1 v,Ext H ι H1 ι1->aw K H1 ι1 g'->bH K H1 ι1 c σ->aj K H1 ι1 d v->Q v H1):ib K f σ H Q :=
 ⟨ι,c,g,d,g',G0,i,h,λa b v e r q=>k a b v e r (i.ext e) q⟩
theorem kF.bind {K f}{σ:L2.St}{H:Hp}{Q:Bool->Hp->Prop}{ι c g d g'}(G0:aw K H ι g)(i:bH K H ι c σ)(h:f c g=some (d,g'))
  (k:∀H1 ι1,Ext H ι H1 ι1->aw K H1 ι1 g'->bH K H1 ι1 c σ->Q d H1):kF K f σ H Q :=
 ⟨ι,c,g,d,g',G0,i,h,λa b e r=>k a b e r (i.ext e)⟩
section
variable {X:Cx}{a b c e:Expr}{es rest:List Expr}{pos:Pos}{fa fb fc:FE}{fr:FA}{ga gb:FT}
noncomputable def fC (d:D):FE:=λ_ g=>some (d,g)
noncomputable def af (i:Nat):FE:=λσ g=>match σ[i]? with|some (some d)=>some (d,g)|_=>none
theorem KZ {i j pos}:DE X (.Constant (.int i) j pos) (fC (.int i)):=.of (PE.imp JL λσ H Q h=>by obtain⟨ι,b,g,d,a,G0,c,h,p⟩:=h;cases h;exact p H ι _ Ext.refl G0 (by simp[Rel]))
theorem K0 {i j pos}:DE X (.Constant (.str i) j pos) (fC (.str i)):=.of (PE.imp JN λσ H Q h=>by obtain⟨ι,b,g,d,a,G0,c,h,p⟩:=h;cases h;exact p H ι _ Ext.refl G0 (by simp[Rel]))
theorem OQ {i j pos}:DE X (.Constant (.bool i) j pos) (fC (.bl i)):=.of (PE.imp Oq λσ H Q h=>by obtain⟨ι,b,g,d,a,G0,c,h,p⟩:=h;cases h;exact p H ι _ Ext.refl G0 (by simp[Rel]))
theorem K1 {j pos}:DE X (.Constant .none j pos) (fC .ay):=.of (PE.imp JM λσ H Q h=>by obtain⟨ι,b,g,d,a,G0,c,h,p⟩:=h;cases h;exact p H ι _ Ext.refl G0 (by simp[Rel]))
theorem K2 (i:Nat){x:Str}{pos:Pos}(k:X.N[i]? = some x:=by rfl)(q:AS X.env.scope x:=by first|exact Or.inl rfl|exact Or.inr (Or.inl rfl)|exact Or.inr (Or.inr rfl))(l:(x == ("__debug__":Str))=false:=by decide)
   (o:(x == ("__classdict__":Str))=false:=by decide):DE X (.Name x pos) (af i):=.of (PE.imp (JK k q l o) λσ H Q h=>by
 obtain⟨ι,j,g,d,g',G0,f,h,p⟩:=h;unfold af at h;split at h
 . rename_i c e
   obtain⟨rfl,rfl⟩:c=d/\g=g':=by cases h;exact⟨rfl,rfl⟩
   obtain⟨v,b,a⟩:=f.2 i _ e;exact⟨v,b,p H ι v Ext.refl G0 a⟩
 . cases h)
theorem HG {x:Str}{v:V}{u:Value}{d:D}(f:Gl X x)(j:X.mg x=some u)(r:RelV v u)(rd:∀K H ι,Rel K H ι d v)(i:(x == ("__debug__":Str))=false:=by decide):DE X (.Name x pos) (fC d):=.of (
 PE.imp (qJ f j r i) λσ H Q h=>by obtain⟨ι,b,g,d,a,G0,c,h,p⟩:=h;cases h;exact p H ι _ Ext.refl G0 (rd _ _ _))
inductive dH (K:KW)(o:D->D->G->Option (D×G))(x:V)(y:V)(H:Hp)(Q:VK):Prop
 |mk (ι:Ix) (g:G) (d1:D) (d2:D) (d:D) (g':G) (h0:aw K H ι g) (h1:Rel K H ι d1 x) (h2:Rel K H ι d2 y) (h3:o d1 d2 g=some (d,g')) (h4:fF K H ι d g' Q):dH K o x y H Q
inductive K3 (K:KW)(o:D->G->Option (D×G))(x:V)(H:Hp)(Q:VK):Prop
 |mk (ι:Ix) (g:G) (d1:D) (d:D) (g':G) (h0:aw K H ι g) (h1:Rel K H ι d1 x) (h2:o d1 g=some (d,g')) (h3:fF K H ι d g' Q):K3 K o x H Q
inductive jY (K:KW)(o:List D->G->Option (D×G))(xs:List V)(H:Hp)(Q:VK):Prop
 |mk (ι:Ix) (g:G) (ds:List D) (d:D) (g':G) (h0:aw K H ι g) (h1:aj K H ι ds xs) (h2:o ds g=some (d,g')) (h3:fF K H ι d g' Q):jY K o xs H Q
noncomputable def ak (o:D->D->G->Option (D×G))(fa fb:FE):FE:=λσ g=>(fa σ g).bind λr=>(fb σ r.2).bind λq=>o r.1 q.1 q.2
noncomputable def pM (o:D->G->Option (D×G))(fa:FE):FE:=λσ g=>(fa σ g).bind λr=>o r.1 r.2
theorem bind_some {j i:Type}{x:Option j}{f:j->Option i}{b:i}(h:x.bind f=some b):∃a,x=some a/\f a=some b:=by
 cases x with
 |none=>cases h|some a=>exact⟨a,rfl,h⟩
theorem pN {K}{o:D->D->G->Option (D×G)}{σ:L2.St}{H:Hp}{Q:VK}(h:tD K (ak o fa fb) σ H Q):A5 (dH K o) (tD K fa) (tD K fb) σ H Q:=by obtain⟨ι,z,g,d,l,G0,r,h,p⟩:=h;obtain⟨⟨i,g1⟩,q,h⟩:=bind_some h;obtain⟨⟨y,g2⟩,b,h⟩:=bind_some h;refine tD.bind G0 r q λH1 ι1 v f k c j=>?_;refine tD.bind k c b λH2 e u a s S2 x=>?_;exact⟨e,g2,i,y,d,l,s,Rel.ext a _ j,x,h,p.mono (f.trans a)⟩
theorem jZ {op:acS}{o:D->D->G->Option (D×G)}(f:bK X (aaH op) (dH X.kw o))(i:DE X a fa)(j:DE X b fb):DE X (.BinOp a op b pos) (ak o fa fb):=.of (
 PE.imp (OC f i.un j.un) λσ H Q h=>pN h)
theorem K4 {op:CmpOp}{o:D->D->G->Option (D×G)}(f:bK X (aaB op) (dH X.kw o))(j:DE X a fa)(k:DE X b fb)(i:adi op b=false:=by first|exact K5 _|with_unfolding_all rfl):DE X (.Compare a [op] [b] pos) (ak o fa fb):=.of (
 PE.imp (Hm f j.un k.un i) λσ H Q h=>pN h)
theorem OR {op:UnaryOp}{o:D->G->Option (D×G)}(u:A4 X (unaryOp op) (K3 X.kw o))(s:DE X a fa):DE X (.UnaryOp op a pos) (pM o fa):=.of (
 PE.imp (OD u s.un) λσ H Q h=>by obtain⟨ι,q,g,d,j,G0,l,h,p⟩:=h;obtain⟨⟨c,g1⟩,k,h⟩:=bind_some h;refine tD.bind G0 l k λH1 i v b f r e=>?_;exact⟨i,g1,c,d,j,f,e,h,p.mono b⟩)
noncomputable def d6 (r:Option (D×G)):Option (Bool×G):=r.bind λr=>match r.1 with|.bl b=>some (b,r.2)|_=>none
theorem vb {r:Option (D×G)}{b:Bool}{g:G}(h:d6 r=some (b,g)):r=some (.bl b,g):=by
 obtain⟨⟨d,g1⟩,a,h⟩:=bind_some h;cases d with
 |bl k=>cases h;exact a|_=>cases h
noncomputable def aD (f:FE):FT:=λσ g=>d6 (f σ g)
theorem D4 {K f}{σ:L2.St}{H:Hp}{Q:Bool->Hp->Prop}(h:kF K (aD f) σ H Q):t8 (tD K f) σ H Q:=by
 obtain⟨ι,o,g,b,r,G0,l,h,p⟩:=h;obtain⟨⟨d,g1⟩,j,h⟩:=bind_some h;cases d with
 |bl k =>
  cases h;exact tD.bind G0 l j λH1 i v a e q c=>⟨b,by simpa[Rel]using c,p H1 i a e⟩
 |_=>cases h
theorem zB {t t':TE}(i:∀σ H Q,t' σ H Q->t σ H Q){σ:L2.St}{H:Hp}{Q:Bool->Hp->Prop}(h:t8 t' σ H Q):t8 t σ H Q:=i σ H _ h
theorem K6 {op:CmpOp}{o:D->D->G->Option (D×G)}(f:bK X (aaB op) (dH X.kw o))(j:DE X a fa)(k:DE X b fb)(i:adi op b=false:=by first|exact K5 _|with_unfolding_all rfl):DT X (.Compare a [op] [b] pos) (aD (ak o fa fb)):=.of (
 PT.imp (Hn f j.un k.un i) λσ H Q h=>zB (λ_ _ _=>pN) (D4 h))
noncomputable def iY (d:D)(g:G):Option Bool:=match d with
 |.ay=>some false|.bl b=>some b|.int i=>some (i != 0)|.tup xs=>some (!xs.isEmpty)|.lst xs=>some (!xs.isEmpty)|.dZ=>some false|.ref n=>match g[n]? with|some xs=>some (!xs.isEmpty)|none=>none
 |.str _=>none|.aX _=>none|.fn _ _=>none
noncomputable def oP (f:FE):FT:=λσ g=>(f σ g).bind λr=>(iY r.1 r.2).map λb=>(b,r.2)
theorem aj.isEmpty {K H ι}{ds:List D}{vs:List V}(h:aj K H ι ds vs):ds.isEmpty=vs.isEmpty:=by have:=h.length;cases ds<;>cases vs<;>simp_all
theorem xJ {K H ι g d v b}(G0:aw K H ι g)(r:Rel K H ι d v)(h:iY d g=some b):DL K v H b:=by
 cases d with
 |ay=>simp only[Rel]at r;subst r;cases h;rfl|bl x=>simp only[Rel]at r;subst r;cases h;rfl|int x=>simp only[Rel]at r;subst r;cases h;rfl|str x=>cases h
 |tup xs =>
  simp only[Rel]at r;obtain⟨a,f,rfl,c,i⟩:=r;cases h;exact .inr (.inl ⟨f,c.sq,by rw[i.isEmpty]⟩)
 |lst xs =>
  simp only[Rel]at r;obtain⟨a,f,rfl,c,i⟩:=r;cases h;exact .inl ⟨f,c.sq,by rw[i.isEmpty]⟩
 |dZ =>
  simp only[Rel]at r;obtain⟨a,rfl,c,_⟩:=r;cases h;exact .inr (.inr ⟨[],c,rfl⟩)
 |ref n =>
  simp only[Rel]at r;obtain⟨a,rfl,k⟩:=r;simp only[iY]at h;split at h
  . rename_i xs e
    cases h;obtain⟨f,l,j⟩:=G0.at e k;exact .inl ⟨f,.of l,by rw[j.isEmpty]⟩
  . cases h
 |aX n=>cases h|fn x=>cases h
theorem K7 (u:DE X a fa)(s:∀whole,isTrue a X.env whole=(do let v <- whole;afe a.pos;ab3 [v] (truthy v)):=by intro _;rfl):DT X a (oP fa):=.of (
 PT.imp (DM u.un s) λσ H Q h=>by
  obtain⟨ι,o,g,b,r,G0,l,h,p⟩:=h;obtain⟨⟨d,g1⟩,j,h⟩:=bind_some h;cases ht:iY d g1 with
  |none=>rw[ht]at h;cases h
  |some k =>
   rw[ht]at h;cases h;exact tD.bind G0 l j λH1 i v e c q f=>⟨b,xJ c f ht,p H1 i e c⟩)
noncomputable def qT (ga gb:FT):FT:=λσ g=>(ga σ g).bind λr=>if r.1=true then gb σ r.2 else some (false,r.2)
noncomputable def Bu (ga gb:FT):FT:=λσ g=>(ga σ g).bind λr=>if r.1=true then some (true,r.2)else gb σ r.2
noncomputable def D5 (ga:FT):FT:=λσ g=>(ga σ g).bind λr=>some (!r.1,r.2)
theorem HH (f:DT X a ga):DW X (.BoolOp .And [a] pos) ga:=.of (Hc f.un)
theorem K8 (f:DT X a ga):DW X (.BoolOp .Or [a] pos) ga:=.of (JO f.un)
theorem K9 (s:DT X a ga)(u:DW X (.BoolOp .And (b::rest) pos) gb):DW X (.BoolOp .And (a::b::rest) pos) (qT ga gb):=.of (
 PW.imp (JP s.un u.un) λσ H Q h=>by
  obtain⟨ι,i,g,k,o,G0,r,h,p⟩:=h;obtain⟨⟨l,g1⟩,q,h⟩:=bind_some h;refine kF.bind G0 r q λH1 f c e j=>?_;cases l with
  |true=>simp only[if_true]at h ⊢;exact⟨f,i,g1,k,o,e,j,h,p.mono c⟩|false=>simp only[ZJ,if_false]at h ⊢;cases h;exact p H1 f c e)
theorem OS (s:DT X a ga)(u:DW X (.BoolOp .Or (b::rest) pos) gb):DW X (.BoolOp .Or (a::b::rest) pos) (Bu ga gb):=.of (
 PW.imp (Ot s.un u.un) λσ H Q h=>by
  obtain⟨ι,i,g,k,o,G0,r,h,p⟩:=h;obtain⟨⟨l,g1⟩,q,h⟩:=bind_some h;refine kF.bind G0 r q λH1 f c e j=>?_;cases l with
  |false=>simp only[ZJ,if_false]at h ⊢;exact⟨f,i,g1,k,o,e,j,h,p.mono c⟩|true=>simp only[if_true]at h ⊢;cases h;exact p H1 f c e)
theorem DW.dt (h:DW X a ga):DT X a ga:=.of (PW.pt h.un)
theorem K_ (r:DT X a ga):DT X (.UnaryOp .Not a pos) (D5 ga):=.of (
 PT.imp (JQ r.un) λσ H Q h=>by obtain⟨ι,j,g,k,q,G0,i,h,p⟩:=h;obtain⟨⟨o,g1⟩,f,h⟩:=bind_some h;cases h;exact kF.bind G0 i f λH1 e b c l=>p H1 e b c)
noncomputable def uc (fa fb:FE):FE:=λσ g=>(d6 (fa σ g)).bind λr=>if r.1=true then fb σ r.2 else some (.bl false,r.2)
noncomputable def D6 (fa fb:FE):FE:=λσ g=>(d6 (fa σ g)).bind λr=>if r.1=true then some (.bl true,r.2)else fb σ r.2
theorem La {op}(h:DE X a fa):DE X (.BoolOp op [a] pos) fa:=.of (JR h.un)
theorem Bv (s:DE X a fa)(u:DE X (.BoolOp .And (b::rest) pos) fb):DE X (.BoolOp .And (a::b::rest) pos) (uc fa fb):=.of (
 PE.imp (JS s.un u.un) λσ H Q h=>by
  obtain⟨ι,k,g,d,q,G0,r,h,p⟩:=h;obtain⟨⟨e,g1⟩,c,h⟩:=bind_some h;have c:=vb c;refine tD.bind G0 r c λH1 j v f i l o=>⟨e,by simpa[Rel]using o,?_⟩
  cases e with
  |true=>simp only[if_true]at h ⊢;exact⟨j,k,g1,d,q,i,l,h,p.mono f⟩|false=>simp only[ZJ,if_false]at h ⊢;cases h;exact p H1 j _ f i (by simp[Rel]))
theorem OT (s:DE X a fa)(u:DE X (.BoolOp .Or (b::rest) pos) fb):DE X (.BoolOp .Or (a::b::rest) pos) (D6 fa fb):=.of (
 PE.imp (Ov s.un u.un) λσ H Q h=>by
  obtain⟨ι,k,g,d,q,G0,r,h,p⟩:=h;obtain⟨⟨e,g1⟩,c,h⟩:=bind_some h;have c:=vb c;refine tD.bind G0 r c λH1 j v f i l o=>⟨e,by simpa[Rel]using o,?_⟩
  cases e with
  |false=>simp only[ZJ,if_false]at h ⊢;exact⟨j,k,g1,d,q,i,l,h,p.mono f⟩|true=>simp only[if_true]at h ⊢;cases h;exact p H1 j _ f i (by simp[Rel]))
noncomputable def jC (ga:FT)(fa fb:FE):FE:=λσ g=>(ga σ g).bind λr=>if r.1=true then fa σ r.2 else fb σ r.2
theorem Lb (x:DT X c ga)(u:DE X a fa)(s:DE X b fb):DE X (.IfExp c a b pos) (jC ga fa fb):=.of (
 PE.imp (Dx x.un u.un s.un) λσ H Q h=>by
  obtain⟨ι,e,g,d,l,G0,r,h,p⟩:=h;obtain⟨⟨o,g1⟩,q,h⟩:=bind_some h;refine kF.bind G0 r q λH1 k i j f=>?_;cases o with
  |true=>simp only[if_true]at h ⊢;exact⟨k,e,g1,d,l,j,f,h,p.mono i⟩|false=>simp only[ZJ,if_false]at h ⊢;exact⟨k,e,g1,d,l,j,f,h,p.mono i⟩)
noncomputable def ag:FA:=λ_ g=>some ([],g)
noncomputable def aa (fa:FE)(fr:FA):FA:=λσ g=>(fa σ g).bind λr=>(fr σ r.2).bind λq=>some (r.1::q.1,q.2)
theorem Bw:DA X [] ag:=.of (PA.imp mN λσ H Q h=>by obtain⟨ι,b,g,d,a,G0,c,h,p⟩:=h;cases h;exact p H ι _ Ext.refl G0 (by simp[aj]))
theorem qU (B:DE X e fa)(C:DA X es fr)(A:ZO (e::es) X.env=(false,eval e X.env)::ZO es X.env:=by rfl):DA X (e::es) (aa fa fr):=.of (
 PA.imp (kB B.un C.un A) λσ H Q h=>by obtain⟨ι,x,g,d,g',G0,q,h,p⟩:=h;obtain⟨⟨y,g1⟩,o,h⟩:=bind_some h;obtain⟨⟨d2,g2⟩,b,h⟩:=bind_some h;cases h;refine tD.bind G0 q o λH1 z v i k c j=>?_;refine ib.bind k c b λl f u a r S2 s=>?_;refine p l f _ (i.trans a) r ?_;simp only[aj];exact⟨_,_,rfl,Rel.ext a _ j,s⟩)
noncomputable def aA (n:Nat):Bool:=decide (n<=16777216)
theorem aA.le {n:Nat}(h:aA n=true):n<=ZM:=by rw[abC];exact of_decide_eq_true h
noncomputable def az (ds:List D)(g:G):Option (D×G):=if aA ds.length=true then some (.tup ds,g)else none
noncomputable def gv (ds:List D)(g:G):Option (D×G):=if aA ds.length=true then some (.lst ds,g)else none
noncomputable def mkRef (ds:List D)(g:G):Option (D×G):=if aA ds.length=true then some (.ref g.length,g ++ [ds])else none
theorem D7 {K H ι g ds vs d g' Q}(G0:aw K H ι g)(r:aj K H ι ds vs)(h:az ds g=some (d,g'))(p:fF K H ι d g' Q):vs.length<=ZM /\ ∀q,H q=none->Q (.ref q) (upd H q (.tup vs)):=by
 unfold az at h;split at h
 . rename_i z
   cases h;refine⟨by rw[<- r.length];exact aA.le z,λq a=>p _ _ _ (Ext.lay a) (G0.lay a) ?_⟩;simp only[Rel];exact⟨q,vs,rfl,.inl ⟨.inl aP,G0.fresh a⟩,aj.ext (Ext.lay a) _ r⟩
 . cases h
theorem D8 {K H ι g ds vs d g' Q}(G0:aw K H ι g)(r:aj K H ι ds vs)(h:gv ds g=some (d,g'))(p:fF K H ι d g' Q):vs.length<=ZM /\ ∀q,H q=none->Q (.ref q) (upd H q (.lst vs)):=by
 unfold gv at h;split at h
 . rename_i z
   cases h;refine⟨by rw[<- r.length];exact aA.le z,λq a=>p _ _ _ (Ext.lay a) (G0.lay a) ?_⟩;simp only[Rel];exact⟨q,vs,rfl,.inl ⟨.inl aP,G0.fresh a,G0.gY a⟩,aj.ext (Ext.lay a) _ r⟩
 . cases h
theorem D9 {K H ι g ds vs d g' Q}(G0:aw K H ι g)(r:aj K H ι ds vs)(h:mkRef ds g=some (d,g'))(p:fF K H ι d g' Q):vs.length<=ZM /\ ∀q,H q=none->Q (.ref q) (upd H q (.lst vs)):=by
 unfold mkRef at h;split at h
 . rename_i z
   cases h;refine⟨by rw[<- r.length];exact aA.le z,λq a=>p _ _ _ (Ext.push a) (G0.push a r) ?_⟩;simp only[Rel];exact⟨q,rfl,d5.new G0.len⟩
 . cases h
noncomputable def aJ (m:List D->G->Option (D×G))(fr:FA):FE:=λσ g=>(fr σ g).bind λr=>m r.1 r.2
theorem Bx {q}(h:DA X es fr):DE X (.Tuple es q pos) (aJ az fr):=.of (PE.imp (Km h.un) λσ H Q h=>by obtain⟨ι,i,g,d,o,G0,f,h,p⟩:=h;obtain⟨⟨k,g1⟩,e,h⟩:=bind_some h;exact ib.bind G0 f e λH1 l v a c j b=>D7 c b h (p.mono a))
theorem Lc (h:DA X es fr):DE X (.List es pos) (aJ gv fr):=.of (PE.imp (A9 h.un) λσ H Q h=>by obtain⟨ι,i,g,d,o,G0,f,h,p⟩:=h;obtain⟨⟨k,g1⟩,e,h⟩:=bind_some h;exact ib.bind G0 f e λH1 l v a c j b=>D8 c b h (p.mono a))
theorem Ld (h:DA X es fr):DE X (.List es pos) (aJ mkRef fr):=.of (PE.imp (A9 h.un) λσ H Q h=>by obtain⟨ι,i,g,d,o,G0,f,h,p⟩:=h;obtain⟨⟨k,g1⟩,e,h⟩:=bind_some h;exact ib.bind G0 f e λH1 l v a c j b=>D9 c b h (p.mono a))
end
inductive F where
 |nx|rt (d:D)|bk|ct
abbrev FS:=Sg->G->Option (F×Sg×G)
noncomputable def ud (K:KW)(H:Hp)(ι:Ix)(r:F)(b:Sg)(g':G)(a:Ends):Prop :=
 ∀H' ι',Ext H ι H' ι'->aw K H' ι' g'->match r with
  |.nx=>∀σ',bH K H' ι' b σ'->a.nx σ' H'|.bk=>∀σ',bH K H' ι' b σ'->a.bk σ' H'|.ct=>∀σ',bH K H' ι' b σ'->a.ct σ' H'|.rt d=>∀v,Rel K H' ι' d v->a.rt v H'
inductive FJ (K:KW)(f:FS)(Dn:Ends)(σ:L2.St)(H:Hp):Prop
 |mk (ι:Ix) (σd:Sg) (g:G) (r:F) (cj:Sg) (g':G) (h0:aw K H ι g) (h1:bH K H ι σd σ) (h2:f σd g=some (r,cj,g')) (h3:ud K H ι r cj g' Dn):FJ K f Dn σ H
structure DS (X:Cx)(st:Stmt)(f:FS):Prop where of ::
 un:PS X st (FJ X.kw f)
structure kG (X:Cx)(oy:List Stmt)(f:FS):Prop where of ::
 un:gU X oy (FJ X.kw f)
theorem PS.imp {X:Cx}{e:Stmt}{t t':TS}(h:PS X e t)(i:∀Dn σ H,t' Dn σ H->t Dn σ H):PS X e t':=λa8 s σ H Q I q=>h a8 s σ H Q I (i Q σ H q)
theorem gU.imp {X:Cx}{e:List Stmt}{t t':TS}(h:gU X e t)(i:∀Dn σ H,t' Dn σ H->t Dn σ H):gU X e t':=λa8 s σ H Q I q=>h a8 s σ H Q I (i Q σ H q)
theorem ud.mono {K H ι j h r i g' Dn}(e:Ext H ι j h)(p:ud K H ι r i g' Dn):ud K j h r i g' Dn:=λa c b f=>p a c (e.trans b) f
noncomputable def aQ:FS:=λσ g=>some (.nx,σ,g)
noncomputable def ax (f1 f2:FS):FS:=λσ g=>(f1 σ g).bind λr=>match r.1 with|.nx=>f2 r.2.1 r.2.2|_=>some r
noncomputable def aI (f:FE):FS:=λσ g=>(f σ g).bind λr=>some (.rt r.1,σ,r.2)
noncomputable def lE (f:FE):FS:=λσ g=>(f σ g).bind λr=>some (.nx,σ,r.2)
noncomputable def bP (c:FT)(f1 f2:FS):FS:=λσ g=>(c σ g).bind λr=>if r.1=true then f1 σ r.2 else f2 σ r.2
section
variable {X:Cx}{st:Stmt}{rest:List Stmt}{f1 f2:FS}{e:Expr}{fe:FE}{pos:Pos}{gc:FT}
theorem HI:kG X [] aQ:=.of (gU.imp He λb σ H h=>by obtain⟨ι,e,g,r,f,c,G0,a,h,p⟩:=h;cases h;exact p H ι Ext.refl G0 σ a)
theorem D_ (u:DS X st f1)(x:kG X rest f2):kG X (st::rest) (ax f1 f2):=.of (gU.imp (Dy u.un x.un) λq σ H h=>by
 obtain⟨ι,i,g,r,k,l,G0,o,h,p⟩:=h;obtain⟨⟨f,e,g1⟩,u,h⟩:=bind_some h;refine⟨ι,i,g,f,e,g1,G0,o,u,λH1 c a b=>?_⟩;cases f with
 |nx=>exact λs j=>⟨c,e,g1,r,k,l,b,j,h,p.mono a⟩|bk=>cases h;exact p H1 c a b|ct=>cases h;exact p H1 c a b|rt d=>cases h;exact p H1 c a b)
theorem HJ (a:DS X st f1):kG X [st] f1:=.of (Hf a.un)
theorem HK:DS X (.Pass pos) aQ:=.of (PS.imp Hg λb σ H h=>by obtain⟨ι,e,g,r,f,c,G0,a,h,p⟩:=h;cases h;exact p H ι Ext.refl G0 σ a)
theorem Le (x:DE X e fe):DS X (.Return (some e) pos) (aI fe):=.of (PS.imp (JV x.un) λk σ H h=>by obtain⟨ι,l,g,r,s,u,G0,j,h,p⟩:=h;obtain⟨⟨q,g1⟩,i,h⟩:=bind_some h;cases h;exact tD.bind G0 j i λH1 f v a c o b=>p H1 f a c v b)
theorem HL (x:DE X e fe)(y:acA e none pos.line X.env=pure false:=by rfl):DS X (.Expr e pos) (lE fe):=.of (PS.imp (Hh x.un y) λk σ H h=>by obtain⟨ι,l,g,r,s,u,G0,j,h,p⟩:=h;obtain⟨⟨o,g1⟩,i,h⟩:=bind_some h;cases h;exact tD.bind G0 j i λH1 f v b c a q=>p H1 f b c σ a)
theorem Lf {x j pos i}:DS X (.Expr (.Constant (.str x) j pos) i) aQ:=.of (PS.imp JU λb σ H h=>by obtain⟨ι,e,g,r,f,c,G0,a,h,p⟩:=h;cases h;exact p H ι Ext.refl G0 σ a)
theorem OU {c:Expr}{a b:List Stmt}(y:DT X c gc)(z:kG X a f1)(A:kG X b f2):DS X (.If c a b pos) (bP gc f1 f2):=.of (PS.imp (Ox y.un z.un A.un) λx σ H h=>by
 obtain⟨ι,e,g,r,o,q,G0,u,h,p⟩:=h;obtain⟨⟨k,g1⟩,s,h⟩:=bind_some h;refine kF.bind G0 u s λH1 l i j f=>?_;cases k with
 |true=>simp only[if_true]at h ⊢;exact⟨l,e,g1,r,o,q,j,f,h,p.mono i⟩|false=>simp only[ZJ,if_false]at h ⊢;exact⟨l,e,g1,r,o,q,j,f,h,p.mono i⟩)
abbrev FG:=D->Sg->G->Option (Sg×G)
abbrev oz:=List D->Sg->G->Option (Sg×G)
inductive Lg (K:KW)(f:FG)(v:V)(σ:L2.St)(H:Hp)(Q:(L2.St->Hp->Prop)):Prop
 |mk (ι:Ix) (σd:Sg) (g:G) (d:D) (cj:Sg) (g':G) (h0:aw K H ι g) (h1:bH K H ι σd σ) (h2:Rel K H ι d v) (h3:f d σd g=some (cj,g')) (h4:∀H' ι' σ',Ext H ι H' ι'->aw K H' ι' g'->bH K H' ι' cj σ'->Q σ' H'):Lg K f v σ H Q
inductive Lh (K:KW)(f:oz)(v:List V)(σ:L2.St)(H:Hp)(Q:(L2.St->Hp->Prop)):Prop
 |mk (ι:Ix) (σd:Sg) (g:G) (d:List D) (cj:Sg) (g':G) (h0:aw K H ι g) (h1:bH K H ι σd σ) (h2:aj K H ι d v) (h3:f d σd g=some (cj,g')) (h4:∀H' ι' σ',Ext H ι H' ι'->aw K H' ι' g'->bH K H' ι' cj σ'->Q σ' H'):Lh K f v σ H Q
structure DG (X:Cx)(tg:Expr)(f:FG):Prop where of ::
 un:PG X tg (Lg X.kw f)
structure By (X:Cx)(tg:List Expr)(f:oz):Prop where of ::
 un:oa X tg (Lh X.kw f)
theorem PG.imp {X:Cx}{e:Expr}{t t':TG}(h:PG X e t)(i:∀v σ H Q,t' v σ H Q->t v σ H Q):PG X e t':=λa8 s σ H v u Q I r q=>h a8 s σ H v u Q I r (i v σ H Q q)
theorem oa.imp {X:Cx}{e:List Expr}{t t':r_}(h:oa X e t)(i:∀v σ H Q,t' v σ H Q->t v σ H Q):oa X e t':=λa8 s σ H v u Q I r q=>h a8 s σ H v u Q I r (i v σ H Q q)
noncomputable def gN (i:Nat):FG:=λd σ g=>some (σ.set i (some d),g)
theorem bH.set {K H ι c σ d v}(S:bH K H ι c σ)(r:Rel K H ι d v)(i:Nat):bH K H ι (c.set i (some d)) (σ.set i (some v)):=by
 refine⟨by simp[S.1],λj b q=>?_⟩;by_cases e:i=j
 . subst e
   have a:i < c.length:=by
    by_cases a:i < c.length
    . exact a
    . rw[ab2.mpr (by simpa using a)]at q;cases q
   rw[Z0 a]at q;cases q;exact⟨v,by rw[Z0 (by rw[<- S.1];exact a)],r⟩
 . rw[abm e]at q ⊢
   exact S.2 j b q
theorem HM {i:Nat}{x:Str}(f:X.N.Nodup)(k:X.N[i]? = some x)(l:Loc X.env.scope x)(j:X.fn x=true\/X.env.scope.names.lookup x=some .local:=by first|exact .inl rfl|exact .inr rfl|assumption):DG X (.Name x pos) (gN i):=.of (
 PG.imp (Hi f k l j) λv σ H Q h=>by obtain⟨ι,c,g,d,e,b,G0,a,r,h,p⟩:=h;cases h;exact p H ι _ Ext.refl G0 (a.set r i))
noncomputable def gw:oz:=λds σ g=>match ds with| []=>some (σ,g)|_=>none
noncomputable def cu (t:FG)(u:oz):oz:=λds σ g=>match ds with|d::r=>(t d σ g).bind λq=>u r q.1 q.2| []=>none
theorem HN:By X [] gw:=.of (oa.imp Hj λv σ H Q h=>by
 obtain⟨ι,c,g,d,e,b,G0,a,r,h,p⟩:=h;cases d with
 |nil=>cases h;simp only[aj]at r;exact⟨r,p H ι _ Ext.refl G0 a⟩|cons _ _=>cases h)
theorem Ea {e:Expr}{es:List Expr}{t:FG}{u:oz}(A:DG X e t)(B:By X es u)
  (C:(abb (e::es) X.env).map (·.2)=acF e X.env::(abb es X.env).map (·.2):=by rfl):By X (e::es) (cu t u):=.of (oa.imp (DC A.un B.un C) λv σ H Q h=>by
 obtain⟨ι,c,g,d,o,s,G0,z,r,h,p⟩:=h;cases d with
 |nil=>cases h
 |cons d ds =>
  simp only[aj]at r;obtain⟨v0,l,rfl,r0,j⟩:=r;obtain⟨⟨a,g1⟩,A,h⟩:=bind_some h;exact⟨v0,l,rfl,ι,c,g,d,a,g1,G0,z,r0,A,λH1 q σ' b k f=>⟨q,a,g1,ds,o,s,k,f,aj.ext b _ j,h,λy i σ2 x G2 S2=>p y i σ2 (b.trans x) G2 S2⟩⟩)
noncomputable def gT (n:Nat)(t:oz):FG:=λd σ g=>match d with|.tup xs=>if xs.length=n then t xs σ g else none|_=>none
theorem Li {es:List Expr}{k:Nat}{t:oz}{n:Nat}(q:X.calm=true)(h:By X es t)
  (o:(abb es X.env).length=n:=by rfl) (s:(abb es X.env).findIdx? (·.1)=none:=by rfl):DG X (.Tuple es k pos) (gT n t):=.of (PG.imp (JW q h.un o s) λv σ H Q h=>by
 obtain⟨ι,c,g,d,f,i,G0,j,r,h,p⟩:=h;cases d with
 |tup xs =>
  simp only[Rel]at r;obtain⟨a,e,rfl,l,b⟩:=r;simp only[gT]at h;split at h
  . rename_i z
    exact⟨a,e,rfl,l.sq,by rw[<- b.length];exact z,ι,c,g,xs,f,i,G0,j,b,h,p⟩
  . cases h
 |_=>cases h)
noncomputable def aF (f:FE)(t:FG):FS:=λσ g=>(f σ g).bind λr=>(t r.1 σ r.2).bind λq=>some (.nx,q.1,q.2)
theorem HP {K t}{fe:FE}{A σ H}(h:FJ K (aF fe t) A σ H):DD (tD K fe) (Lg K t) A σ H:=by obtain⟨ι,b,g,r,cj,g',G0,x,h,p⟩:=h;obtain⟨⟨j,g1⟩,u,h⟩:=bind_some h;obtain⟨⟨a,g2⟩,c,h⟩:=bind_some h;cases h;exact tD.bind G0 x u λH1 o v i l e k=>⟨o,b,g1,j,a,g2,l,e,k,c,λs f y q z S2=>p s f (i.trans q) z y S2⟩
theorem vd {tg:Expr}{t:FG}(f:DE X e fe)(c:DG X tg t)(i:acG [tg] e pos.line X.env=pure false:=by rfl)(hw:acd [tg] e X.env=pure none:=by rfl)
 (b:(abb [tg] X.env).map (·.2)= [acF tg X.env]:=by rfl):DS X (.Assign [tg] e pos) (aF fe t):=.of (PS.imp (JY f.un c.un i hw b) λa σ H h=>HP h)
theorem Bz {i:Nat}{x:Str}{z:Pos}(A:X.N.Nodup)(I:X.N[i]? = some x)(J:Loc X.env.scope x)(E:DE X e fe)(C:acA e (some (.Name x z)) pos.line X.env=pure false:=by rfl)(B:X.fn x=true\/X.env.scope.names.lookup x=some .local:=by first|exact .inl rfl|exact .inr rfl|assumption):
  DS X (.Assign [.Name x z] e pos) (aF fe (gN i)):=.of (PS.imp (JZ A I J E.un C B) λo σ H h=>by
 obtain⟨ι,q,g,r,u,y,G0,l,h,p⟩:=h;obtain⟨⟨s,g1⟩,k,h⟩:=bind_some h;cases h;exact tD.bind G0 l k λH1 j v b f a c=>p H1 j b f _ (a.set c i))
noncomputable def putD (o i v:D)(g:G):Option G:=match o,i with
 |.ref n,.int k=>match g[n]? with
  |some xs=>match kC xs.length k with
   |some j=>some (g.set n (xs.set j v))|none=>none
  |none=>none
 |_,_=>none
end
abbrev FI:=Sg->G->Option (List D×G)
structure i7 (H:Hp)(ι:Ix)(H':Hp)(ι':Ix):Prop where
 same:∀a o,H a=some o->a ∉ ι.ix->H' a=some o
 there:∀a,H a≠none->H' a≠none
 more:∃m,ι'.ix=ι.ix++m /\ ∀a∈m,H a=none
 cH:∃hs,ι'.hd=hs++ι.hd /\ ∀b∈hs,H b=none
 mr:∀i,i < ι.ix.length->ι'.kd i=ι.kd i
theorem Ext.d7 {H ι a ι1}(e:Ext H ι a ι1):i7 H ι a ι1:=⟨e.same,e.there,e.more,⟨[],e.cH,λ_ z=>by simp at z⟩,e.mr⟩
theorem i7.old {H ι i f}(a:i7 H ι i f){c:Addr}{o:HO}(h:H c=some o)(n:c ∉ ι.ix):c ∉ f.ix:=λz=>by
 obtain⟨e,b,f1⟩:=a.more;rw[b]at z;rcases Zy.mp z with z|z
 . exact n z
 . rw[f1 c z]at h;cases h
theorem i7.Eb {H ι i f}(a:i7 H ι i f){c:Addr}{o:HO}(h:H c=some o)(n:c ∉ ι.hd):c ∉ f.hd:=λz=>by
 obtain⟨e,b,f1⟩:=a.cH;rw[b]at z;rcases Zy.mp z with z|z
 . rw[f1 c z]at h;cases h
 . exact n z
theorem i7.at {H ι l k}(a:i7 H ι l k){i:Nat}{c:Addr}{b:Bool}(h:d5 ι i c b):d5 k i c b:=by obtain⟨j,f,_⟩:=a.more;have e:=(Zq.mp h.1).1;refine⟨?_,by rw[a.mr i e];exact h.2⟩;rw[f,ZI e];exact h.1
theorem mq.d7 {K H ι c b a xs}(e:i7 H ι c b)(h:mq K H ι a xs):mq K c b a xs:=by
 rcases h with⟨h|⟨o,h⟩,n,k⟩|h
 . exact .inl ⟨.inl (e.same _ _ h n),e.old h n,e.Eb h k⟩
 . exact .inl ⟨.inr ⟨o,e.same _ _ h n⟩,e.old h n,e.Eb h k⟩
 . exact .inr h
theorem ox.d7 {K H ι c b a xs}(e:i7 H ι c b)(h:ox K H ι a xs):ox K c b a xs:=by
 rcases h with⟨h|⟨o,h⟩,n⟩|h
 . exact .inl ⟨.inl (e.same _ _ h n),e.old h n⟩
 . exact .inl ⟨.inr ⟨o,e.same _ _ h n⟩,e.old h n⟩
 . exact .inr h
mutual
theorem Rel.d7 {K H ι l k}(e:i7 H ι l k):∀(d:D) {v:V},Rel K H ι d v->Rel K l k d v
 |.ay,v,h=>by simpa[Rel]using h|.bl _,v,h=>by simpa[Rel]using h|.int _,v,h=>by simpa[Rel]using h|.str _,v,h=>by simpa[Rel]using h|.tup xs,v,h=>by simp only[Rel]at h ⊢;obtain⟨a,j,f,b,i⟩:=h;exact⟨a,j,f,b.d7 e,aj.d7 e xs i⟩
 |.lst xs,v,h=>by simp only[Rel]at h ⊢;obtain⟨a,j,f,b,i⟩:=h;exact⟨a,j,f,b.d7 e,aj.d7 e xs i⟩
 |.dZ,v,h=>by simp only[Rel]at h ⊢;obtain⟨a,f,b,i⟩:=h;exact⟨a,f,e.same _ _ b i,e.old b i⟩
 |.ref n,v,h=>by simp only[Rel]at h ⊢;obtain⟨a,f,b⟩:=h;exact⟨a,f,e.at b⟩
 |.aX n,v,h=>by simp only[Rel]at h ⊢;obtain⟨a,f,b⟩:=h;exact⟨a,f,e.at b⟩
 |.fn x ds,v,h=>by simp only[Rel]at h ⊢;obtain⟨a,j,f,b,i⟩:=h;exact⟨a,j,f,b.mono λc u z q=>⟨e.same _ _ q.1 q.2.1,e.old q.1 q.2.1,λy=>e.Eb q.1 (q.2.2 y)⟩,aj.d7 e ds i⟩
theorem aj.d7 {K H ι j i}(e:i7 H ι j i):∀(ds:List D) {vs:List V},aj K H ι ds vs->aj K j i ds vs
 | [],vs,h=>by simpa[aj]using h|d::ds,vs,h=>by simp only[aj]at h ⊢;obtain⟨v,c,f,b,a⟩:=h;exact⟨v,c,f,Rel.d7 e d b,aj.d7 e ds a⟩
end
noncomputable def jD (K:KW)(J:It)(H:Hp)(ι:Ix)(ds:List D):Prop :=
 ∀(i:Nat) H1 ι1 g1,i7 H ι H1 ι1->aw K H1 ι1 g1->(ds.length<=i->J.stop i H1) /\ ∀d,ds[i]? = some d->J.go i H1 /\ ∀x H2,J.AY i H1 x H2->Ext H1 ι1 H2 ι1/\aw K H2 ι1 g1/\Rel K H2 ι1 d x
inductive Q2 (K:KW)(f:FI)(σ:L2.St)(H:Hp)(R:(It->Hp->Prop)):Prop
 |mk (ι:Ix) (σd:Sg) (g:G) (ds:List D) (g':G) (h0:aw K H ι g) (h1:bH K H ι σd σ) (h2:f σd g=some (ds,g')) (h3:∀H' ι' J,Ext H ι H' ι'->aw K H' ι' g'->jD K J H' ι' ds->R J H'):Q2 K f σ H R
structure DI (X:Cx)(tg iter:Expr)(f:FI):Prop where of ::
 un:PI X tg iter (Q2 X.kw f)
theorem PI.imp {X:Cx}{tg e:Expr}{t t':TI}(h:PI X tg e t)(i:∀σ H Q,t' σ H Q->t σ H Q):PI X tg e t':=λa8 s σ H Q I q=>h a8 s σ H Q I (i σ H Q q)
theorem jD.lst {K H ι a vs ds}(l:mq K H ι a vs)(o:aj K H ι ds vs):jD K (Fp K a) H ι ds:=λi H1 k g1 b h =>
 ⟨λe=>⟨vs,(l.d7 b).sq,by rw[<- o.length];exact e⟩,λd hd=>by obtain⟨v,c,f⟩:=(aj.d7 b _ o).get hd;refine⟨⟨vs,v,(l.d7 b).sq,c⟩,λx j y=>?_⟩;obtain⟨rfl,y⟩:=y;have:=y vs (l.d7 b).sq;rw[c]at this;cases this;exact⟨Ext.refl,h,f⟩⟩
theorem jD.TN {K H ι a vs ds}(l:ox K H ι a vs)(o:aj K H ι ds vs):jD K (J8 K a) H ι ds:=λi H1 k g1 b h =>
 ⟨λe=>⟨vs,(l.d7 b).sq,by rw[<- o.length];exact e⟩,λd hd=>by obtain⟨v,c,f⟩:=(aj.d7 b _ o).get hd;refine⟨⟨vs,v,(l.d7 b).sq,c⟩,λx j y=>?_⟩;obtain⟨rfl,y⟩:=y;have:=y vs (l.d7 b).sq;rw[c]at this;cases this;exact⟨Ext.refl,h,f⟩⟩
theorem jD.eS {K H ι}{l:Int}{n:Nat}:jD K (AZ l n) H ι ((ZN n).map λ(k:Nat)=>D.int (l+k)):=λi H1 h g1 j c =>
 ⟨λb=>(by show n<=i;simpa using b),λd hd=>by
  have a:i<n:=by have:=(Zq.mp hd).1;simpa using this
  refine⟨a,λx f y=>?_⟩;obtain⟨rfl,rfl⟩:=y;have e:d=D.int (l+i):=by simpa[ZE,abN a]using hd.symm
  subst e;exact⟨Ext.refl,c,by simp[Rel]⟩⟩
section
variable {X:Cx}{tg l a b:Expr}{fe:FE}{fr:FA}{pos p:Pos}
noncomputable def ue (f:FE):FI:=λσ g=>(f σ g).bind λr=>match r.1 with|.tup xs=>some (xs,r.2)|_=>none
noncomputable def uf (f:FE):FI:=λσ g=>(f σ g).bind λr=>match r.1 with|.lst xs=>some (xs,r.2)|_=>none
theorem Lj (y:DE X l fe):DI X tg l (ue fe):=.of (PI.imp (J9 y.un) λσ H Q h=>by
 obtain⟨ι,s,g,ds,x,G0,r,h,p⟩:=h;obtain⟨⟨i,g1⟩,q,h⟩:=bind_some h;cases i with
 |tup xs =>
  cases h;refine tD.bind G0 r q λH1 o v e k u b=>?_;simp only[Rel]at b;obtain⟨a,j,rfl,c,f⟩:=b;exact⟨a,rfl,⟨j,c.sq⟩,p H1 o _ e k (.TN c f)⟩
 |_=>cases h)
theorem Lk (y:DE X l fe):DI X tg l (uf fe):=.of (PI.imp (xp y.un) λσ H Q h=>by
 obtain⟨ι,s,g,ds,x,G0,r,h,p⟩:=h;obtain⟨⟨i,g1⟩,q,h⟩:=bind_some h;cases i with
 |lst xs =>
  cases h;refine tD.bind G0 r q λH1 o v e k u b=>?_;simp only[Rel]at b;obtain⟨a,j,rfl,c,f⟩:=b;exact⟨a,rfl,⟨j,c.sq⟩,p H1 o _ e k (.lst c f)⟩
 |_=>cases h)
noncomputable def fz (i:Int):Bool:=ac5 i.natAbs 4611686018427387903
theorem fz.and {i:Int}(h:fz i=true):-(2 ^ 62)<=i/\i<2 ^ 62:=by have:=aa2 h;omega
theorem fz.of {i:Int}(e:-1000000<=i)(c:i<=1000000):fz i=true:=abA (by omega)
noncomputable def gI (fr:FA):FI:=λσ g=>(fr σ g).bind λr=>match r.1 with| [.int j]=>if fz j=true then some ((ZN j.toNat).map λ(k:Nat)=>D.int (0+k),r.2)else none|_=>none
noncomputable def Q3 (fr:FA):FI:=λσ g=>(fr σ g).bind λr=>match r.1 with| [.int i,.int j]=>if(fz i&&fz j)=true then some ((ZN (j-i).toNat).map λ(k:Nat)=>D.int (i+k),r.2)else none|_=>none
theorem OW (y:Gl X "range")(s:X.mg "range" = none)(u:DA X [a] fr)(x:ZO [a] X.env = [(false,eval a X.env)]:=by rfl):DI X tg (.Call (.Name "range" p) [a] [] pos) (gI fr):=.of (
 PI.imp (A1 y s u.un x) λσ H Q h=>by
  obtain⟨ι,l,g,ds,r,G0,k,h,p⟩:=h;obtain⟨⟨q,g1⟩,i,h⟩:=bind_some h;refine ib.bind G0 k i λH1 f v c e o b=>?_;dsimp only at h;split at h
  . rename_i j
    split at h
    . rename_i z
      cases h;simp only[aj,Rel]at b;obtain⟨_,_,rfl,rfl,rfl⟩:=b;exact⟨j,rfl,(fz.and z).1,(fz.and z).2,p H1 f _ c e .eS⟩
    . cases h
  . cases h)
theorem OX (x:Gl X "range")(A:X.mg "range" = none)(B:DA X [a,b] fr)(y:ZO [a,b] X.env = [(false,eval a X.env),(false,eval b X.env)]:=by rfl)(C:ZO [b] X.env = [(false,eval b X.env)]:=by rfl):DI X tg (.Call (.Name "range" p) [a,b] [] pos) (Q3 fr):=.of (
 PI.imp (A2 x A B.un y C) λσ H Q h=>by
  obtain⟨ι,q,g,ds,u,G0,o,h,p⟩:=h;obtain⟨⟨s,g1⟩,l,h⟩:=bind_some h;refine ib.bind G0 o l λH1 k v e f r c=>?_;dsimp only at h;split at h
  . rename_i i j
    split at h
    . rename_i z
      rw[Zr]at z;cases h;simp only[aj,Rel]at c;obtain⟨_,_,rfl,rfl,_,_,rfl,rfl,rfl⟩:=c;exact⟨i,j,rfl,⟨(fz.and z.1).1,(fz.and z.1).2,(fz.and z.2).1,(fz.and z.2).2⟩,p H1 k _ e f .eS⟩
    . cases h
  . cases h)
noncomputable def forL (t:FG)(b:FS):List D->FS
 | [],σ,g=>some (.nx,σ,g)
 |d::ds,σ,g=>(t d σ g).bind λq=>(b q.1 q.2).bind λr=>match r.1 with
  |.nx=>forL t b ds r.2.1 r.2.2|.ct=>forL t b ds r.2.1 r.2.2|.bk=>some (.nx,r.2.1,r.2.2)|.rt d=>some (.rt d,r.2.1,r.2.2)
noncomputable def fg (i:FI)(t:FG)(b:FS):FS:=λσ g=>(i σ g).bind λr=>forL t b r.1 σ r.2
noncomputable def gj (c:FT)(b:FS):Nat->FS
 | 0,_,_=>none
 |n+1,σ,g=>(c σ g).bind λk=>if k.1=true then(b σ k.2).bind λr=>match r.1 with
   |.nx=>gj c b n r.2.1 r.2.2|.ct=>gj c b n r.2.1 r.2.2|.bk=>some (.nx,r.2.1,r.2.2)|.rt d=>some (.rt d,r.2.1,r.2.2)
  else some (.nx,σ,k.2)
noncomputable def BA (n:Nat)(c:FT)(b:FS):FS:=gj c b n
inductive Ll (X:Cx)(gc:FT)(b:FS)(H:Hp)(ι:Ix)(r:F)(cj:Sg)(g':G)(m:Nat)(σ2:L2.St)(H2:Hp):Prop
 |mk (ι2:Ix) (pO:Sg) (g2:G) (e2:Ext H ι H2 ι2) (G2:aw X.kw H2 ι2 g2) (S2:bH X.kw H2 ι2 pO σ2) (hf:gj gc b m pO g2=some (r,cj,g')):Ll X gc b H ι r cj g' m σ2 H2
theorem Ec {c:Expr}{body:List Stmt}{B:FT}{b:FS}(n:Nat)(I:ad5 (model X.prog X.w) X.A X.env X.xe)(C:DT X c B)(E:kG X body b):DS X (.While c body [] pos) (BA n B b):=.of (PS.imp (DF I C.un E.un) λDn σ H h=>by
 obtain⟨ι,σd,g,r,y,g',G0,S0,h,p⟩:=h;refine⟨Ll X B b H ι r y g',⟨n,ι,σd,g,Ext.refl,G0,S0,h⟩,?_⟩;rintro m σ2 H2 ⟨ι2,pO,g2,e2,G2,S2,hf⟩;cases m with
 |zero=>cases hf
 |succ m =>
  simp only[gj]at hf;obtain⟨⟨k,g3⟩,h3,hf⟩:=bind_some hf;refine kF.bind G2 S2 h3 λH3 x e3 z s=>?_;cases k with
  |false =>
   simp only[ZJ,if_false]at hf ⊢;cases hf;exact p H3 x (e2.trans e3) z σ2 s
  |true =>
   simp only[if_true]at hf ⊢;obtain⟨⟨r4,l,j⟩,h4,hf⟩:=bind_some hf;refine⟨Ll X B b H ι r y g' m,λσ5 H5 q=>⟨m,ab_ _,q⟩,?_⟩;refine⟨x,pO,g3,r4,l,j,z,s,h4,λu i e7 f=>?_⟩;have e:=e2.trans (e3.trans e7);cases r4 with
   |nx=>exact λo a=>⟨i,l,j,e,f,a,hf⟩|ct=>exact λo a=>⟨i,l,j,e,f,a,hf⟩|bk=>cases hf;exact λo a=>p u i e f o a|rt d=>cases hf;exact λv r7=>p u i e f v r7)
end
abbrev Fn:=List D->G->Option (D×G)
noncomputable def j2 (K:KW)(n:Nat)(fn:Fn):Sp:=λa H Q _=>a.length=n /\ ∃ι g ds d g',aw K H ι g/\aj K H ι ds a/\fn ds g=some (d,g')/\fF K H ι d g' Q
mutual
noncomputable def bQ (n:Nat):D->Bool
 |.ref k=>decide (k<n)|.aX k=>decide (k<n)|.tup xs=>aN n xs|.lst xs=>aN n xs|.fn _ xs=>aN n xs|_=>true
noncomputable def aN (n:Nat):List D->Bool
 | []=>true|d::ds=>bQ n d&&aN n ds
end
noncomputable def settle (n:Nat)(d:D)(g':G):Option (D×G):=
 if g'.length=n then some (d,g')else
  if(g'.take n).all (aN n)then
   match d with
   |.ref k=>if k<n then some (d,g'.take n)else match g'[k]? with
    |some xs=>if aN n xs then some (.lst xs,g'.take n)else none|none=>none
   |d=>if bQ n d then some (d,g'.take n)else none
  else none
noncomputable def aq (a:Bool)(e c:Nat)(b:FS):Fn:=λds g =>
 if ds.length=c then(b (ds.map some++ZA (e-c) none) g).bind λr=>match r.1 with
  |.rt d=>if a then some (d,r.2.2)else settle g.length d r.2.2|.nx=>if a then some (.ay,r.2.2)else settle g.length .ay r.2.2|_=>none
 else none
noncomputable def Ix.cut (ι:Ix)(n:Nat):Ix:=⟨ι.ix.take n,ι.hd,ι.kd⟩
mutual
theorem Rel.cut {K H ι}(n:Nat):∀(d:D) {v:V},bQ n d=true->Rel K H ι d v->Rel K H (Ix.cut ι n) d v
 |.ay,v,_,h=>by simpa[Rel]using h|.bl _,v,_,h=>by simpa[Rel]using h|.int _,v,_,h=>by simpa[Rel]using h|.str _,v,_,h=>by simpa[Rel]using h
 |.tup xs,v,z,h=>by
  simp only[Rel]at h ⊢;obtain⟨a,i,e,b,f⟩:=h;refine⟨a,i,e,?_,aj.cut n xs z f⟩;rcases b with⟨b,hn⟩|b
  . exact .inl ⟨b,λm=>hn (aaJ m)⟩
  . exact .inr b
 |.lst xs,v,z,h=>by
  simp only[Rel]at h ⊢;obtain⟨a,i,e,b,f⟩:=h;refine⟨a,i,e,?_,aj.cut n xs z f⟩;rcases b with⟨b,hn,hh⟩|b
  . exact .inl ⟨b,λm=>hn (aaJ m),hh⟩
  . exact .inr b
 |.dZ,v,_,h=>by simp only[Rel]at h ⊢;obtain⟨a,e,b,f⟩:=h;exact⟨a,e,b,λm=>f (aaJ m)⟩
 |.ref k,v,z,h=>by simp only[Rel]at h ⊢;obtain⟨a,e,b⟩:=h;have j:k<n:=of_decide_eq_true z;exact⟨a,e,by show(ι.ix.take n)[k]? = some a;rw[abk j];exact b.1,b.2⟩
 |.aX k,v,z,h=>by simp only[Rel]at h ⊢;obtain⟨a,e,b⟩:=h;have j:k<n:=of_decide_eq_true z;exact⟨a,e,by show(ι.ix.take n)[k]? = some a;rw[abk j];exact b.1,b.2⟩
 |.fn x ds,v,z,h=>by simp only[Rel]at h ⊢;obtain⟨a,i,e,b,f⟩:=h;exact⟨a,i,e,b.mono λc u _ q=>⟨q.1,λm=>q.2.1 (aaJ m),q.2.2⟩,aj.cut n ds z f⟩
theorem aj.cut {K H ι}(n:Nat):∀(ds:List D) {vs:List V},aN n ds=true->aj K H ι ds vs->aj K H (Ix.cut ι n) ds vs
 | [],vs,_,h=>by simpa[aj]using h|d::ds,vs,z,h=>by simp only[aj]at h ⊢;simp only[aN,Zr]at z;obtain⟨v,c,e,b,a⟩:=h;exact⟨v,c,e,Rel.cut n d z.1 b,aj.cut n ds z.2 a⟩
end
theorem aw.cut {K H ι g}(n:Nat)(h:aw K H ι g)(z:(g.take n).all (aN n)=true):aw K H (Ix.cut ι n) (g.take n):=by
 refine⟨h.nd.sublist (aen _ _),by simp[Ix.cut,h.len],λb f=>⟨λm=>(h.cH b f).1 (aaJ m),(h.cH b f).2⟩,λi xs q=>?_,λq e=>⟨(h.tb q e).1,λm=>(h.tb q e).2 (aaJ m)⟩⟩;have c:i<n:=by have:=(Zq.mp q).1;rw[aah]at this;omega
 rw[abk c]at q;obtain⟨a,o,k,r,l,s,j⟩:=h.at_ i xs q;refine⟨a,o,k,(by show(ι.ix.take n)[i]? = some a;rw[abk c];exact r),l,s,aj.cut n xs ?_ j⟩;exact aaX.mp z xs (ZP (i:=i) (by rw[abk c];exact q))
theorem Ext.cut {H ι H' b n}(e:Ext H ι H' b)(c:ι.ix.length=n):Ext H ι H' (Ix.cut b n):=by obtain⟨m,a,f⟩:=e.more;refine⟨e.same,e.there,⟨[],?_,λ_ z=>by simp at z⟩,e.cH,e.mr⟩;subst c;show b.ix.take _=_;rw[a];simp
theorem BB {K H ι g H' A g' d C E v}(G0:aw K H ι g)(e:Ext H ι H' A)(B:aw K H' A g')(r:Rel K H' A d v)(h:settle g.length d g'=some (E,C)):
   ∃kH,Ext H ι H' kH/\aw K H' kH C/\Rel K H' kH E v:=by
 unfold settle at h;split at h
 . cases h;exact⟨A,e,B,r⟩
 split at h
 . rename_i z
   refine⟨Ix.cut A g.length,e.cut G0.len,?_⟩;have Gc:=B.cut g.length z;split at h
   . rename_i k
     split at h
     . rename_i f
       cases h;exact⟨Gc,Rel.cut _ _ (decide_eq_true f) r⟩
     . rename_i f
       split at h
       . rename_i xs x
         split at h
         . rename_i b
           cases h;refine⟨Gc,?_⟩;simp only[Rel]at r ⊢;obtain⟨a,rfl,c⟩:=r;obtain⟨u,o,q⟩:=B.at x c;refine⟨a,u,rfl,.inl ⟨.inl o,λm=>?_,λm=>(B.cH a m).1 (ZP c.1)⟩,aj.cut _ _ b q⟩;obtain⟨j,i,l⟩:=aaW.mp (show a∈A.ix.take g.length from m);have YM:j<g.length:=by rw[aah]at i;omega
           have y:j < A.ix.length:=by rw[aah]at i;omega
           rw[agf]at l;obtain⟨sL,s⟩:=Zq.mp c.1;have:j=k:=(aeG B.nd).mp (l.trans s.symm);omega
         . cases h
       . cases h
   . split at h
     . rename_i b
       cases h;exact⟨Gc,Rel.cut _ _ b r⟩
     . cases h
 . cases h
section
variable {P:ZW}{w:World}{K:KW}{mg:Str->Option Value}{base:Heap}
theorem HQ {k n f fd ps}{fn:Fn}(c:∀ds g,fn ds g=none):dS P K.w K.fr K.mg base gX k f fd ps (j2 K n fn):=
 ⟨λb H Q E ⟨_,ι,g,ds,d,a,_,_,h,_⟩=>(by rw[c]at h;cases h),λA outer s H args us b Q E _ _ _ _ ⟨_,ι,g,ds,d,a,_,_,h,_⟩=>(by rw[c]at h;cases h)⟩
theorem zC {K H ι ds vs}{N:List Str}(r:aj K H ι ds vs)(f:ds.length<=N.length):bH K H ι (ds.map some++ZA (N.length-ds.length) none) (L2.start N vs):=by
 have e:=r.length;refine⟨by unfold L2.start;simp[e],λi d q=>?_⟩;have a:i<ds.length:=by
  by_cases a:i<ds.length
  . exact a
  . rw[ZX (by simpa using a),aeS]at q
    split at q<;>cases q
 rw[ZI (by simpa using a),ZE]at q;cases hd:ds[i]? with
 |none=>rw[hd]at q;cases q
 |some d' =>
  rw[hd]at q;cases q;obtain⟨v,c,b⟩:=r.get hd;refine⟨v,?_,b⟩;unfold L2.start;rw[ZI (by rw[Z2,<- e];exact a),ZE,c];rfl
theorem OY {x C:Str}{I:Stmt}{f:Addr}{fd:aaM}{N ps:List Str}{k:Nat}{B:Bool}{b:FS}(F:xw K.fr x C I f fd)(S:jk N ps (aV I))(J:ps.length<=N.length)
  (L:∀(dy:Value) (A:ZY) (outer:List Env) (s:Zo) (H:Hp) (E:XK),fd.code=dy->dn k (A.deeper (adH C (aV I) s.heap.objs.size f dy)) ->
   kG (lu K.lx gX P K.w K.fr K.mg base N C (aV I) f dy A outer s H E).uQ (dQ I) b):dS P K.w K.fr K.mg base gX (k+1) f fd ps (j2 K ps.length (aq B N.length ps.length b)):=by
 refine F.ok (lx:=K.lx) S (λvs H Q E h=>h.1) (λdy A outer s H vs Q E i5 z h=>?_);obtain⟨hl,ι,g,ds,d,g',G0,r,h,p⟩:=h;refine⟨_,(L dy A outer s H E i5 z).un,?_⟩;unfold aq at h;have i:ds.length=ps.length:=by rw[r.length];exact hl
 rw[if_pos i]at h;obtain⟨⟨l,u,g1⟩,h1,h⟩:=bind_some h;refine⟨ι,_,g,l,u,g1,G0,zC r (by rw[i];exact J),by rw[i];exact h1,λH1 q j o=>?_⟩;have fin:∀{a v},Rel K H1 q a v->(if B then some (a,g1)else settle g.length a g1)=some (d,g')->Q v H1:=fun {a v} c e=>by
  cases B with
  |true=>simp only[if_true]at e;cases e;exact p H1 q v j o c
  |false =>
   simp only[ZJ,if_false]at e;obtain⟨y,e2,G2,r2⟩:=BB G0 j o c e;exact p H1 y v e2 G2 r2
 cases l with
 |rt a=>exact λv c=>fin c h|nx=>exact λσ' S'=>fin (v:=.ay) (by simp[Rel]) h|bk=>cases h|ct=>cases h
end
section
variable {X:Cx}{x:Str}{p pos:Pos}{e:Expr}{es:List Expr}{fr:FA}{k:Nat}{f:Addr}{fd:aaM}{ps:List Str}{fn:Fn}{n:Nat}
noncomputable def ao (fn:Fn)(fr:FA):FE:=λσ g=>(fr σ g).bind λr=>fn r.1 r.2
theorem oQ {K}{n:Nat}(q:∀ds g r,fn ds g=some r->ds.length=n){σ:L2.St}{H:Hp}{Q:VK}(h:tD K (ao fn fr) σ H Q):t_ (j2 K n fn) [] E0 (ib K fr) σ H Q:=by obtain⟨ι,k,g,d,f,G0,j,h,p⟩:=h;obtain⟨⟨ds,g1⟩,i,h⟩:=bind_some h;refine ib.bind G0 j i λH1 e o b c l a=>?_;rw[aaL];exact⟨by rw[<- a.length];exact q _ _ _ h,e,g1,ds,d,f,c,a,h,p.mono b⟩
theorem HR (F:dS X.prog X.w X.kw X.mg X.base gX k f fd ps (j2 X.kw n fn))(c:dn k X.A)(q:X.mg x=some (.ref f))(b:abn X.kw (.ref f)=true)(u:Binds X.kw fd ps [])(i:∀ds g r,fn ds g=some r->ds.length=n)
  (s:DA X (e::es) fr) (j:Gl X x:=by rfl) (a:(x == ("__debug__":Str))=false:=by decide) (o:ZO (e::es) X.env=(false,eval e X.env)::ZO es X.env:=by rfl) (l:(abp pos (ZO es X.env)).any (·.1)=false:=by rfl):
  DE X (.Call (.Name x p) (e::es) [] pos) (ao fn fr):=.of (
 PE.imp (Ho F c j q b u .nil zx s.un a o l) λσ H Q h=>oQ i h)
theorem Ed (F:dS X.prog X.w X.kw X.mg X.base gX k f fd ps (j2 X.kw n fn))(l:dn k X.A)(u:X.mg x=some (.ref f))(j:abn X.kw (.ref f)=true)(y:Binds X.kw fd ps [])(o:∀ds g r,fn ds g=some r->ds.length=n)
  (s:Gl X x:=by rfl) (i:(x == ("__debug__":Str))=false:=by decide):
  DE X (.Call (.Name x p) [] [] pos) (ao fn ag):=.of (
 PE.imp (DP F l s u j y .nil zx i) λσ H Q h=>by have q:=oQ o h;obtain⟨ι,b,g,d,a,G0,c,h,p⟩:=q;cases h;exact p H ι [] Ext.refl G0 (by simp[aj]))
theorem sM {a:Bool}{c nP:Nat}{b:FS}:∀ds g r,aq a c nP b ds g=some r->ds.length=nP:=λds g r h=>by
 unfold aq at h;split at h
 . assumption
 . cases h
theorem Ee {id:String}{o:Fn}(z:dJ X (.builtin id) (jY X.kw o))(C:X.mg x=none)(I:abU x=some (.builtin id))(E:DA X (e::es) fr)(A:Gl X x:=by rfl)(y:x ≠ "__name__":=by decide)(s:(x == ("__debug__":Str))=false:=by decide)
  (B:ZO (e::es) X.env=(false,eval e X.env)::ZO es X.env:=by rfl) (u:(abp pos (ZO es X.env)).any (·.1)=false:=by rfl):DE X (.Call (.Name x p) (e::es) [] pos) (ao o fr):=.of (
 PE.imp (DQ z A C I E.un y s B u) λσ H Q h=>by obtain⟨ι,l,g,d,i,G0,k,h,p⟩:=h;obtain⟨⟨ds,g1⟩,j,h⟩:=bind_some h;exact ib.bind G0 k j λH1 f r a c q b=>⟨f,g1,ds,d,i,c,b,h,p.mono a⟩)
theorem BD {T:String}{o:Fn}(z:dJ X (.type T) (jY X.kw o))(C:X.mg x=none)(I:abU x=some (.type T))(E:DA X (e::es) fr)(A:Gl X x:=by rfl)(y:x ≠ "__name__":=by decide)(s:(x == ("__debug__":Str))=false:=by decide)
  (B:ZO (e::es) X.env=(false,eval e X.env)::ZO es X.env:=by rfl) (u:(abp pos (ZO es X.env)).any (·.1)=false:=by rfl):DE X (.Call (.Name x p) (e::es) [] pos) (ao o fr):=.of (
 PE.imp (Bb z A C I E.un y s B u) λσ H Q h=>by obtain⟨ι,l,g,d,i,G0,k,h,p⟩:=h;obtain⟨⟨ds,g1⟩,j,h⟩:=bind_some h;exact ib.bind G0 k j λH1 f r a c q b=>⟨f,g1,ds,d,i,c,b,h,p.mono a⟩)
end
noncomputable def kj (scope:Scope)(env:Env):List (Str×Addr):=(scope.names.filterMap λx=>if x.2 == .free then(env.cells.lookup x.1).map λc=>(x.1,c)else none).reverse
theorem tU {scope:Scope}{env:Env}(h:∀x∈scope.names,x.2 = .free->∃c,env.cells.lookup x.1=some c):aey scope env=pure (kj scope env):=by
 have key:∀(l:List (Str×aby)) (acc:List (Str×Addr)),(∀x∈l,x.2 = .free->∃c,env.cells.lookup x.1=some c) ->
   (forIn l acc λx r=>if(x.2 == aar)=true then(do let c <- cellOf env x.1;pure (abX ((x.1,c)::r)))else pure (abX r):Sem (List (Str×Addr)))=
     pure ((l.filterMap λx=>if x.2 == .free then(env.cells.lookup x.1).map λc=>(x.1,c)else none).reverse++acc):=by
  intro l;induction l with
  |nil=>intro acc _;rfl
  |cons x r ih =>
   intro acc b;rw[adL];by_cases hk:x.2 = .free
   . obtain⟨c,f⟩:=b x ZU hk
     have a:(x.2 == aar)=true:=by rw[hk];rfl
     rw[if_pos a];simp only[cellOf,f,pure_bind,aax,a,if_true,abg,List.reverse_cons,Z3,afj];exact ih _ λy e=>b y (Zz _ e)
   . have a:(x.2 == aar)=false:=by simpa using hk
     simp only[a,ZJ,if_false,pure_bind,aax];exact ih _ λy e=>b y (Zz _ e)
 have:=key scope.names [] h;rw[aaL]at this;unfold aey kj;simp only[bind_pure_comp]at this ⊢;first
  | (simpa using this)
  |exact this
noncomputable def cellsOf (scope:Scope)(env:Env)(C:Addr):List (Str×Addr):=aaV (C+1) scope.names (kj scope env)
theorem kI {n:Nat}{y:Str}{k:aby}{r:List (Str×aby)}{acc:List (Str×Addr)}:aaV n ((y,k)::r) acc=if(k == aaG)=true then aaV (n+1) r ((y,n)::acc)else aaV n r acc:=rfl
theorem j3 {x:Str}{c:Addr}:∀{names:List (Str×aby)} {n:Nat} {acc:List (Str×Addr)},(aaV n names acc).lookup x=some c->((x,aaG)∈names/\n<=c)\/(acc.lookup x=some c/\(x,aaG) ∉ names)
 | [],_,_,h=>.inr ⟨h,by simp⟩
 | (y,k)::r,n,acc,h=>by
  rw[kI]at h;split at h
  . rename_i a
    have a:k=aaG:=by simpa using a
    subst a;rcases j3 h with⟨h1,h2⟩|⟨h1,h2⟩
    . exact .inl ⟨Zz _ h1,by omega⟩
    . by_cases e:x=y
      . subst e
        rw[Z9,show(x == x)=true by simp]at h1;cases h1;exact .inl ⟨ZU,Zu _⟩
      . rw[Z9,show(x == y)=false by simpa using e]at h1
        exact .inr ⟨h1,λz=>by rcases Zx.mp z with z|z;(cases z;exact e rfl);exact h2 z⟩
  . rename_i a
    rcases j3 h with⟨h1,h2⟩|⟨h1,h2⟩
    . exact .inl ⟨Zz _ h1,h2⟩
    . exact .inr ⟨h1,λz=>by rcases Zx.mp z with z|z;(cases z;exact a rfl);exact h2 z⟩
theorem pP {x:Str}{c:Addr}:∀{names:List (Str×aby)} {n:Nat} {acc:List (Str×Addr)},(x,aaG) ∉ names->acc.lookup x=some c->(aaV n names acc).lookup x=some c
 | [],_,_,_,h=>h
 | (y,k)::r,n,acc,hn,h=>by
  have b:(x,aaG) ∉ r:=λz=>hn (Zz _ z);rw[kI];split
  . rename_i a
    have a:k=aaG:=by simpa using a
    subst a;refine pP b ?_;have e:x≠y:=λe=>hn (by rw[e];exact ZU);rw[Z9,show(x == y)=false by simpa using e];exact h
  . exact pP b h
theorem ve {x:Str}:∀{names:List (Str×aby)} {n:Nat} {acc:List (Str×Addr)},((x,aaG)∈names \/ ∃c,acc.lookup x=some c)->∃c,(aaV n names acc).lookup x=some c
 | [],_,_,h=>by rcases h with h|h;(cases h);exact h
 | (y,k)::r,n,acc,h=>by
  rw[kI];split
  . rename_i a
    refine ve ?_;rcases h with h|⟨c,h⟩
    . rcases Zx.mp h with z|z
      . cases z;exact .inr ⟨n,by simp⟩
      . exact .inl z
    . right
      rw[Z9];split
      . exact⟨_,rfl⟩
      . exact⟨c,h⟩
  . rename_i a
    refine ve ?_;rcases h with h|h
    . rcases Zx.mp h with z|z
      . cases z;exact absurd rfl a
      . exact .inl z
    . exact .inr h
theorem vf:∀{names:List (Str×aby)} {n:Nat} {acc:List (Str×Addr)},(∀x c,acc.lookup x=some c->c<n)->(∀x y c,acc.lookup x=some c->acc.lookup y=some c->x=y)->∀x y c,(aaV n names acc).lookup x=some c->(aaV n names acc).lookup y=some c->x=y
 | [],_,_,_,hi=>hi
 | (z,k)::r,n,acc,hl,hi=>by
  intro x y c;rw[kI];split
  . refine vf (λx c h=>?_) (λx y c b a=>?_) x y c
    . rw[Z9]at h
      split at h
      . cases h;exact ab_ _
      . exact aa1 (hl x c h)
    . rw[Z9]at b a
      split at b
      . rename_i f
        cases b;split at a
        . rename_i e
          rw[eq_of_beq f,eq_of_beq e]
        . exact absurd (hl y _ a) (aaS _)
      . split at a
        . cases a;exact absurd (hl x _ b) (aaS _)
        . exact hi x y c b a
  . exact vf hl hi x y c
theorem oR {M:Model}{A:ZY}{E:Value->Zo->Prop}:∀(names:List (Str×aby)) (acc:List (Str×Addr)) (s:Zo) (Q:List (Str×Addr)->Zo->Prop),
  (∀x c,acc.lookup x=some c->c<s.heap.objs.size) ->
  (∀h',(∀b o,s.heap.get? b=some o->h'.get? b=some o)->(∀x c,(aaV s.heap.objs.size names acc).lookup x=some c->s.heap.objs.size<=c->h'.IsCell c none)->Q (aaV s.heap.objs.size names acc) { s with heap:=h' }) ->
  wpAny M A (forIn names acc λx r=>if(x.2 == aaG)=true then(do let c <- alloc { cls:=aav "cell",data:=ad6 none };pure (abX ((x.1,c)::r)))else pure (abX r)) Q E s
 | [],acc,s,Q,hl,h=>by rw[ag8];exact Zp (h s.heap (λ_ _ e=>e) λx c j i=>absurd (hl x c j) (Nat.not_lt.mpr i))
 | (y,k)::r,acc,s,Q,hl,h=>by
  rw[adL];rw[kI]at h;dsimp only;split
  . rename_i f
    rw[if_pos f]at h;refine Zm (Zm (agp (Zp ?_)));have sz:(s.heap.push { cls:=aav "cell",data:=ad6 none }).objs.size=s.heap.objs.size+1:=abe ..;refine oR r _ _ Q (λx c e=>?_) λh' l a=>?_
    . show c<(s.heap.push _).objs.size
      rw[sz];rw[Z9]at e;split at e
      . cases e;exact ab_ _
      . exact aa1 (hl x c e)
    . have a:∀x c,(aaV (s.heap.push { cls:=aav "cell",data:=ad6 none }).objs.size r ((y,s.heap.objs.size)::acc)).lookup x=some c->(s.heap.push { cls:=aav "cell",data:=ad6 none }).objs.size<=c->h'.IsCell c none:=a
      show Q (aaV (s.heap.push { cls:=aav "cell",data:=ad6 none }).objs.size r ((y,s.heap.objs.size)::acc)) _;rw[sz]at a ⊢;refine h h' (λb o e=>l b o (Zs _ e)) λx c j i=>?_;rcases Nat.lt_or_eq_of_le i with e3|e3
      . exact a x c j e3
      . subst e3
        exact⟨_,l _ _ (ZC _ rfl),rfl⟩
  . rename_i f
    rw[if_neg f]at h;refine Zm (Zp ?_);exact oR r acc s Q hl h
theorem xa {M:Model}{A:ZY}{E:Value->Zo->Prop}{s:Zo}{scope:Scope}{env:Env}{gl:Addr}{q:List (Str×Addr)}{l:Str}{Q:Env->Zo->Prop}(r:∀x c,q.lookup x=some c->c<s.heap.objs.size)
   (h:∀h4:Heap,h4.Ns s.heap.objs.size (λ_=>none)->(∀b o,s.heap.get? b=some o->h4.get? b=some o)->(∀x c,(aaV (s.heap.objs.size+1) scope.names q).lookup x=some c->s.heap.objs.size+1<=c->h4.IsCell c none) ->
    Q (newEnv scope s.heap.objs.size gl (aaV (s.heap.objs.size+1) scope.names q) l none aa_ (some env) aeu) { s with heap:=h4 }):
   wpAny M A (newFunctionEnv scope gl q [] l none aa_ (some env)) Q E s:=by
 unfold newFunctionEnv;have sz:∀o:Obj,(s.heap.push o).objs.size=s.heap.objs.size+1:=λo=>abe ..;refine Zm (agp (Zm ?_));refine oR scope.names q _ _ (λx c e=>?_) λf i a=>?_
 . show c<(s.heap.push _).objs.size
   rw[sz];exact aa1 (r x c e)
 . refine Zm ?_
   rw[ag8];refine Zp (Zp ?_);have a:∀x c,(aaV (s.heap.push { cls:=aav (if(some env).isSome=true then "dict" else "frame"),data:=ahh #[] }).objs.size scope.names q).lookup x=some c->(s.heap.push { cls:=aav (if(some env).isSome=true then "dict" else "frame"),data:=ahh #[] }).objs.size<=c->f.IsCell c none:=a;rw[sz]at a;have:=h f ⟨_,_,_,i _ _ (ZC _ rfl),rfl,by intro k j;simp at j,λ_=>rfl⟩ (λb o e=>i b o (Zs _ e)) a;show Q (newEnv scope s.heap.objs.size gl (aaV (s.heap.push { cls:=aav (if(some env).isSome=true then "dict" else "frame"),data:=ahh #[] }).objs.size scope.names q) l none aa_ (some env) aeu) { s with heap:=f };rw[sz];exact this
noncomputable def a_ (X:Cx)(N:List Str)(scope:Scope)(C:Addr)(s3:Zo)(H:Hp)(fp:List Addr)(a8:List (Addr×Obj)):Cx where
 prog:=X.prog
 w:=X.w
 K:=X.kw
 mg:=X.mg
 base:=X.base
 A:=X.A
 N:=N
 s₀:=s3
 H₀:=H
 env:=compEnvC scope (cellsOf scope X.env C) C X.env
 outer:=X.stack
 stack:=X.stack
 ex:=fp
 calm:=X.calm
 fn:=λx=>scope.names.any λy=>y.1 == x&&y.2 == .cell
 pn:=X.pn++a8
 xe:=λ_ _=>False
 lx:=X.lx
structure eH (X:Cx)(N:List Str)(fr:List (Option Nat))(scope:Scope):Prop where
 kind:scope.kind = .function
 cells:∀y∈scope.names,y.2 = .cell->scope.names.lookup y.1=some .cell
 names:∀y∈scope.names,y.2 = .local->scope.names.lookup y.1=some .local
 free:∀y∈scope.names,y.2 = .free->scope.names.lookup y.1=some .free/\(X.env.kindOf y.1=some .cell\/X.env.kindOf y.1=some .free)
 len:fr.length=N.length
 slots:∀(j i:Nat),fr[j]? = some (some i)->∃x,N[j]? = some x/\X.N[i]? = some x/\scope.names.lookup x=some .free
noncomputable def bM {a:Type}(fr:List (Option Nat))(σ:List (Option a)):List (Option a):=fr.map λo=>match o with|some i=>(σ[i]?).join|none=>none
theorem vg {scope:Scope}{env:Env}:(aeD scope env).kind=scope.kind:=rfl
theorem Ef {scope:Scope}{env:Env}{x:Str}{c:Addr}(h:(x,c)∈kj scope env):(x,aar)∈scope.names/\env.cells.lookup x=some c:=by
 unfold kj at h;rw[ado,aa7]at h;obtain⟨y,b,e⟩:=h;split at e
 . rename_i a
   cases hc:env.cells.lookup y.1 with
   |none=>rw[hc]at e;cases e
   |some c' =>
    rw[hc]at e;cases e;have:y.2=aar:=by simpa using a
    exact⟨by rw[<- this];exact b,hc⟩
 . cases e
theorem mw {b:Type}:∀{l:List (Str×b)} {x:Str} {c:b},(x,c)∈l->∃d,l.lookup x=some d
 | [],_,_,h=>nomatch h
 | (y,d)::r,x,c,h=>by
  by_cases e:x=y
  . subst e;exact⟨d,by simp⟩
  . rcases Zx.mp h with z|z
    . cases z;exact absurd rfl e
    . obtain⟨a,q⟩:=mw z
      exact⟨a,by rw[Z9];simp[show(x == y)=false by simpa using e,q]⟩
theorem ff {scope:Scope}{env:Env}{x:Str}{c:Addr}(h:(kj scope env).lookup x=some c):(x,aar)∈scope.names/\env.cells.lookup x=some c:=Ef (Z5 h)
theorem vh {scope:Scope}{env:Env}{x:Str}{c:Addr}(b:(x,aar)∈scope.names)(a:env.cells.lookup x=some c):(kj scope env).lookup x=some c:=by
 have m:(x,c)∈kj scope env:=by unfold kj;rw[ado,aa7];exact⟨_,b,by simp[a]⟩
 obtain⟨d,q⟩:=mw m;have:=(ff q).2;rw[a]at this;cases this;exact q
theorem vi {scope:Scope}{env:Env}{x:Str}(h:(aeD scope env).names.lookup x=some .cell\/(aeD scope env).names.lookup x=some .free):(x,aar)∈scope.names\/(x,aaG)∈scope.names:=by
 have m:∃k,(x,k)∈(aeD scope env).names/\(k = .cell\/k = .free):=by
   rcases h with h|h
   . exact⟨_,Z5 h,.inl rfl⟩
   . exact⟨_,Z5 h,.inr rfl⟩
 obtain⟨k,m,a⟩:=m;unfold aeD at m;rw[ZK]at m;obtain⟨⟨n,b⟩,hm,e⟩:=m;dsimp only at e;split at e
 . rename_i z
   cases e;simp only[Zr]at z;have:b=aar:=by simpa using z.1.1
   subst this;exact .inl hm
 . cases e
   rcases a with rfl|rfl
   . exact .inr hm
   . exact .inl hm
theorem ic {env:Env}:∀{names:List (Str×aby)} {x:Str},names.lookup x=some .free ->
  (names.map λ(n,k)=>if(k == aar&&env.scope.kind == .function&&env.kindOf n == some .cell)then(n,aaG)else(n,k)).lookup x=some .cell \/
  (names.map λ(n,k)=>if(k == aar&&env.scope.kind == .function&&env.kindOf n == some .cell)then(n,aaG)else(n,k)).lookup x=some .free
 | [],_,h=>by simp at h
 | (n,k)::r,x,h=>by
  have ih:=@ic env r x;show List.lookup x ((if(k == aar&&env.scope.kind == .function&&env.kindOf n == some .cell)=true then(n,aaG)else(n,k))::_)=_\/List.lookup x ((if(k == aar&&env.scope.kind == .function&&env.kindOf n == some .cell)=true then(n,aaG)else(n,k))::_)=_;cases hx:x == n with
  |true =>
   simp only[Z9,hx]at h;cases h;split
   . left;simp[Z9,hx]
   . right;simp[Z9,hx]
  |false =>
   simp only[Z9,hx]at h;split
   . simp only[Z9,hx];exact ih h
   . simp only[Z9,hx];exact ih h
section
variable {X:Cx}{a8:List (Addr×Obj)}{σ:L2.St}{H:Hp}{s3:Zo}
theorem OZ {scope:Scope}(I:Inv X a8 σ H s3):∀x c,(kj scope X.env).lookup x=some c->c<s3.heap.objs.size:=λx c e=>by obtain⟨v,o,a,_⟩:=I.cell x c (ff e).2;exact ZG a
theorem zD {N:List Str}{fr:List (Option Nat)}{scope:Scope}{fp:List Addr}{A:Heap}{tk:Nat}(ok:eH X N fr scope)(I:Inv X a8 σ H s3)(B:∀b∈fp,fD X a8 H b)(C:∀b∈fp,b<s3.heap.objs.size)
   (J:A.Ns s3.heap.objs.size λ_=>none) (E:∀b o,s3.heap.get? b=some o->A.get? b=some o) (K:∀x c,(cellsOf scope X.env s3.heap.objs.size).lookup x=some c->s3.heap.objs.size+1<=c->A.IsCell c none):
   Inv (a_ X N scope s3.heap.objs.size s3 H fp a8) [] (bM fr σ) H { s3 with heap:=A,toks:=tk }:=by
 have r:Inv X a8 σ H { s3 with heap:=A,toks:=tk }:=I.kept E;have uM:∀b∈jW X.stack,b∈X.env.locals::X.fs:=I.pz;have lc:∀x c,(cellsOf scope X.env s3.heap.objs.size).lookup x=some c->(s3.heap.objs.size+1<=c/\A.IsCell c none)\/X.env.cells.lookup x=some c:=λx c e=>by
   rcases j3 e with⟨_,z⟩|⟨z,_⟩
   . exact .inl ⟨z,K x c e z⟩
   . exact .inr (ff z).2
 have lo:∀x c,X.env.cells.lookup x=some c->c<s3.heap.objs.size:=λx c e=>by obtain⟨v,o,eo,_⟩:=I.cell x c e;exact ZG eo
 have Q5:∀y,(y,aar)∈scope.names->(y,aaG) ∉ scope.names:=λy A l=>by have:=(ok.free _ A rfl).1;rw[show scope.names.lookup y=some .cell from ok.cells _ l rfl]at this;cases this
 refine⟨⟨I.ok.mod,?_,I.ok.glob,I.ok.blt,Zu _,?_,?_,?_,I.ok.hd,I.ok.frames,.inl rfl,?_,I.bs,Z4 I.ok.mI I.sz,?_,?_,I.stack,I.xm⟩,rfl,I.bare,Un.kept E,
   ⟨_,J,?_⟩,?_,I.aS.fresh (Zu _),?_,?_,r.aS,?_⟩
 . show(aeD scope X.env).kind = .function
   rw[vg];exact ok.kind
 . refine vf (λx c e=>aa1 (lo x c (ff e).2)) λx y c A l=>?_
   exact I.ok.inj x y c (ff A).2 (ff l).2
 . intro x h
   rcases vi (scope:=scope) (env:=X.env) h with m|m
   . obtain⟨c,s⟩:=I.ok.has x (ok.free _ m rfl).2
     exact⟨c,pP (Q5 x m) (vh m s)⟩
   . exact ve (.inl m)
 . intro x c h e
   rcases j3 e with⟨_,z⟩|⟨_,z⟩
   . exact ac_ z
   . refine absurd ?_ z
     have h:(scope.names.any λy=>y.1 == x&&y.2 == .cell)=true:=h;rw[aeN]at h;obtain⟨⟨y,k⟩,hy,e2⟩:=h;simp only[Zr]at e2;have e3:k=aaG:=by simpa using e2.2
     rw[<- eq_of_beq e2.1,<- e3];exact hy
 . intro b f
   refine⟨Z1 (C b f),λx c e=>?_⟩;rcases lc x c e with⟨z,_⟩|z
   . exact λq=>absurd (C b f) (Nat.not_lt.mpr (by rw[<- q];exact ac_ z))
   . exact(B b f).2.2.2.2.1 x c z
 . intro b o e f
   obtain⟨_,_,_,z,_⟩:=B b f;rcases z with z|z
   . exact I.ok.oJ b o e z
   . exact absurd (ZZ (ZZ (ZG e) I.ok.mI) z) (aaS _)
 . intro b f z
   obtain⟨_,n1,n2,_⟩:=B b f;rcases Zx.mp (uM b z)with q|q
   . exact n1 q
   . exact n2 q
 . intro j x v A l h3
   have a:(bM fr σ)[j]? = some (some v):=l;unfold bM at a;rw[ZE]at a;cases jE:fr[j]? with
   |none=>rw[jE]at a;cases a
   |some o =>
     rw[jE]at a;cases o with
     |none=>cases a
     |some i =>
       obtain⟨y,hy,hi,pA⟩:=ok.slots j i jE;have e:x=y:=by have xK:N[j]? = some x:=A;rw[hy]at xK;cases xK;rfl
       subst e;have hσ:σ[i]? = some (some v):=by
         simp only[abg,aep]at a;cases q:σ[i]? with
         |none=>rw[q]at a;cases a|some w=>rw[q]at a;simp at a;rw[a]
       have m:=Z5 pA;obtain⟨_,ua⟩:=ok.free _ m rfl;obtain⟨mm,hn,hl⟩:=r.loc;obtain⟨u,ru,lk⟩:=hl i x v hi hσ (by rcases ua with k|k;exact .inr (.inl k);exact .inr (.inr k));refine⟨u,ru,.inr ⟨ic pA,?_⟩⟩;rcases lk with⟨kl,_⟩|⟨_,c,s,fT⟩
       . rcases ua with k|k<;>(rw[k]at kl;cases kl)
       . exact⟨c,pP (Q5 x m) (vh m s),fT⟩
 . intro x c e
   rcases lc x c e with⟨_,z⟩|z
   . exact⟨_,z⟩
   . exact r.cell x c z
 . intro x c e
   rcases lc x c e with⟨z,_⟩|z
   . exact I.aS.fresh (ac_ z)
   . exact I.gu x c z
 . intro p hp
   have xH:p∈X.pn++a8:=by have q:p∈(X.pn++a8) ++ []:=hp;simpa using q
   obtain⟨e,n,ne,nf,d⟩:=r.pin p xH;refine⟨e,n,Z1 ?_,λz=>?_,d⟩
   . exact ZG (I.pin p xH).1
   . rcases Zx.mp (uM _ z)with q|q
     . exact ne q
     . exact nf q
 . show(bM fr σ).length=N.length
   unfold bM;rw[Z2];exact ok.len
end
noncomputable def cy (t:FG)(c:FT)(e:FE):List D->Sg->G->Option (List D×G)
 | [],_,g=>some ([],g)|d::ds,σ,g=>(t d σ g).bind λq=>(c q.1 q.2).bind λk=>if k.1=true then(e q.1 k.2).bind λr=>(cy t c e ds q.1 r.2).bind λz=>some (r.1::z.1,z.2)else cy t c e ds q.1 k.2
noncomputable def TQ (X:Cx)(ifs:List Expr)(t:TT):Prop :=
 ∀(a8:List (Addr×Obj)) (s:Zo) (σ:L2.St) (H:Hp) (Q:Bool->Hp->Prop),Inv X a8 σ H s->t σ H Q ->
  wpAny (model X.prog X.w) X.A (forIn ifs true λc r=>if r=true then do let ok <- isTrue c X.env (eval c X.env);pure (abX ok)else pure (abX r)) (TP X a8 σ Q) X.xe s
structure gz (X:Cx)(ifs:List Expr)(f:FT):Prop where of ::
 un:TQ X ifs (kF X.kw f)
noncomputable def bF:FT:=λ_ g=>some (true,g)
theorem Eg {X:Cx}:gz X [] bF:=.of (λa8 s σ H Q I h=>by obtain⟨ι,c,g,b,a,G0,e,h,p⟩:=h;cases h;exact wpAny_tests_nil ⟨H,I,p H ι Ext.refl G0⟩)
theorem Eh {X:Cx}{c:Expr}{f:FT}(h:DT X c f):gz X [c] f:=.of (λa8 s σ H Q I q=>wpAny_tests_one (h.un a8 s σ H Q I q))
theorem Ext.FK {A x H' s p y u}(a:Ext A x H' s)(b:Ext H' (Ix.hide s p) y u):Ext A x y ⟨u.ix,s.hd,u.kd⟩/\u=Ix.hide ⟨u.ix,s.hd,u.kd⟩ p:=by
 have f:u.hd=p::s.hd:=b.cH;obtain⟨k,j,f1⟩:=a.more;obtain⟨e,r,f2⟩:=b.more;refine⟨⟨λc o h n=>b.same c o (a.same c o h n) (a.old h n),λc h=>b.there c (a.there c h),⟨k++e,?_,λc z=>?_⟩,a.cH,λi l=>(b.mr i (show i < s.ix.length by rw[j,ZH];omega)).trans (a.mr i l)⟩,?_⟩
 . show u.ix=_
   rw[r];show s.ix++e=_;rw[j,Z3]
 . rcases Zy.mp z with z|z
   . exact f1 c z
   . cases q:A c with
     |none=>rfl|some o=>exact absurd (f2 c z) (a.there c (by rw[q];simp))
 . cases u with
   |mk ix hd kd=>dsimp only at f;rw[f];rfl
theorem Ext.FL {f b H' ιo p o}(a:Ext f b H' ιo)(i:f p=none):Ext f b (upd H' p o) ιo :=
 ⟨λc u h n=>by rw[aC (aK h i)];exact a.same c u h n,λc h=>by
  by_cases e:c=p
  . subst e;rw[aP];simp
  . rw[aC e];exact a.there c h,a.more,a.cH,a.mr⟩
theorem Ext.TR {f e H' c p}(a:Ext f e H' c)(h:f p=none):i7 f e H' (Ix.hide c p):=
 ⟨a.same,a.there,a.more,⟨[p],by show p::c.hd=_;rw[a.cH];rfl,λb z=>by simp at z;subst z;exact h⟩,a.mr⟩
abbrev Sh:=G->Option (List D)
abbrev pQ:=Sg->G->Option (Sh×Nat×G)
noncomputable def zE (K:KW)(J:It)(H:Hp)(ι:Ix)(sh:Sh)(L:Nat):Prop :=
 ∀(i:Nat) H1 ι1 g1,i7 H ι H1 ι1->aw K H1 ι1 g1->∀xs,sh g1=some xs->xs.length=L->(L<=i->J.stop i H1) /\ ∀d,xs[i]? = some d->J.go i H1 /\ ∀x H2,J.AY i H1 x H2->Ext H1 ι1 H2 ι1/\aw K H2 ι1 g1/\Rel K H2 ι1 d x
inductive Ln (K:KW)(f:pQ)(σ:L2.St)(H:Hp)(R:(It->Hp->Prop)):Prop
 |mk (ι:Ix) (σd:Sg) (g:G) (sh:Sh) (L:Nat) (g':G) (h0:aw K H ι g) (h1:bH K H ι σd σ) (h2:f σd g=some (sh,L,g')) (h3:∀H' ι' J,Ext H ι H' ι'->aw K H' ι' g'->zE K J H' ι' sh L->R J H'):Ln K f σ H R
structure vj (X:Cx)(tg iter:Expr)(f:pQ):Prop where of ::
 un:PI X tg iter (Ln X.kw f)
noncomputable def dM (sh:Sh)(L:Nat)(t:FG)(c:FT)(e:FE):Nat->Sg->G->Option (List D×G)
 | 0,_,g=>(sh g).bind λxs=>if xs.length=L then some ([],g)else none|r+1,σ,g=>(sh g).bind λxs=>if xs.length=L then(xs[L-(r+1)]?).bind λd=>(t d σ g).bind λq=>(c q.1 q.2).bind λk=>if k.1=true then(e q.1 k.2).bind λa=>(dM sh L t c e r q.1 a.2).bind λz=>some (a.1::z.1,z.2)else dM sh L t c e r q.1 k.2 else none
theorem zF {sh:Sh}{L:Nat}{t:FG}{c:FT}{e:FE}{σ:Sg}{g g':G}{all:List D}(h:dM sh L t c e 0 σ g=some (all,g')):∃xs,sh g=some xs/\xs.length=L/\all = []/\g'=g:=by
 simp only[dM]at h;obtain⟨xs,a,h⟩:=bind_some h;split at h
 . rename_i z
   cases h;exact⟨xs,a,z,rfl,rfl⟩
 . cases h
theorem zG {sh:Sh}{L r:Nat}{t:FG}{c:FT}{e:FE}{σ:Sg}{g:G}{o:List D×G}(h:dM sh L t c e (r+1) σ g=some o):∃xs d,sh g=some xs/\xs.length=L/\xs[L-(r+1)]? = some d/\((t d σ g).bind λq=>(c q.1 q.2).bind λk=>if k.1=true then(e q.1 k.2).bind λr'=>(dM sh L t c e r q.1 r'.2).bind λz=>some (r'.1::z.1,z.2)else dM sh L t c e r q.1 k.2)=some o:=by
 simp only[dM]at h;obtain⟨xs,a,h⟩:=bind_some h;split at h
 . rename_i z
   obtain⟨d,hd,h⟩:=bind_some h;exact⟨xs,d,a,z,hd,h⟩
 . cases h
inductive CompI (X':Cx)(t:FG)(c:FT)(e:FE)(fp:List Addr)(Dl:Addr)(tn:Nat->Heap->Prop)(sh:Sh)(L:Nat)(all:List D)(H1:Hp)(ι1:Ix)(g':G)(n:Nat)(s:Zo):Prop
 |mk (i:Nat) (σ:L2.St) (H:Hp) (ιo:Ix) (σd:Sg) (g:G) (vs:List V) (acc more:List D) (hn:n=L+1-i) (oA:i<=L) (I:Inv X' [] σ H s) (ti:tn i s.heap) (FN:∀b∈fp,H b=none) (E1:Ext H1 ι1 H ιo) (G1:aw X'.kw H (Ix.hide ιo Dl) g) (S1:bH X'.kw H (Ix.hide ιo Dl) σd σ)
  (FP:H Dl=some (.lst vs)) (vk:aj X'.kw H (Ix.hide ιo Dl) acc vs) (BE:acc.length<=i) (hf:dM sh L t c e (L-i) σd g=some (more,g')) (ea:all=acc++more):CompI X' t c e fp Dl tn sh L all H1 ι1 g' n s
theorem BF {X':Cx}{tg K elt:Expr}{ifs:List Expr}{scope:Scope}{N:Pos}{t:FG}{c:FT}{e:FE}{J:It}{fp:List Addr}{P B:Addr}{O:Nat->Heap->Prop}{all:List D}{sh:Sh}{L:Nat}{M:Hp}{C:Ix}{g':G}{R:Result->Zo->Prop}
   (gJ:X'.xe=λ_ _=>False) (S:X'.calm=true) (T:Turn X'.prog X'.w X'.kw tg J fp P O) (Z:∀b∈fp,fD X' [] X'.H₀ b) (W:zE X'.kw J M C sh L) (hD:M B=none) (hz:L<=ZM)
   (Y:DG X' tg t) (U:gz X' ifs c) (he:DE X' elt e)
   (fin:∀s' σ' H' ιo vs,Inv X' [] σ' H' s'->(∀b∈fp,H' b=none)->Ext M C H' ιo->aw X'.kw H' (Ix.hide ιo B) g'->H' B=some (.lst vs)->aj X'.kw H' (Ix.hide ιo B) all vs->R (.ok .next) s'):
   ∀(s:Zo) (σ:L2.St) (H:Hp) (ιo:Ix) (σd:Sg) (g:G),Inv X' [] σ H s->O 0 s.heap->(∀b∈fp,H b=none)->Ext M C H ιo->aw X'.kw H (Ix.hide ιo B) g->bH X'.kw H (Ix.hide ιo B) σd σ->H B=some (.lst [])->dM sh L t c e L σd g=some (all,g') ->
    acK (model X'.prog X'.w) X'.A (.compLoop (.ListComp elt [⟨tg,K,ifs,0⟩] scope N) 0 (.ref P) (.ref B) X'.env) R s:=by
 intro s σ H ιo σd g I t0 Q6 E0 G0 S0 hH pR;have oM:∀{H':Hp},(∀b∈fp,H' b=none)->∀b∈fp,fD X' [] H' b:=λhn b l=>⟨hn b l,(Z b l).2⟩
 refine codeAny_loop rfl (CompI X' t c e fp B O sh L all M C g') ?_ (L+1)
   ⟨0,σ,H,ιo,σd,g,[],[],all,rfl,aab _,I,t0,Q6,E0,G0,S0,hH,by simp[aj],Zu _,by simpa using pR,rfl⟩
 clear pR hH S0 G0 E0 Q6 t0 I g σd ιo H σ s;rintro n s ⟨i,σ,H,ιo,σd,g,vs,acc,more,rfl,oA,I,ti,FN,E1,G1,S1,FP,vk,BE,hf,rfl⟩;show wpAny _ X'.A ((compTurn (.ListComp elt [⟨tg,K,ifs,0⟩] scope N) 0 (.ref P) (.ref B) X'.env).onRaise (λx=>do noteFrame x X'.env;theTreesLotGoes x)) _ _ s;refine wpAny_noted ?_;rw[compTurn_list];refine Zm (aej (Zm ?_));have j1:=W i H (Ix.hide ιo B) g (E1.TR hD) G1;by_cases cX:i<L
 . rw[show L-i=(L-(i+1))+1 by omega]at hf
   obtain⟨xs,d0,mB,Lo,BG,hf⟩:=zG hf;rw[show L-(L-(i+1)+1)=i by omega]at BG;obtain⟨st,go⟩:=j1 xs mB Lo;obtain⟨go,yl⟩:=go d0 BG;refine aW (T.item X' rfl rfl rfl S i [] s σ H _ I (oM FN) ti go) λr s4 ⟨u,hr,h4⟩=>?_;subst hr;refine Zm (aW h4 λ_ s5 ⟨x,H5,I5,r5,y5,t5,Kc⟩=>?_);obtain⟨e5,G5,Wo⟩:=yl x H5 y5;obtain⟨⟨σ6,g6⟩,h6,hf⟩:=bind_some hf;obtain⟨⟨k7,g7⟩,h7,hf⟩:=bind_some hf;have ab:=I5.pinned (oM Kc) (T.obj _ _ t5);have lift:∀{α:Type} {tr:Sem α} {Q:α->Zo->Prop} {E:Value->Zo->Prop} {s:Zo},wpAny (model X'.prog X'.w) X'.A tr Q X'.xe s->wpAny (model X'.prog X'.w) X'.A tr Q E s:=λh=>adB h (λ_ _ q=>q) λ_ _ z=>by rw[gJ]at z;exact z.elim
   have again:∀{s9:Zo} {σ9:L2.St} {f:Hp} {ι9:Ix} {FQ:Sg} {g9:G} {FR:List V} {acc9:List D} {nI:List D},Inv X' ([]++mM fp s5.heap) σ9 f s9->Ext M C f ι9->aw X'.kw f (Ix.hide ι9 B) g9->bH X'.kw f (Ix.hide ι9 B) FQ σ9 ->
     f B=some (.lst FR)->aj X'.kw f (Ix.hide ι9 B) acc9 FR->acc9.length<=i+1->dM sh L t c e (L-(i+1)) FQ g9=some (nI,g')->acc++more=acc9++nI ->
     ∃m,m<L+1-i/\CompI X' t c e fp B O sh L (acc++more) M C g' m s9:=by
    intro s9 σ9 f ι9 FQ g9 FR acc9 nI I9 E9 G9 S9 h9 r9 l9 f9 a9;refine⟨L+1-(i+1),by omega,i+1,σ9,f,ι9,FQ,g9,FR,acc9,nI,rfl,cX,I9.lq,T.keep _ _ _ t5 λb l o e=>(I9.pin (b,o) (aas _ (aas _ (i_ l e)))).1,λb l=>?_,E9,G9,S9,h9,r9,l9,f9,a9⟩;obtain⟨o,e,d⟩:=T.obj _ _ t5 b l;exact(I9.pin (b,o) (aas _ (aas _ (i_ l e)))).2.1
   refine Zm (lift (aW (Y.un _ s5 σ H5 x u (λσ' H'=>∃k,Ext H5 (Ix.hide ιo B) H' k/\aw X'.kw H' k g6/\bH X'.kw H' k σ6 σ') ab r5 ⟨Ix.hide ιo B,σd,g,d0,σ6,g6,G5,S1.ext e5,Wo,h6,λH6 k FU e6 G6 S6=>⟨k,e6,G6,S6⟩⟩) λ_ s6 q6=>?_));obtain⟨FU,H6,I6,k,e6,G6,S6⟩:=q6;refine Zm (lift (aW (U.un _ s6 FU H6 (λb H'=>b=k7 /\ ∃ι7,Ext H6 k H' ι7/\aw X'.kw H' ι7 g7) I6 ⟨k,σ6,g6,k7,g7,G6,S6,h7,λH7 ι7 e7 G7=>⟨rfl,ι7,e7,G7⟩⟩) λok s7 q7=>?_));obtain⟨H7,I7,rfl,ι7,e7,G7⟩:=q7;have FV:=(e5.trans e6).trans e7;obtain⟨E7,Wq⟩:=E1.FK FV;have Wr:H7 B=some (.lst vs):=FV.same B _ FP (G1.cH B ZU).1;have r7:=aj.ext FV _ vk;have S7:=S6.ext e7;cases ok with
   |false =>
    simp only[ZJ,if_false]at hf;refine Zp ⟨rfl,?_⟩;rw[Wq]at G7 S7 r7;exact again I7 E7 G7 S7 Wr r7 (by omega) hf rfl
   |true =>
    simp only[if_true]at hf;obtain⟨⟨d8,g8⟩,h8,hf⟩:=bind_some hf;obtain⟨⟨nI,g9⟩,h9,hf⟩:=bind_some hf;obtain⟨rfl,rfl⟩:d8::nI=more/\g9=g':=by cases hf;exact⟨rfl,rfl⟩
    refine Zm (Zm (lift (aW (he.un _ s7 FU H7 (λv H'=>∃ι8,Ext H7 ι7 H' ι8/\aw X'.kw H' ι8 g8/\Rel X'.kw H' ι8 d8 v) I7 ⟨ι7,σ6,g7,d8,g8,G7,S7,h8,λH8 ι8 v e8 G8 r8=>⟨ι8,e8,G8,r8⟩⟩) λy s8 q8=>?_)));obtain⟨v8,H8,I8,Ws,ι8,e8,G8,r8⟩:=q8;have Lp:=FV.trans e8;obtain⟨E8,Wt⟩:=E1.FK Lp;have BH:H8 B=some (.lst vs):=Lp.same B _ FP (G1.cH B ZU).1;have FW:=aj.ext Lp _ vk;have S8:=S7.ext e8;have hlen:vs.length<ZM:=by rw[<- vk.length];omega
    rw[Wt]at G8 S8 FW r8;refine Zm (lift (aW (sA (X:=X') _ s8 FU H8 (.ref B) [v8] (.ref B) [y] (λ_ H'=>H'=upd H8 B (.lst (vs ++ [v8]))) I8 rfl (.cons Ws .nil) ⟨B,vs,v8,rfl,rfl,BH,hlen,rfl⟩) λ_ s9 q9=>?_));obtain⟨_,f,I9,_,rfl⟩:=q9;refine Zp (Zp ⟨rfl,?_⟩);refine again (acc9:=acc ++ [d8]) I9 (E8.FL hD) (G8.grow BH) ⟨S8.1,λj d q=>let⟨v,a,b⟩:=S8.2 j d q;⟨v,a,Rel.grow BH d b⟩⟩ aP ?_ (by simp;omega) h9 (by simp);exact aj.append (aj.grow BH _ FW) (by simp only[aj];exact⟨v8,[],rfl,Rel.grow BH _ r8,rfl⟩)
 . have ei:i=L:=by omega
   subst ei;rw[acs]at hf;obtain⟨xs,mB,Lo,rfl,rfl⟩:=zF hf;obtain⟨st,go⟩:=j1 xs mB Lo;refine aW (T.done X' rfl rfl rfl S _ [] s σ H _ I (oM FN) ti (st (Zu _))) λr s4 ⟨hr,I4⟩=>?_;subst hr;exact Zp (fin s4 σ H ιo vs I4 FN E1 G1 FP (by simpa using vk))
noncomputable def bq (mk:List D->G->Option (D×G))(a:FI)(fr:List (Option Nat))(t:FG)(c:FT)(e:FE):FE:=λσ g=>(a σ g).bind λr=>if aA r.1.length=true then(cy t c e r.1 (bM fr σ) r.2).bind λq=>mk q.1 q.2 else none
noncomputable def jF (mk:List D->G->Option (D×G))(a:pQ)(fr:List (Option Nat))(t:FG)(c:FT)(e:FE):FE:=λσ g=>(a σ g).bind λr=>if aA r.2.1=true then(dM r.1 r.2.1 t c e r.2.1 (bM fr σ) r.2.2).bind λq=>mk q.1 q.2 else none
noncomputable def bw (ds:List D)(g:G):Option (D×G):=some (.lst ds,g)
noncomputable def iZ (ds:List D)(g:G):Option (D×G):=some (.ref g.length,g ++ [ds])
theorem bH.sub {K H ι e σ}(fr:List (Option Nat))(h:bH K H ι e σ):bH K H ι (bM fr e) (bM fr σ):=by
 refine⟨by simp[bM],λj d q=>?_⟩;unfold bM at q ⊢;rw[ZE]at q ⊢;cases hf:fr[j]? with
 |none=>rw[hf]at q;cases q
 |some o =>
  rw[hf]at q;cases o with
  |none=>cases q
  |some i =>
   have a:e[i]? = some (some d):=by
    simp only[abg,aep]at q;cases z:e[i]? with
    |none=>rw[z]at q;cases q|some w=>rw[z]at q;simp at q;rw[q]
   obtain⟨v,c,b⟩:=h.2 i d a;exact⟨v,by simp[c],b⟩
section
variable {X:Cx}{tg iter elt:Expr}{ifs:List Expr}{scope:Scope}{pos c_:Pos}{N:List Str}{fr:List (Option Nat)}{fi:pQ}{t:FG}{c:FT}{e:FE}
theorem mT {a8:List (Addr×Obj)}{s:Zo}{σ:L2.St}{H:Hp}{ι:Ix}{B:Sg}{g g1 g':G}{all:List D}{sh:Sh}{L:Nat}{use:Option (Value->Sem Unit)}{Q:Value->Zo->Prop}
  (U:X.xe=λ_ _=>False) (O:X.calm=true) (ok:eH X N fr scope) (E:vj X tg iter fi) (M:∀C s3 H fp a8,DG (a_ X N scope C s3 H fp a8) tg t/\gz (a_ X N scope C s3 H fp a8) ifs c/\DE (a_ X N scope C s3 H fp a8) elt e)
  (R:∀x,aaq iter X.env x=pure x) (I:Inv X a8 σ H s) (G0:aw X.kw H ι g) (K:bH X.kw H ι B σ) (P:fi B g=some (sh,L,g1)) (hz:aA L=true) (S:dM sh L t c e L (bM fr B) g1=some (all,g'))
  (fin:∀s' H' ιo vs Dl C,Inv X a8 σ H' s'->fD X a8 H' C->(∃m,s'.heap.Ns C m)->Ext H ι H' ιo->aw X.kw H' (Ix.hide ιo Dl) g'->H' Dl=some (.lst vs)->aj X.kw H' (Ix.hide ιo Dl) all vs->Dl ∉ ιo.hd->H Dl=none->compPost (model X.prog X.w) X.A X.xe use Q (.ref Dl) C (.ok .next) s'):
  wpAny (model X.prog X.w) X.A (comprehension (.ListComp elt [⟨tg,iter,ifs,0⟩] scope pos) scope X.env c_ (newList []) false (eval iter X.env) use) Q X.xe s:=by
 have free:∀x∈scope.names,x.2 = .free->∃c,X.env.cells.lookup x.1=some c:=λx hx hk=>I.ok.has x.1 (ok.free x hx hk).2;refine wpAny_comprehension_free (use:=use) rfl R (tU free) ok.kind ok.names (aW (E.un a8 s σ H (λJ H'=>∃h,Ext H ι H' h/\aw X.kw H' h g1/\zE X.kw J H' h sh L) I ⟨ι,B,g,sh,L,g1,G0,K,P,λH1 h J r y J1=>⟨h,r,y,J1⟩⟩) λxv s1 xK=>aW xK λJ7 s2 q2=>?_);obtain⟨it,fp,tn,J,H1,rfl,I1,T,t1,f1,h,r,y,J1⟩:=q2;refine aae ?_;have k:H1 s2.heap.objs.size=none:=I1.aS.fresh (Zu _);generalize Lq:({ s2 with heap:=s2.heap.push { cls:=.type "list",dict:=none,data:=.seq ([]:List Value).toArray } }:Zo)=s3;have I3:Inv X a8 σ (upd H1 s2.heap.objs.size (.lst [])) s3:=by rw[<- Lq];exact I1.laid (t':=s2.toks) (λb u e=>Zs _ e) (Zu _) ⟨aab _,[],0,.nil,ZC _ rfl⟩
 have k3:∀b o,s2.heap.get? b=some o->s3.heap.get? b=some o:=λb o e=>by rw[<- Lq];exact Zs _ e
 have Q7:s3.heap.objs.size=s2.heap.objs.size+1:=by rw[<- Lq];exact abe ..
 have sI:∀b∈fp,b<s2.heap.objs.size:=λb f=>let⟨o,eo,_⟩:=T.obj _ _ t1 b f;ZG eo;have i:∀b∈fp,fD X a8 (upd H1 s2.heap.objs.size (.lst [])) b:=λb f=>⟨by rw[aC (Z1 (sI b f))];exact(f1 b f).1,(f1 b f).2⟩
 refine xa (OZ I3) λh4 TU k4 kc=>?_;have I4:=zD (tk:=s3.toks) ok I3 i (λb f=>by rw[Q7];exact aa1 (sI b f)) TU k4 kc;obtain⟨hg,hi,he⟩:=M s3.heap.objs.size s3 (upd H1 s2.heap.objs.size (.lst [])) fp a8;have t4:tn 0 h4:=T.keep _ _ _ t1 λb f o e=>k4 b o (k3 b o e);have fx:∀b∈fp,fD (a_ X N scope s3.heap.objs.size s3 (upd H1 s2.heap.objs.size (.lst [])) fp a8) [] (upd H1 s2.heap.objs.size (.lst [])) b:=λb f=>by
  refine⟨(i b f).1,?_,?_,.inl f,?_,?_⟩
  . exact Z1 (by rw[Q7];exact aa1 (sI b f))
  . exact I4.ok.uN b f
  . exact(I4.ok.JI b f).2
  . intro p hp
    have xH:p∈X.pn++a8:=by have q:p∈(X.pn++a8) ++ []:=hp;simpa using q
    exact(f1 b f).2.2.2.2.2 p xH
 have loop:acK (model X.prog X.w) X.A (.compLoop (.ListComp elt [⟨tg,iter,ifs,0⟩] scope pos) 0 (.ref it) (.ref s2.heap.objs.size) (compEnvC scope (cellsOf scope X.env s3.heap.objs.size) s3.heap.objs.size X.env))
    (compPost (model X.prog X.w) X.A X.xe use Q (.ref s2.heap.objs.size) s3.heap.objs.size) { s3 with heap:=h4 }:=by
  refine BF (X':=a_ X N scope s3.heap.objs.size s3 (upd H1 s2.heap.objs.size (.lst [])) fp a8) (all:=all) (g':=g') rfl O T fx J1 k (aA.le hz) hg hi he ?_ _ _ _ h (bM fr B) g1 I4 t4 (λb f=>(i b f).1) ((Ext.refl (H:=H1) (ι:=h)).FL k) (y.hide k) ?_ aP S
  . intro s' σ' H' ιo vs l YN E' G' Wu r'
    have I5:Inv X a8 σ H' s':=I3.Oo (ch:=fp) l.os l.base l.aS l.bare λb f=>⟨(i b f).2.2.2.1,(i b f).2.1,(i b f).2.2.2.2.1,(i b f).2.2.2.2.2⟩
    obtain⟨m,hm,_⟩:=l.loc;refine fin s' H' ιo vs _ _ I5 ?_ ⟨m,hm⟩ (r.trans E') G' Wu r' ?_ ?_
    . have z:=I3.mL (H':=H') (b:=s3.heap.objs.size) (Zu _) l.free
      exact z
    . rw[E'.cH];exact y.gY k
    . cases q:H s2.heap.objs.size with
      |none=>rfl|some o=>exact absurd k (r.there _ (by rw[q];simp))
  . have S1:bH X.kw H1 h (bM fr B) (bM fr σ):=(K.ext r).sub fr
    exact⟨S1.1,λj d q=>let⟨v,a,b⟩:=S1.2 j d q;⟨v,a,Rel.hide k d b⟩⟩
 exact codeAny_compStart_list loop (T.self _ 0 _ _ _ t4 loop)
theorem jG {H ι H' a K g' all vs b d h Q}(e:Ext H ι H' a)(f:aw K H' (Ix.hide a b) g')(hD:H' b=some (.lst vs))(r:aj K H' (Ix.hide a b) all vs)(i:b ∉ a.hd)(j:bw all g'=some (d,h))(p:fF K H ι d h Q):Q (.ref b) H':=by cases j;refine p H' a _ e f.show ?_;simp only[Rel];exact⟨b,vs,rfl,.inl ⟨.inl hD,(f.cH b ZU).1,i⟩,aj.show _ r⟩
end
theorem aw.Lr {K H ι g p xs vs}(h:aw K H (Ix.hide ι p) g)(A:H p=some (.lst vs))(B:p ∉ ι.hd)(r:aj K H (Ix.hide ι p) xs vs):aw K H (ι.more p 0) (g ++ [xs]):=by
 have Wv:p ∉ ι.ix:=(h.cH p ZU).1;have Q8:∀{n:Nat} {a:Addr} {b:Bool},d5 (Ix.hide ι p) n a b->d5 (ι.more p 0) n a b:=fun {n a b} f=>by
   have hl:n < ι.ix.length:=(Zq.mp f.1).1;refine⟨?_,?_⟩
   . show(ι.ix ++ [p])[n]? = some a
     rw[ZI hl];exact f.1
   . show kb (if n=ι.ix.length then 0 else ι.kd n)=b
     rw[if_neg (by omega)];exact f.2
 have up:∀(d:D) (v:V),Rel K H (Ix.hide ι p) d v->Rel K H (ι.more p 0) d v:=λd=>by
   refine D.rec (motive_1:=λd=>∀v,Rel K H (Ix.hide ι p) d v->Rel K H (ι.more p 0) d v) (motive_2:=λds=>∀vs,aj K H (Ix.hide ι p) ds vs->aj K H (ι.more p 0) ds vs)
     ?_ ?_ ?_ ?_ ?_ ?_ ?_ ?_ ?_ ?_ ?_ ?_ d
   . intro v h;simpa[Rel]using h
   . intro b v h;simpa[Rel]using h
   . intro b v h;simpa[Rel]using h
   . intro b v h;simpa[Rel]using h
   . intro xs ih v h
     simp only[Rel]at h ⊢;obtain⟨a,us,j,f,s⟩:=h;refine⟨a,us,j,?_,ih _ s⟩;rcases f with⟨f,n⟩|f
     . refine .inl ⟨f,λz=>?_⟩
       rcases Zy.mp z with z|z
       . exact n z
       . simp at z;subst z
         rcases f with f|⟨o,f⟩<;>(rw[A]at f;cases f)
     . exact .inr f
   . intro xs ih v h
     simp only[Rel]at h ⊢;obtain⟨a,us,j,f,s⟩:=h;refine⟨a,us,j,?_,ih _ s⟩;rcases f with⟨f,n,k⟩|f
     . refine .inl ⟨f,λz=>?_,λz=>k (Zz _ z)⟩
       rcases Zy.mp z with z|z
       . exact n z
       . simp at z;subst z;exact k ZU
     . exact .inr f
   . intro v h
     simp only[Rel]at h ⊢;obtain⟨a,j,f,s⟩:=h;refine⟨a,j,f,λz=>?_⟩;rcases Zy.mp z with z|z
     . exact s z
     . simp at z;subst z;rw[A]at f;cases f
   . intro n v h
     simp only[Rel]at h ⊢;obtain⟨a,j,f⟩:=h;exact⟨a,j,Q8 f⟩
   . intro n v h
     simp only[Rel]at h ⊢;obtain⟨a,j,f⟩:=h;exact⟨a,j,Q8 f⟩
   . intro x ds ih v h
     simp only[Rel]at h ⊢;obtain⟨a,us,j,f,s⟩:=h;refine⟨a,us,j,f.mono λc u z q=>⟨q.1,λm=>?_,λy m=>q.2.2 y (Zz _ m)⟩,ih _ s⟩;rcases Zy.mp m with m|m
     . exact q.2.1 m
     . simp at m;have y:=q.1;rw[m,A]at y;rw[<- aam y]at z;cases z
   . intro vs h;simpa[aj]using h
   . intro d ds KS Bq vs h
     simp only[aj]at h ⊢;obtain⟨v,vr,j,f,s⟩:=h;exact⟨v,vr,j,KS v f,Bq vr s⟩
 have Q9:∀(ds:List D) (vs:List V),aj K H (Ix.hide ι p) ds vs->aj K H (ι.more p 0) ds vs:=λds=>by
   induction ds with
   |nil=>intro vs h;simpa[aj]using h
   |cons d ds ih =>
     intro vs h;simp only[aj]at h ⊢;obtain⟨v,vr,j,f,s⟩:=h;exact⟨v,vr,j,up d v f,ih vr s⟩
 refine⟨?_,by simp[<- h.len,Ix.hide,Ix.more],λb hb=>⟨λz=>?_,(h.cH b (Zz _ hb)).2⟩,λi ys q=>?_,λq f=>⟨(h.tb q f).1,λm=>?_⟩⟩
 . show(ι.ix ++ [p]).Nodup
   rw[abr];refine⟨h.nd,by simp,λa ha b hb=>?_⟩;simp at hb;subst hb;intro e;subst e;exact Wv ha
 . rcases Zy.mp z with z|z
   . exact(h.cH b (Zz _ hb)).1 z
   . simp at z;subst z;exact B hb
 . have hl:ι.ix.length=g.length:=h.len
   by_cases hi:i<g.length
   . rw[ZI hi]at q
     obtain⟨a,o,us,h1,h2,ov,h3⟩:=h.at_ i ys q;refine⟨a,o,us,(by show(ι.ix ++ [p])[i]? = some a;rw[ZI (by rw[hl];exact hi)];exact h1),h2,?_,Q9 _ _ h3⟩;show OV K _ _ (if i=ι.ix.length then 0 else ι.kd i) o us;rw[if_neg (by omega)];exact ov
   . rw[ZX (by omega)]at q
     have FH:i-g.length=0:=by
       cases e:i-g.length with
       |zero=>rfl|succ k=>rw[e]at q;simp at q
     rw[FH]at q;have e:xs=ys:=by simpa using q
     subst e;refine⟨p,_,vs,?_,A,?_,Q9 _ _ r⟩
     . show(ι.ix ++ [p])[i]? = some p
       rw[ZX (by rw[hl];omega),hl,FH];rfl
     . show OV K _ _ (if i=ι.ix.length then 0 else ι.kd i) _ vs
       rw[if_pos (by omega)];exact .l vs
 . rcases Zy.mp m with m|m
   . exact(h.tb q f).2 m
   . simp at m;have z:=(h.tb q f).1;rw[m,A]at z;cases z
theorem vm {H ι H' f K g' all vs h d k Q}(e:Ext H ι H' f)(q:H h=none)(j:aw K H' (Ix.hide f h) g')(hD:H' h=some (.lst vs))(r:aj K H' (Ix.hide f h) all vs)(l:h ∉ f.hd)(o:iZ all g'=some (d,k))(p:fF K H ι d k Q):Q (.ref h) H':=by
 cases o;obtain⟨m,em,c⟩:=e.more;refine p H' (f.more h 0) _ ⟨e.same,e.there,⟨m ++ [h],by show f.ix ++ [h]=_;rw[em,Z3],λa z=>?_⟩,e.cH,λi b=>?_⟩ (j.Lr hD l r) ?_
 . rcases Zy.mp z with z|z
   . exact c a z
   . simp at z;subst z;exact q
 . show(if i=f.ix.length then 0 else f.kd i)=ι.kd i
   rw[if_neg (by rw[em,ZH];omega)];exact e.mr i b
 . simp only[Rel]
   exact⟨h,rfl,d5.new j.len⟩
section
variable {X:Cx}{tg iter elt:Expr}{ifs:List Expr}{scope:Scope}{pos c_:Pos}{N:List Str}{fr:List (Option Nat)}{fi:pQ}{t:FG}{c:FT}{e:FE}
theorem vn (B:X.xe=λ_ _=>False)(J:X.calm=true)(ok:eH X N fr scope)(A:vj X tg iter fi)(E:∀C s3 H fp a8,DG (a_ X N scope C s3 H fp a8) tg t/\gz (a_ X N scope C s3 H fp a8) ifs c/\DE (a_ X N scope C s3 H fp a8) elt e)
   (K:∀x,aaq iter X.env x=pure x:=by intro _;rfl):DE X (.ListComp elt [⟨tg,iter,ifs,0⟩] scope pos) (jF bw fi fr t c e):=.of (by
 intro a8 s σ H Q I h;obtain⟨ι,σd,g,d,gg,G0,S0,h,p⟩:=h;obtain⟨⟨sh,L,g1⟩,h1,h⟩:=bind_some h;dsimp only at h;split at h
 . rename_i i
   obtain⟨⟨all,g'⟩,j,h⟩:=bind_some h;rw[eval_ListComp];refine mT (use:=none) B J ok A E K I G0 S0 h1 i j λz a ιo vs k C I' fC ⟨m,hm⟩ f y hD r q pR=>?_;refine⟨m,hm,λvo l=>⟨.ref k,a,?_,rfl,jG f y hD r q h p⟩⟩;obtain⟨f0,f1,f2,u,f4,f5⟩:=fC;exact I'.turned (t':=z.toks) (λb o hb e=>l.extBut b o hb e) f0 f1 u f4 f5
 . cases h)
theorem mU {mk:List D->G->Option (D×G)}{i:Nat}{x:Str}{px E:Pos}(J:∀{H ι H' ιo g' all vs Dl d gg Q},Ext H ι H' ιo->H Dl=none->aw X.kw H' (Ix.hide ιo Dl) g'->H' Dl=some (.lst vs)->aj X.kw H' (Ix.hide ιo Dl) all vs->Dl ∉ ιo.hd->mk all g'=some (d,gg)->fF X.kw H ι d gg Q->Q (.ref Dl) H')
   (K:X.xe=λ_ _=>False) (R:X.calm=true) (ok:eH X N fr scope) (B:vj X tg iter fi) (M:∀C s3 H fp a8,DG (a_ X N scope C s3 H fp a8) tg t/\gz (a_ X N scope C s3 H fp a8) ifs c/\DE (a_ X N scope C s3 H fp a8) elt e)
   (O:X.N.Nodup) (U:X.N[i]? = some x) (W:Loc X.env.scope x)
   (S:acA (.ListComp elt [⟨tg,iter,ifs,0⟩] scope pos) (some (.Name x px)) E.line X.env=pure true)
   (T:∀x,aaq iter X.env x=pure x) (P:X.fn x=true\/X.env.scope.names.lookup x=some .local):DS X (.Assign [.Name x px] (.ListComp elt [⟨tg,iter,ifs,0⟩] scope pos) E) (aF (jF mk fi fr t c e) (gN i)):=.of (by
 intro a8 s σ H q I h;obtain⟨ι,y,g,r,cj,gg,G0,S0,h0,p⟩:=h;obtain⟨⟨d,Wx⟩,xK,hr⟩:=bind_some h0;have cY:some (F.nx,y.set i (some d),Wx)=some (r,cj,gg):=hr;clear h0;obtain⟨⟨sh,L,g1⟩,h1,f⟩:=bind_some (x:=fi y g) xK;dsimp only at f;split at f
 . rename_i hz
   obtain⟨⟨all,g'⟩,h2,h4⟩:=bind_some f;rw[exec_Assign_Name_used _ _ _ _ S];refine Zm (aej (Zm ?_));show wpAny _ X.A (do let _ <- comprehension (.ListComp elt [⟨tg,iter,ifs,0⟩] scope pos) scope X.env _ (newList []) false (eval iter X.env) (some (acF (.Name x px) X.env))) _ _ s;refine Zm (adB (mT (use:=some (acF (.Name x px) X.env)) (Q:=λ_ l=>SP X a8 q .next l) K R ok B M T I G0 S0 h1 hz h2 λl H' ιo vs Dl C I' fC ⟨m,hm⟩ e' G' hD r hn pR=>?_) (λ_ l hq=>Zp (Zp hq)) λ_ _ e=>e);show wpAny _ X.A (acF (.Name x px) X.env (.ref Dl)) _ _ _;refine wpAny_assign_Name (rZ I' O U W (v:=.ref Dl) rfl (λuT j ⟨a,sb,k⟩=>?_) P);obtain⟨f0,f1,f2,f3,f4,f5⟩:=fC;have BI:C≠a:=by
    rcases k with rfl|k
    . exact f1
    . exact λz=>f4 _ _ k z.symm
   obtain⟨oc,es,ep,ho,rest⟩:=hm;refine⟨m,⟨oc,es,ep,(sb.2 C BI).trans ho,rest⟩,λvo Wy=>?_⟩;refine⟨σ.set i (some (.ref Dl)),H',j.turned (t':=uT.toks) (λb o hb e=>Wy.extBut b o hb e) f0 f1 f3 f4 f5,?_⟩;cases cY;exact J (Q:=λv H'=>q.nx (σ.set i (some v)) H') e' pR G' hD r hn h4 λH2 ι2 v u G2 r2=>p H2 ι2 u G2 _ ((S0.ext u).set r2 i)
 . cases f)
theorem sO (B:X.xe=λ_ _=>False)(J:X.calm=true)(ok:eH X N fr scope)(A:vj X tg iter fi)(E:∀C s3 H fp a8,DG (a_ X N scope C s3 H fp a8) tg t/\gz (a_ X N scope C s3 H fp a8) ifs c/\DE (a_ X N scope C s3 H fp a8) elt e)
   (K:∀x,aaq iter X.env x=pure x:=by intro _;rfl):DE X (.ListComp elt [⟨tg,iter,ifs,0⟩] scope pos) (jF iZ fi fr t c e):=.of (by
 intro a8 s σ H Q I h;obtain⟨ι,σd,g,d,gg,G0,S0,h,p⟩:=h;obtain⟨⟨sh,L,g1⟩,h1,h⟩:=bind_some h;dsimp only at h;split at h
 . rename_i i
   obtain⟨⟨all,g'⟩,j,h⟩:=bind_some h;rw[eval_ListComp];refine mT (use:=none) B J ok A E K I G0 S0 h1 i j λz a ιo vs k C I' fC ⟨m,hm⟩ f y hD r q pR=>?_;refine⟨m,hm,λvo l=>⟨.ref k,a,?_,rfl,vm f pR y hD r q h p⟩⟩;obtain⟨f0,f1,f2,u,f4,f5⟩:=fC;exact I'.turned (t':=z.toks) (λb o hb e=>l.extBut b o hb e) f0 f1 u f4 f5
 . cases h)
end
noncomputable def BJ (a:FI):pQ:=λσ g=>(a σ g).map λr=>(λ_=>some r.1,r.1.length,r.2)
theorem mW {X:Cx}{tg A:Expr}{B:FI}(h:DI X tg A B):vj X tg A (BJ B):=.of (PI.imp h.un λσ H Q q=>by
 obtain⟨ι,b,g,sh,L,g',G0,u,c,p⟩:=q;obtain⟨⟨ds,g1⟩,r,e⟩:=Zv.mp c;cases e;exact⟨ι,b,g,ds,g1,G0,u,r,λa f J j k y=>p a f J j k λi H1 l g2 o x xs s z=>by cases s;exact y i H1 l g2 o x⟩)
theorem qX {ds:List D}{t:FG}{c:FT}{e:FE}:∀(k:Nat) (σ:Sg) (g:G),k<=ds.length->dM (λ_=>some ds) ds.length t c e k σ g=cy t c e (ds.drop (ds.length-k)) σ g
 | 0,σ,g,_=>by simp[dM,cy]
 |k+1,σ,g,h=>by
  have a:ds.length-(k+1)<ds.length:=by omega
  rw[aak a,show ds.length-(k+1)+1=ds.length-k by omega];simp only[dM,cy,Zt,if_true,Zn a];refine congrArg _ (funext λq=>congrArg _ (funext λb=>?_));split
  . refine congrArg _ (funext λr=>?_)
    rw[qX k _ _ (by omega)]
  . rw[qX k _ _ (by omega)]
theorem nJ {mk:List D->G->Option (D×G)}{a:FI}{fr:List (Option Nat)}{t:FG}{c:FT}{e:FE}:bq mk a fr t c e=jF mk (BJ a) fr t c e:=by
 funext σ g;unfold bq jF BJ;cases a σ g with
 |none=>rfl
 |some r =>
  simp only[Zt,abg];rw[qX _ _ _ (Zu _),acs,acu]
section
variable {X:Cx}{tg iter elt:Expr}{ifs:List Expr}{scope:Scope}{pos c_:Pos}{N:List Str}{fr:List (Option Nat)}{fi:FI}{t:FG}{c:FT}{e:FE}
theorem HS (b:X.xe=λ_ _=>False)(h:X.calm=true)(ok:eH X N fr scope)(a:DI X tg iter fi)(f:∀C s3 H fp a8,DG (a_ X N scope C s3 H fp a8) tg t/\gz (a_ X N scope C s3 H fp a8) ifs c/\DE (a_ X N scope C s3 H fp a8) elt e)
  (i:∀x,aaq iter X.env x=pure x:=by intro _;rfl):DE X (.ListComp elt [⟨tg,iter,ifs,0⟩] scope pos) (bq bw fi fr t c e):=by
 rw[nJ];exact vn b h ok (mW a) f i
theorem zH {i:Nat}{x:Str}{px k:Pos}(l:X.xe=λ_ _=>False)(u:X.calm=true)(ok:eH X N fr scope)(j:DI X tg iter fi)(o:∀C s3 H fp a8,DG (a_ X N scope C s3 H fp a8) tg t/\gz (a_ X N scope C s3 H fp a8) ifs c/\DE (a_ X N scope C s3 H fp a8) elt e)
  (q:X.N.Nodup) (A:X.N[i]? = some x) (B:Loc X.env.scope x) (y:acA (.ListComp elt [⟨tg,iter,ifs,0⟩] scope pos) (some (.Name x px)) k.line X.env=pure true:=by rfl)
  (z:∀x,aaq iter X.env x=pure x:=by intro _;rfl) (s:X.fn x=true\/X.env.scope.names.lookup x=some .local:=by first|exact .inl rfl|exact .inr rfl|assumption):
  DS X (.Assign [.Name x px] (.ListComp elt [⟨tg,iter,ifs,0⟩] scope pos) k) (aF (bq bw fi fr t c e) (gN i)):=
 by rw[nJ];exact mU (λf _ h hD r a b p=>jG f h hD r a b p) l u ok (mW j) o q A B y z s
theorem xb {i:Nat}{x:Str}{px l:Pos}(o:X.xe=λ_ _=>False)(y:X.calm=true)(ok:eH X N fr scope)(k:DI X tg iter fi)(q:∀C s3 H fp a8,DG (a_ X N scope C s3 H fp a8) tg t/\gz (a_ X N scope C s3 H fp a8) ifs c/\DE (a_ X N scope C s3 H fp a8) elt e)
  (s:X.N.Nodup) (B:X.N[i]? = some x) (E:Loc X.env.scope x) (z:acA (.ListComp elt [⟨tg,iter,ifs,0⟩] scope pos) (some (.Name x px)) l.line X.env=pure true:=by rfl)
  (A:∀x,aaq iter X.env x=pure x:=by intro _;rfl) (u:X.fn x=true\/X.env.scope.names.lookup x=some .local:=by first|exact .inl rfl|exact .inr rfl|assumption):
  DS X (.Assign [.Name x px] (.ListComp elt [⟨tg,iter,ifs,0⟩] scope pos) l) (aF (bq iZ fi fr t c e) (gN i)):=
 by rw[nJ];exact mU (λh a j hD r b f p=>vm h a j hD r b f p) o y ok (mW k) q s B E z A u
end
noncomputable def jf (sh:Sh)(L:Nat)(t:FG)(b:FS):Nat->FS
 | 0,σ,g=>(sh g).bind λxs=>if xs.length=L then some (.nx,σ,g)else none
 |r+1,σ,g=>(sh g).bind λxs=>if xs.length=L then(xs[L-(r+1)]?).bind λd=>(t d σ g).bind λq=>(b q.1 q.2).bind λa=>match a.1 with
   |.nx=>jf sh L t b r a.2.1 a.2.2|.ct=>jf sh L t b r a.2.1 a.2.2|.bk=>some (.nx,a.2.1,a.2.2)|.rt d=>some (.rt d,a.2.1,a.2.2)
  else none
noncomputable def zI (a:pQ)(t:FG)(b:FS):FS:=λσ g=>(a σ g).bind λr=>jf r.1 r.2.1 t b r.2.1 σ r.2.2
section
variable {X:Cx}{tg:Expr}{pos:Pos}
inductive Ei (X:Cx)(t:FG)(b:FS)(sh:Sh)(L:Nat)(H1:Hp)(ι1:Ix)(r:F)(cj:Sg)(g':G)(i:Nat)(σ2:L2.St)(H2:Hp):Prop
 |mk (ι2:Ix) (pO:Sg) (g2:G) (e2:Ext H1 ι1 H2 ι2) (G2:aw X.kw H2 ι2 g2) (S2:bH X.kw H2 ι2 pO σ2) (hf:jf sh L t b (L-i) pO g2=some (r,cj,g')):Ei X t b sh L H1 ι1 r cj g' i σ2 H2
theorem HU {B:Expr}{body:List Stmt}{E:pQ}{t:FG}{b:FS}(N:ad5 (model X.prog X.w) X.A X.env X.xe)(I:X.calm=true)(C:vj X tg B E)(K:DG X tg t)(M:kG X body b)
   (O:∀x,aaq B X.env x=pure x:=by intro _;rfl):DS X (.For tg B body [] pos) (zI E t b):=.of (PS.imp (J_ N I C.un K.un M.un O) λDn σ H h=>by
 obtain⟨ι,σd,g,r,cj,g',G0,S0,h,p⟩:=h;obtain⟨⟨sh,L,g1⟩,h1,h⟩:=bind_some h;refine⟨ι,σd,g,sh,L,g1,G0,S0,h1,λH1 ι1 J k G1 J1=>?_⟩;dsimp only at h;refine⟨λi m q c=>m=L-i/\i<=L/\Ei X t b sh L H1 ι1 r cj g' i q c,
   ⟨L,by simp,aab _,ι1,σd,g1,Ext.refl,G1,S0.ext k,by simpa using h⟩,?_⟩
 rintro i m q c ⟨rfl,C,o,pO,g2,s,G2,S2,hf⟩;have j1:=J1 i c o g2 s.d7 G2;by_cases cX:i<L
 . rw[show L-i=(L-(i+1))+1 by omega]at hf
   simp only[jf]at hf;obtain⟨xs,hx,hf⟩:=bind_some hf;split at hf
   . rename_i hl
     obtain⟨d0,BG,hf⟩:=bind_some hf;rw[show L-(L-(i+1)+1)=i by omega]at BG;obtain⟨⟨σ3,g3⟩,h3,hf⟩:=bind_some hf;obtain⟨⟨r4,z,u⟩,h4,hf⟩:=bind_some hf;obtain⟨st,go⟩:=j1 xs hx hl;obtain⟨go,yl⟩:=go d0 BG;refine .inr ⟨go,λσ5 H5=>Ei X t b sh L H1 ι1 r cj g' (i+1) σ5 H5,?_,?_⟩
     . rintro σ5 H5 ⟨ι5,Wz,g5,e5,G5,S5,h5⟩
       exact⟨L-(i+1),by omega,rfl,cX,ι5,Wz,g5,e5,G5,S5,h5⟩
     . intro x H' y
       obtain⟨e3,G3,r3⟩:=yl x H' y;refine⟨o,pO,g2,d0,σ3,g3,G3,S2.ext e3,r3,h3,λH6 ι6 σ6 e6 G6 S6=>?_⟩;refine⟨ι6,σ3,g3,r4,z,u,G6,S6,h4,λH7 l e7 j=>?_⟩;have f:=s.trans (e3.trans (e6.trans e7));cases r4 with
       |nx=>exact λσ' a=>⟨l,z,u,f,j,a,hf⟩|ct=>exact λσ' a=>⟨l,z,u,f,j,a,hf⟩|bk=>cases hf;exact λσ' a=>p H7 l (k.trans f) j σ' a|rt d=>cases hf;exact λv r7=>p H7 l (k.trans f) j v r7
   . cases hf
 . have e:i=L:=by omega
   subst e;rw[acs]at hf;simp only[jf]at hf;obtain⟨xs,hx,hf⟩:=bind_some hf;split at hf
   . rename_i hl
     cases hf;obtain⟨st,_⟩:=j1 xs hx hl;exact .inl ⟨st (Zu _),p c o (k.trans s) G2 q S2⟩
   . cases hf)
end
theorem xN {ds:List D}{t:FG}{b:FS}:∀(k:Nat) (σ:Sg) (g:G),k<=ds.length->jf (λ_=>some ds) ds.length t b k σ g=forL t b (ds.drop (ds.length-k)) σ g
 | 0,σ,g,_=>by simp[jf,forL]
 |k+1,σ,g,h=>by
  have a:ds.length-(k+1)<ds.length:=by omega
  rw[aak a,show ds.length-(k+1)+1=ds.length-k by omega];simp only[jf,forL,Zt,if_true,Zn a,xN k _ _ (ac_ h)]<;>rfl
theorem Ls {a:FI}{t:FG}{b:FS}:fg a t b=zI (BJ a) t b:=by
 funext σ g;unfold fg zI BJ;cases a σ g with
 |none=>rfl
 |some r =>
  simp only[Zt,abg];rw[xN _ _ _ (Zu _),acs,acu]
theorem Lu {X:Cx}{tg:Expr}{c:Pos}{a:Expr}{body:List Stmt}{e:FI}{t:FG}{b:FS}(k:ad5 (model X.prog X.w) X.A X.env X.xe)(h:X.calm=true)(f:DI X tg a e)(i:DG X tg t)(j:kG X body b)
  (l:∀x,aaq a X.env x=pure x:=by intro _;rfl):DS X (.For tg a body [] c) (fg e t b):=by
 rw[Ls];exact HU k h (mW f) i j l
noncomputable def bU (c:Int->Int->Bool)(f:Int->Int->Int)(a b:D)(g:G):Option (D×G):=match a,b with
 |.int i,.int j=>if c i j=true then some (.int (f i j),g)else none|_,_=>none
noncomputable def pT (f:Int->Int->Bool)(b a:D)(g:G):Option (D×G):=match b,a with
 |.int i,.int j=>some (.bl (f i j),g)|_,_=>none
noncomputable def di (_ _:Int):Bool:=true
noncomputable def b_ (i j:Int):Bool:=ac5 i.natAbs 18446744073709551615||ac5 j.natAbs 18446744073709551615
noncomputable def dF (_ j:Int):Bool:=ac5 1 j.toNat&&ac5 j.toNat 1073741823
noncomputable def dj (_ j:Int):Bool:=ac5 1 j.toNat
noncomputable def jg (i j:Int):Bool:=(match j with|.ofNat n=>ac5 n 1000000|.negSucc _=>false)&&ac5 i.natAbs 18446744073709551615
section
variable {X:Cx}
theorem kJ {f:Value->Value->Sem Value}{C:Int->Int->Prop}{c:Int->Int->Bool}{A:Int->Int->Int}(h:bK X f (rI C λi j=>.int (A i j)))(B:∀i j,c i j=true->C i j):bK X f (dH X.kw (bU c A)):=by
 intro a8 s σ H x y v u Q I k l q;obtain⟨ι,g,e,o,d,r,G0,a,b,q,p⟩:=q;cases e with
 |int i =>
  cases o with
  |int j =>
   simp only[Rel]at a b;subst a;subst b;simp only[bU]at q;split at q
   . rename_i z
     cases q;exact h a8 s σ H _ _ v u Q I k l ⟨i,j,rfl,rfl,B i j z,p H ι _ Ext.refl G0 (by simp[Rel])⟩
   . cases q
  |_=>cases q
 |_=>cases q
theorem xO {g:Int->Int->V}{x y:V}{H:Hp}{Q:VK}(h:rI (λ_ _=>True) g x y H Q):og g x y H Q:=let⟨i,j,a,b,_,q⟩:=h;⟨i,j,a,b,q⟩
theorem bK.imp {f:Value->Value->Sem Value}{r r':R2}(h:bK X f r)(i:∀x y H Q,r' x y H Q->r x y H Q):bK X f r':=λa8 s σ H x y v u Q I b a q=>h a8 s σ H x y v u Q I b a (i _ _ _ _ q)
theorem Lv:bK X (aaH .Sub) (dH X.kw (bU di (· - ·))):=kJ (bK.imp Kf λ_ _ _ _=>xO) λ_ _ _=>trivial
theorem HV:bK X (aaH .Add) (dH X.kw (bU di (· + ·))):=kJ (bK.imp Ke λ_ _ _ _=>xO) λ_ _ _=>trivial
theorem HW:bK X (aaH .Mult) (dH X.kw (bU b_ (· * ·))):=kJ Kg λi j h=>by
 unfold b_ at h;simp only[aac]at h;rcases h with h|h
 . have:=aa2 h
   exact .inl ⟨by omega,by omega⟩
 . have:=aa2 h
   exact .inr ⟨by omega,by omega⟩
theorem HY:bK X (aaH .FloorDiv) (dH X.kw (bU dF (· / ·))):=kJ Hk λi j h=>by unfold dF at h;simp only[Zr]at h;have b:=aa2 h.1;have a:=aa2 h.2;exact⟨by omega,by omega⟩
theorem Lw:bK X (aaH .Mod) (dH X.kw (bU dj (· % ·))):=kJ Kh λi j h=>by have a:=aa2 (show ac5 1 j.toNat=true from h);show 0<j;omega
theorem Ly:bK X (aaH .Pow) (dH X.kw (bU jg (λi j=>i ^ j.toNat))):=kJ Ki λi j h=>by
 unfold jg at h;simp only[Zr]at h;have a:=aa2 h.2;cases j with
 |ofNat n =>
  have b:=aa2 (show ac5 n 1000000=true from h.1);exact⟨afY n,(by show((n:Nat):Int)<=1000000;omega),(by omega)⟩
 |negSucc n=>exact absurd h.1 (by simp)
theorem ug {f:Value->Value->Sem Value}{r:Int->Int->Bool}(h:bK X f (og λi j=>.bl (r i j))):bK X f (dH X.kw (pT r)):=by
 intro a8 s σ H x y v u Q I e k q;obtain⟨ι,g,c,l,d,o,G0,a,b,q,p⟩:=q;cases c with
 |int i =>
  cases l with
  |int j =>
   simp only[Rel]at a b;subst a;subst b;cases q;exact h a8 s σ H _ _ v u Q I e k ⟨i,j,rfl,rfl,p H ι _ Ext.refl G0 (by simp[Rel])⟩
  |_=>cases q
 |_=>cases q
theorem O0:bK X (aaB .Lt) (dH X.kw (pT λi j=>decide (i<j))):=ug OE
theorem O1:bK X (aaB .LtE) (dH X.kw (pT λi j=>decide (i<=j))):=ug OF
theorem O2:bK X (aaB .Gt) (dH X.kw (pT λi j=>decide (j<i))):=ug OG
theorem O3:bK X (aaB .GtE) (dH X.kw (pT λi j=>decide (j<=i))):=ug OH
noncomputable def lG (d:D)(g:G):Option (D×G):=match d with|.int i=>some (.int (-i),g)|_=>none
theorem Lz:A4 X (unaryOp .USub) (K3 X.kw lG):=by
 intro a8 s σ H x v Q I c q;obtain⟨ι,g,b,d,e,G0,a,q,p⟩:=q;cases b with
 |int i =>
  simp only[Rel]at a;subst a;cases q;exact Kj a8 s σ H _ v Q I c ⟨i,rfl,p H ι _ Ext.refl G0 (by simp[Rel])⟩
 |_=>cases q
mutual
noncomputable def flat:D->Bool
 |.ref _=>false|.dZ=>false|.aX _=>false|.fn _ _=>false|.tup xs=>bt xs|.lst xs=>bt xs|_=>true
noncomputable def bt:List D->Bool
 | []=>true|d::ds=>flat d&&bt ds
end
mutual
noncomputable def aH:D->D->Bool
 |.ay,.ay=>true|.bl a,.bl b=>a == b|.bl a,.int b=>(if a then 1 else 0)== b|.int a,.bl b=>a == (if b then 1 else 0)|.int a,.int b=>a == b|.str a,.str b=>a == b|.tup xs,.tup ys=>gA xs ys|.lst xs,.lst ys=>gA xs ys|_,_=>false
noncomputable def gA:List D->List D->Bool
 | [],[]=>true|x::xs,y::ys=>aH x y&&gA xs ys|_,_=>false
end
mutual
noncomputable def dep:D->Nat
 |.tup xs=>da xs+1|.lst xs=>da xs+1|_=>0
noncomputable def da:List D->Nat
 | []=>0|d::ds=>max (dep d) (da ds)
end
mutual
theorem jH:∀d:D,flat d=true->aH d d=true
 |.ay,_=>by simp[aH]|.bl _,_=>by simp[aH]|.int _,_=>by simp[aH]|.str _,_=>by simp[aH]|.tup xs,h=>by simp only[aH];exact mX xs h|.lst xs,h=>by simp only[aH];exact mX xs h
theorem mX:∀ds:List D,bt ds=true->gA ds ds=true
 | [],_=>by simp[gA]|d::ds,h=>by simp only[bt,Zr]at h;simp only[gA,Zr];exact⟨jH d h.1,mX ds h.2⟩
end
theorem jI:∀xs ys:List D,gA xs ys=((ZN (min xs.length ys.length)).all (λj=>aH (xs[j]?.getD .ay) (ys[j]?.getD .ay))&&xs.length == ys.length)
 | [],[]=>by simp[gA]| [],y::ys=>by simp[gA]|x::xs,[]=>by simp[gA]|x::xs,y::ys=>by simp only[gA,jI xs ys,aaz,Nat.succ_min_succ,ae7,adk,ac8,agz,List.all_map,aaQ,List.getElem?_cons_succ];rw[Bool.and_assoc];congr 2;simp
theorem nK {a8:List (Addr×Obj)}{σ:L2.St}{H:Hp}{s:Zo}{a:Addr}{xs ys:List V}(I:Inv X a8 σ H s)(h:eK X.kw H a xs)(h':dw X.kw H a ys):False:=by obtain⟨f,_,c,_⟩:=I.tuple h;obtain⟨b,_,e,_⟩:=I.list h';exact SeqAt.ne_of_list_tuple e.isList c rfl
mutual
theorem Rel.inj {a8:List (Addr×Obj)}{σ:L2.St}{H:Hp}{s:Zo}{ι:Ix}(I:Inv X a8 σ H s):∀(d1 d2:D) {v:V},flat d1=true->flat d2=true->Rel X.kw H ι d1 v->Rel X.kw H ι d2 v->d1=d2
 |.ay,d2,v,_,f2,r1,r2=>by simp only[Rel]at r1;subst r1;cases d2<;>simp_all[Rel,flat]|.bl _,d2,v,_,f2,r1,r2=>by simp only[Rel]at r1;subst r1;cases d2<;>simp_all[Rel,flat]|.int _,d2,v,_,f2,r1,r2=>by simp only[Rel]at r1;subst r1;cases d2<;>simp_all[Rel,flat]|.str _,d2,v,_,f2,r1,r2=>by simp only[Rel]at r1;subst r1;cases d2<;>simp_all[Rel,flat]
 |.tup xs,d2,v,f1,f2,r1,r2=>by
  simp only[Rel]at r1;obtain⟨a,j,rfl,c,i⟩:=r1;cases d2 with
  |tup ys =>
   simp only[Rel]at r2;obtain⟨h,ws,e,b,f⟩:=r2;cases e;have:=I.mK c.sq b.sq;subst this;rw[aj.inj I xs ys f1 f2 i f]
  |lst ys =>
   simp only[Rel]at r2;obtain⟨h,ws,e,b,f⟩:=r2;cases e;exact(nK I c.sq b.sq).elim
  |dZ=>cases f2|ref n=>cases f2|aX n=>cases f2|fn x=>cases f2|_=>simp[Rel]at r2
 |.lst xs,d2,v,f1,f2,r1,r2=>by
  simp only[Rel]at r1;obtain⟨a,j,rfl,c,i⟩:=r1;cases d2 with
  |lst ys =>
   simp only[Rel]at r2;obtain⟨h,ws,e,b,f⟩:=r2;cases e;have:=I.lj c.sq b.sq;subst this;rw[aj.inj I xs ys f1 f2 i f]
  |tup ys =>
   simp only[Rel]at r2;obtain⟨h,ws,e,b,f⟩:=r2;cases e;exact(nK I b.sq c.sq).elim
  |dZ=>cases f2|ref n=>cases f2|aX n=>cases f2|fn x=>cases f2|_=>simp[Rel]at r2
 |.dZ,d2,v,f1,_,_,_=>by cases f1|.ref _,d2,v,f1,_,_,_=>by cases f1|.aX _,d2,v,f1,_,_,_=>by cases f1|.fn _ _,d2,v,f1,_,_,_=>by cases f1
theorem aj.inj {a8:List (Addr×Obj)}{σ:L2.St}{H:Hp}{s:Zo}{ι:Ix}(I:Inv X a8 σ H s):∀(ds es:List D) {vs:List V},bt ds=true->bt es=true->aj X.kw H ι ds vs->aj X.kw H ι es vs->ds=es
 | [],es,vs,_,_,r1,r2=>by
  simp only[aj]at r1;subst r1;cases es with
  |nil=>rfl|cons e es=>simp[aj]at r2
 |d::ds,es,vs,f1,f2,r1,r2=>by
  simp only[aj]at r1;obtain⟨v,k,rfl,c,a⟩:=r1;cases es with
  |nil=>simp[aj]at r2
  |cons e es =>
   simp only[aj]at r2;obtain⟨i,j,h,f,b⟩:=r2;cases h;simp only[bt,Zr]at f1 f2;rw[Rel.inj I d e f1.1 f2.1 c f,aj.inj I ds es f1.2 f2.2 a b]
end
theorem Rel.xP {K H ι d v b t}(r:Rel K H ι d v)(f:RelV v (.float b t)):False:=by
 cases d with
 |ay=>simp only[Rel]at r;subst r;cases f|bl _=>simp only[Rel]at r;subst r;cases f|int _=>simp only[Rel]at r;subst r;obtain⟨t,e⟩:=f;cases e
 |str _=>simp only[Rel]at r;subst r;obtain⟨t,e⟩:=f;cases e
 |tup _=>simp only[Rel]at r;obtain⟨a,c,rfl,_⟩:=r;cases f
 |lst _=>simp only[Rel]at r;obtain⟨a,c,rfl,_⟩:=r;cases f
 |dZ=>simp only[Rel]at r;obtain⟨a,rfl,_⟩:=r;cases f
 |ref _=>simp only[Rel]at r;obtain⟨a,rfl,_⟩:=r;cases f
 |aX _=>simp only[Rel]at r;obtain⟨a,rfl,_⟩:=r;cases f
 |fn _=>simp only[Rel]at r;obtain⟨a,_,rfl,_⟩:=r;cases f
theorem in1_units (A:ZY):A.in1.units=A.units+1:=rfl
section
open SeqAt
variable {a8:List (Addr×Obj)}{σ:L2.St}{H:Hp}{s:Zo}{ι:Ix}
theorem pU {A:ZY}{s:Zo}{u v:Value}{k:Bool}(h:RcAt A s u v k)(f:u=v->k=true)(e:∀b t,u ≠ .float b t):EqAt A s u v k:=λprog w E Q a=>by
 unfold eqBool;refine aaa ?_;refine aaD (λc=>?_) (λ_=>?_)
 . rw[f (eq_of_beq c)]at a
   exact Zm (abf (Zp a))
 . cases u with
   |float b t=>exact absurd rfl (e b t)|_=>exact Zm (h prog w E _ (abH a))
set_option maxHeartbeats 4000000 in
mutual
theorem vp (I:Inv X a8 σ H s):∀(d1 d2:D) {A:ZY} {x y:V} {u v:Value},flat d1=true->flat d2=true->Rel X.kw H ι d1 x->Rel X.kw H ι d2 y->RelV x u->RelV y v->A.units+dep d1<cLine->RcAt A s u v (aH d1 d2)
 |.ay,d2,A,x,y,u,v,_,f2,r1,r2,ru,rv,hu=>by
  simp only[Rel]at r1;subst r1;cases ru;cases d2 with
  |ay=>simp only[Rel]at r2;subst r2;cases rv;simp only[aH];exact .none_none|bl b=>simp only[Rel]at r2;subst r2;cases rv;simp only[aH];exact .none_bool b|int b=>simp only[Rel]at r2;subst r2;obtain⟨t,rfl⟩:=rv;simp only[aH];exact .none_int b t
  |str b=>simp only[Rel]at r2;subst r2;obtain⟨t,rfl⟩:=rv;simp only[aH];exact .none_str b t
  |tup ys=>simp only[Rel]at r2;obtain⟨k,ws,rfl,f,i⟩:=r2;cases rv;obtain⟨h,_,c,_⟩:=I.tuple f.sq;simp only[aH];exact .none_tuple c (by omega)
  |lst ys=>simp only[Rel]at r2;obtain⟨k,ws,rfl,f,i⟩:=r2;cases rv;obtain⟨h,_,c,_⟩:=I.list f.sq;simp only[aH];exact .none_list c.isList (by omega)
  |_=>cases f2
 |.bl a,d2,A,x,y,u,v,_,f2,r1,r2,ru,rv,hu=>by
  simp only[Rel]at r1;subst r1;cases ru;cases d2 with
  |ay=>simp only[Rel]at r2;subst r2;cases rv;simp only[aH];exact .bool_none a|bl b=>simp only[Rel]at r2;subst r2;cases rv;simp only[aH];exact .bool_bool a b|int b=>simp only[Rel]at r2;subst r2;obtain⟨t,rfl⟩:=rv;simp only[aH];exact .bool_int a b t
  |str b=>simp only[Rel]at r2;subst r2;obtain⟨t,rfl⟩:=rv;simp only[aH];exact .bool_str a b t
  |tup ys=>simp only[Rel]at r2;obtain⟨k,ws,rfl,f,i⟩:=r2;cases rv;obtain⟨h,_,c,_⟩:=I.tuple f.sq;simp only[aH];exact .bool_tuple a c (by omega)
  |lst ys=>simp only[Rel]at r2;obtain⟨k,ws,rfl,f,i⟩:=r2;cases rv;obtain⟨h,_,c,_⟩:=I.list f.sq;simp only[aH];exact .bool_list a c.isList (by omega)
  |_=>cases f2
 |.int a,d2,A,x,y,u,v,_,f2,r1,r2,ru,rv,hu=>by
  simp only[Rel]at r1;subst r1;obtain⟨t0,rfl⟩:=ru;cases d2 with
  |ay=>simp only[Rel]at r2;subst r2;cases rv;simp only[aH];exact .int_none a t0|bl b=>simp only[Rel]at r2;subst r2;cases rv;simp only[aH];exact .int_bool a t0 b|int b=>simp only[Rel]at r2;subst r2;obtain⟨t,rfl⟩:=rv;simp only[aH];exact .int_int a t0 b t
  |str b=>simp only[Rel]at r2;subst r2;obtain⟨t,rfl⟩:=rv;simp only[aH];exact .int_str a t0 b t
  |tup ys=>simp only[Rel]at r2;obtain⟨k,ws,rfl,f,i⟩:=r2;cases rv;obtain⟨h,_,c,_⟩:=I.tuple f.sq;simp only[aH];exact .int_tuple a t0 c (by omega)
  |lst ys=>simp only[Rel]at r2;obtain⟨k,ws,rfl,f,i⟩:=r2;cases rv;obtain⟨h,_,c,_⟩:=I.list f.sq;simp only[aH];exact .int_list a t0 c.isList (by omega)
  |_=>cases f2
 |.str a,d2,A,x,y,u,v,_,f2,r1,r2,ru,rv,hu=>by
  simp only[Rel]at r1;subst r1;obtain⟨t0,rfl⟩:=ru;cases d2 with
  |ay=>simp only[Rel]at r2;subst r2;cases rv;simp only[aH];exact .str_none a t0|bl b=>simp only[Rel]at r2;subst r2;cases rv;simp only[aH];exact .str_bool a t0 b|int b=>simp only[Rel]at r2;subst r2;obtain⟨t,rfl⟩:=rv;simp only[aH];exact .str_int a t0 b t
  |str b=>simp only[Rel]at r2;subst r2;obtain⟨t,rfl⟩:=rv;simp only[aH];exact .str_str a t0 b t
  |tup ys=>simp only[Rel]at r2;obtain⟨k,ws,rfl,f,i⟩:=r2;cases rv;obtain⟨h,_,c,_⟩:=I.tuple f.sq;simp only[aH];exact .str_tuple a t0 c (by omega)
  |lst ys=>simp only[Rel]at r2;obtain⟨k,ws,rfl,f,i⟩:=r2;cases rv;obtain⟨h,_,c,_⟩:=I.list f.sq;simp only[aH];exact .str_list a t0 c.isList (by omega)
  |_=>cases f2
 |.tup xs,d2,A,x,y,u,v,f1,f2,r1,r2,ru,rv,hu=>by
  simp only[Rel]at r1;obtain⟨a,vs,rfl,f,i⟩:=r1;cases ru;obtain⟨h,z,c,_⟩:=I.tuple f.sq;simp only[dep]at hu;cases d2 with
  |ay=>simp only[Rel]at r2;subst r2;cases rv;simp only[aH];exact .tuple_none c (by omega)|bl b=>simp only[Rel]at r2;subst r2;cases rv;simp only[aH];exact .tuple_bool b c (by omega)|int b=>simp only[Rel]at r2;subst r2;obtain⟨t,rfl⟩:=rv;simp only[aH];exact .tuple_int b t c (by omega)
  |str b=>simp only[Rel]at r2;subst r2;obtain⟨t,rfl⟩:=rv;simp only[aH];exact .tuple_str b t c (by omega)
  |tup ys =>
   simp only[Rel]at r2;obtain⟨k,ws,rfl,q,o⟩:=r2;cases rv;obtain⟨e,r,l,_⟩:=I.tuple q.sq;simp only[aH,jI];have l1:xs.length=h.toArray.size:=by rw[Zw,<- z.length];exact i.length
   have l2:ys.length=e.toArray.size:=by rw[Zw,<- r.length];exact o.length
   rw[l1,l2];refine .tuples c l (by omega) λj h1 h2=>?_;have:=kK I xs ys (A:=A.in1) f1 f2 i o z r (by rw[in1_units];omega) j (by simpa using h1) (by simpa using h2);simpa using this
  |lst ys =>
   simp only[Rel]at r2;obtain⟨k,ws,rfl,q,o⟩:=r2;cases rv;obtain⟨e,r,l,_⟩:=I.list q.sq;simp only[aH];exact .tuple_list c l.isList (by omega)
  |_=>cases f2
 |.lst xs,d2,A,x,y,u,v,f1,f2,r1,r2,ru,rv,hu=>by
  simp only[Rel]at r1;obtain⟨a,vs,rfl,f,i⟩:=r1;cases ru;obtain⟨h,z,c,_⟩:=I.list f.sq;simp only[dep]at hu;cases d2 with
  |ay=>simp only[Rel]at r2;subst r2;cases rv;simp only[aH];exact .list_none c.isList (by omega)|bl b=>simp only[Rel]at r2;subst r2;cases rv;simp only[aH];exact .list_bool b c.isList (by omega)|int b=>simp only[Rel]at r2;subst r2;obtain⟨t,rfl⟩:=rv;simp only[aH];exact .list_int b t c.isList (by omega)
  |str b=>simp only[Rel]at r2;subst r2;obtain⟨t,rfl⟩:=rv;simp only[aH];exact .list_str b t c.isList (by omega)
  |lst ys =>
   simp only[Rel]at r2;obtain⟨k,ws,rfl,q,o⟩:=r2;cases rv;obtain⟨e,r,l,_⟩:=I.list q.sq;simp only[aH,jI];have l1:xs.length=h.toArray.size:=by rw[Zw,<- z.length];exact i.length
   have l2:ys.length=e.toArray.size:=by rw[Zw,<- r.length];exact o.length
   rw[l1,l2];by_cases hs:h.toArray.size=e.toArray.size
   . have e0:(h.toArray.size == e.toArray.size)=true:=by simpa using hs
     rw[e0,Bool.and_true,<- hs,Nat.min_self];refine .lists c.isList l.isList hs (by omega) λj h1 h2=>?_;have:=kK I xs ys (A:=A.in1) f1 f2 i o z r (by rw[in1_units];omega) j (by simpa using h1) (by simpa using h2);simpa using this
   . have e0:(h.toArray.size == e.toArray.size)=false:=by simpa using hs
     rw[e0,afl];exact .lists_lengths c.isList l.isList (by simpa using hs) (by omega)
  |tup ys =>
   simp only[Rel]at r2;obtain⟨k,ws,rfl,q,o⟩:=r2;cases rv;obtain⟨e,r,l,_⟩:=I.tuple q.sq;simp only[aH];exact .list_tuple c.isList l (by omega)
  |_=>cases f2
 |.dZ,d2,A,x,y,u,v,f1,_,_,_,_,_,_=>by cases f1|.ref _,d2,A,x,y,u,v,f1,_,_,_,_,_,_=>by cases f1|.aX _,d2,A,x,y,u,v,f1,_,_,_,_,_,_=>by cases f1|.fn _ _,d2,A,x,y,u,v,f1,_,_,_,_,_,_=>by cases f1
theorem kK (I:Inv X a8 σ H s):∀(xs ys:List D) {A:ZY} {vs ws:List V} {us zs:List Value},bt xs=true->bt ys=true->aj X.kw H ι xs vs->aj X.kw H ι ys ws->Vals vs us->Vals ws zs->A.units+da xs<cLine ->
  ∀(j:Nat) (h1:j<us.length) (h2:j<zs.length),EqAt A s us[j] zs[j] (aH (xs[j]?.getD .ay) (ys[j]?.getD .ay))
 | [],ys,A,vs,ws,us,zs,_,_,r1,_,ru,_,_,j,h1,_=>by simp only[aj]at r1;subst r1;cases ru;simp at h1
 |d::ds,ys,A,vs,ws,us,zs,f1,f2,r1,r2,ru,rz,hu,j,h1,h2=>by
  simp only[aj]at r1;obtain⟨v,o,rfl,a,c⟩:=r1;simp only[da]at hu;simp only[bt,Zr]at f1;cases ru with
  |cons FZ WA =>
   cases ys with
   |nil=>simp only[aj]at r2;subst r2;cases rz;simp at h2
   |cons e es =>
    simp only[aj]at r2;obtain⟨w,wr,rfl,hw,h⟩:=r2;simp only[bt,Zr]at f2;cases rz with
    |cons Q_ WC =>
     cases j with
     |zero =>
      have rc:=vp I d e (A:=A) f1.1 f2.1 a hw FZ Q_ (by omega);simp only[List.getElem_cons_zero,ac8,agz];refine pU rc (λi=>?_) (λb t f=>Rel.xP a (by rw[f]at FZ;exact FZ));subst i;have k:=FZ.inj Q_;subst k;have l:=Rel.inj I d e f1.1 f2.1 a hw;subst l;exact jH d f1.1
     |succ j =>
      have:=kK I ds es (A:=A) f1.2 f2.2 c h WA WC (by omega) j (by simpa using h1) (by simpa using h2);simpa using this
end
end
noncomputable def oEq (a b:D)(g:G):Option (D×G):=if(flat a&&flat b&&decide (dep a<=60))=true then some (.bl (aH a b),g)else none
theorem O4 (hu:X.A.units+64<cLine):bK X (aaB .Eq) (dH X.kw oEq):=by
 intro a8 s σ H x y v u Q I c e q;obtain⟨ι,g,a,h,d,i,G0,b,f,q,p⟩:=q;unfold oEq at q;split at q
 . rename_i z
   simp only[Zr,decide_eq_true_eq]at z;cases q;exact vp I a h z.1.1 z.1.2 b f c e (by omega) _ _ _ _ ⟨.bl _,H,I,rfl,p H ι _ Ext.refl G0 (by simp[Rel])⟩
 . cases q
noncomputable def fV:D->Bool
 |.ay=>true|_=>false
noncomputable def Ej (b a:D)(g:G):Option (D×G):=match a with|.ay=>some (.bl (fV b),g)|_=>none
noncomputable def zJ (b a:D)(g:G):Option (D×G):=match a with|.ay=>some (.bl (!fV b),g)|_=>none
theorem xQ {K H ι d v}(r:Rel K H ι d v):decide (v=V.ay)=fV d:=by
 cases d with
 |ay=>simp only[Rel]at r;subst r;rfl|bl _=>simp only[Rel]at r;subst r;rfl|int _=>simp only[Rel]at r;subst r;rfl|str _=>simp only[Rel]at r;subst r;rfl|tup _=>simp only[Rel]at r;obtain⟨a,b,rfl,_⟩:=r;rfl
 |lst _=>simp only[Rel]at r;obtain⟨a,b,rfl,_⟩:=r;rfl
 |dZ=>simp only[Rel]at r;obtain⟨a,rfl,_⟩:=r;rfl
 |ref _=>simp only[Rel]at r;obtain⟨a,rfl,_⟩:=r;rfl
 |aX _=>simp only[Rel]at r;obtain⟨a,rfl,_⟩:=r;rfl
 |fn _=>simp only[Rel]at r;obtain⟨a,_,rfl,_⟩:=r;rfl
theorem LF:bK X (aaB .Is) (dH X.kw Ej):=by
 intro a8 s σ H x y v u Q I c e q;obtain⟨ι,g,h,f,d,i,G0,b,a,q,p⟩:=q;cases f with
 |ay =>
  simp only[Rel]at a;subst a;simp only[Ej]at q;cases q;exact Kk a8 s σ H _ _ v u Q I c e ⟨rfl,by rw[xQ b];exact p H ι _ Ext.refl G0 (by simp[Rel])⟩
 |_=>cases q
theorem HZ:bK X (aaB .IsNot) (dH X.kw zJ):=by
 intro a8 s σ H x y v u Q I c e q;obtain⟨ι,g,h,f,d,i,G0,b,a,q,p⟩:=q;cases f with
 |ay =>
  simp only[Rel]at a;subst a;simp only[zJ]at q;cases q;refine Hl a8 s σ H _ _ v u Q I c e ⟨rfl,?_⟩;rw[xQ b];exact p H ι _ Ext.refl G0 (by simp[Rel])
 |_=>cases q
noncomputable def bb (d:D)(g:G):Option (List D):=match d with
 |.tup xs=>some xs|.lst xs=>some xs|.ref n=>g[n]?|_=>none
theorem j4 {K H ι g d v xs}(G0:aw K H ι g)(r:Rel K H ι d v)(h:bb d g=some xs):∃a vs,v = .ref a/\(dw K H a vs\/eK K H a vs)/\aj K H ι xs vs:=by
 cases d with
 |tup ys=>cases h;simp only[Rel]at r;obtain⟨a,vs,rfl,c,b⟩:=r;exact⟨a,vs,rfl,.inr c.sq,b⟩
 |lst ys=>cases h;simp only[Rel]at r;obtain⟨a,vs,rfl,c,b⟩:=r;exact⟨a,vs,rfl,.inl c.sq,b⟩
 |ref n =>
  simp only[Rel]at r;obtain⟨a,rfl,f⟩:=r;obtain⟨vs,i,e⟩:=G0.at h f;exact⟨a,vs,rfl,.inl (.of i),e⟩
 |_=>cases h
noncomputable def d9 (b a:D)(g:G):Option (D×G):=match a with
 |.int i=>(bb b g).bind λxs=>(cA xs i).map λd=>(d,g)|_=>none
theorem H0 {K H ι}{xs:List D}{vs:List V}{i:Int}{d:D}(r:aj K H ι xs vs)(h:cA xs i=some d):∃v,cA vs i=some v/\Rel K H ι d v:=by unfold cA at h ⊢;rw[<- r.length];obtain⟨j,e,c⟩:=bind_some h;obtain⟨v,a,b⟩:=r.get c;exact⟨v,by rw[e];exact a,b⟩
theorem H_:mh X (dH X.kw d9):=by
 intro value slice a8 s σ H x y v u Q I l j q c;obtain⟨ι,g,d1,o,d,g',G0,z,k,q,p⟩:=q;cases o with
 |int i =>
  simp only[Rel]at k;subst k;simp only[d9]at q;obtain⟨xs,h1,q⟩:=bind_some q;cases h2:cA xs i with
  |none=>rw[h2]at q;cases q
  |some e =>
   rw[h2]at q;cases q;obtain⟨a,h,rfl,b,r⟩:=j4 G0 z h1;obtain⟨w,f,h4⟩:=H0 r h2;have fin:=p H ι w Ext.refl G0 h4;rcases b with b|b
   . exact Be value slice a8 s σ H _ _ v u Q I l j (.inl ⟨a,h,i,w,rfl,rfl,b,f,fin⟩) c
   . exact Be value slice a8 s σ H _ _ v u Q I l j (.inr (.inl ⟨a,h,i,w,rfl,rfl,b,f,fin⟩)) c
 |_=>cases q
noncomputable def bz (ds:List D)(g:G):Option (D×G):=match ds with| [d]=>(bb d g).map λxs=>(.int xs.length,g)|_=>none
theorem LG:dJ X (.builtin "len") (jY X.kw bz):=by
 intro a8 s σ H xs us Q I r q;obtain⟨ι,g,ds,d,j,G0,b,q,p⟩:=q;cases ds with
 |nil=>cases q|cons e BK =>
 cases BK with
 |cons _ _=>cases q
 |nil =>
  simp only[bz]at q;cases hx:bb e g with
  |none=>rw[hx]at q;cases q
  |some ys =>
   rw[hx]at q;cases q;simp only[aj]at b;obtain⟨v,_,rfl,h,rfl⟩:=b;obtain⟨a,f,rfl,i,c⟩:=j4 G0 h hx;exact uZ a8 s σ H _ us Q I r ⟨a,f,rfl,i,by rw[<- c.length];exact p H ι _ Ext.refl G0 (by simp[Rel])⟩
noncomputable def km (ds:List D)(g:G):Option (D×G):=match ds with| [.int i,.int j]=>some (.int (if j<i then j else i),g)|_=>none
theorem LH (c:X.calm=true):dJ X (.builtin "min") (jY X.kw km):=by
 intro a8 s σ H xs us Q I r q;obtain⟨ι,g,ds,d,b,G0,a,q,p⟩:=q;unfold km at q;split at q
 . cases q
   simp only[aj,Rel]at a;obtain⟨_,_,rfl,rfl,_,_,rfl,rfl,rfl⟩:=a;exact A8 c a8 s σ H _ us Q I r ⟨_,_,rfl,p H ι _ Ext.refl G0 (by simp[Rel])⟩
 . cases q
noncomputable def mY (ds:List D)(g:G):Option (D×G):=match ds with| [.int i]=>some (.int i,g)| [.bl k]=>some (.int (if k then 1 else 0),g)|_=>none
theorem LI:dJ X (.type "int") (jY X.kw mY):=by
 intro a8 s σ H xs us Q I r q;obtain⟨ι,g,ds,d,b,G0,a,q,p⟩:=q;unfold mY at q;split at q
 . cases q
   simp only[aj,Rel]at a;obtain⟨_,_,rfl,rfl,rfl⟩:=a;exact sg a8 s σ H _ us Q I r (.inl ⟨_,rfl,p H ι _ Ext.refl G0 (by simp[Rel])⟩)
 . cases q
   simp only[aj,Rel]at a;obtain⟨_,_,rfl,rfl,rfl⟩:=a;exact sg a8 s σ H _ us Q I r (.inr ⟨_,rfl,p H ι _ Ext.refl G0 (by simp[Rel])⟩)
 . cases q
noncomputable def fG (ds:List D)(g:G):Option (D×G):=match ds with| [d]=>(bb d g).bind λxs=>if aA xs.length=true then some (.tup xs,g)else none|_=>none
theorem LJ:dJ X (.type "tuple") (jY X.kw fG):=by
 intro a8 s σ H xs us Q I r q;obtain⟨ι,g,ds,d,g',G0,k,q,p⟩:=q;cases ds with
 |nil=>cases q|cons e BK =>
 cases BK with
 |cons _ _=>cases q
 |nil =>
  simp only[fG]at q;obtain⟨ys,h,q⟩:=bind_some q;split at q
  . rename_i z
    cases q;simp only[aj]at k;obtain⟨v,_,rfl,c,rfl⟩:=k;cases e with
    |tup zs =>
     cases h;simp only[Rel]at c;obtain⟨a,vs,rfl,b,j⟩:=c;exact mi a8 s σ H _ us Q I r ⟨a,vs,rfl,.inr ⟨b.sq,p H ι _ Ext.refl G0 (by simp only[Rel];exact⟨a,vs,rfl,b,j⟩)⟩⟩
    |_ =>
     obtain⟨a,vs,rfl,b,j⟩:=j4 G0 c h;have y:dw X.kw H a vs:=by
      rcases b with b|b
      . exact b
      . exfalso
        first
         | (cases h;done)
         | (simp only[Rel]at c;obtain⟨o,F0,i,x,_⟩:=c;cases i;exact nK I b x.sq)
         | (simp only[Rel]at c;obtain⟨o,i,ha⟩:=c;cases i;obtain⟨ws,u,h2⟩:=G0.at h ha;exact nK I b (.of u))
     refine mi a8 s σ H _ us Q I r ⟨a,vs,rfl,.inl ⟨y,λl f=>p _ _ _ (Ext.lay f) (G0.lay f) ?_⟩⟩;simp only[Rel];exact⟨l,vs,rfl,.inl ⟨.inl aP,G0.fresh f⟩,aj.ext (Ext.lay f) _ j⟩
  . cases q
end
end L3
namespace L3
open PyProof.Rows L2
open Sem (wp)
open Builtin
theorem tuple_addW0 (l b:Addr)(items q:Array Value)(n x:Nat)(r o:Option Addr)(k u:Array (Option Value))(y:items.isEmpty=true):
  Meets (aa9.«tuple.__add__» ⟨[.ref l,.ref b],[]⟩) (λ_ R s=>s.heap.get? l=some { cls:=.type "tuple",dict:=r,data:=.seq items n,slots:=k }/\s.heap.get? b=some { cls:=.type "tuple",dict:=o,data:=.seq q x,slots:=u }/\R (.ok (.ret (abt b))) { s with heap:=s.heap,toks:=s.toks }):=
 .of_wp λprog w A R s h=>by obtain⟨i,g,d,j,os⟩:=s;obtain⟨a,c,h⟩:=h;have f1:=acD;have f2:=aca;have e:=ae8;have f4:=AutoSeq1.sub_tuple_list;have f:=AutoSeq1.sub_list_tuple;wp_walk using aan a,aan c;exact⟨_,rfl,h⟩
theorem oS:fillsNumberSlot (.type "tuple") "mul" = pure false :=
 aez (id:="tuple.__mul__") (r:=some (.builtin "tuple.__rmul__")) F.slot_tuple_mul.lookup (by decide +kernel) F.slot_tuple_rmul.lookup (by decide +kernel)
theorem vq:afv (.type "tuple")=pure (some (.builtin "tuple.__mul__")):=by unfold afv;rw[adp (T:="tuple") (name:="__mul__") (id:="tuple.__mul__") F.slot_tuple_mul.lookup (by decide +kernel),adp (T:="tuple") (name:="__rmul__") (id:="tuple.__rmul__") F.slot_tuple_rmul.lookup (by decide +kernel)];rfl
theorem tW (a:Int)(t:Tok)(l:Addr)(items:Array Value)(n:Nat)(i:Option Addr)(f:Array (Option Value)):
  Meets (aa9.«int.__mul__» ⟨[.int a t,.ref l],[]⟩) (λ_ R s=>s.heap.get? l=some { cls:=.type "tuple",dict:=i,data:=.seq items n,slots:=f }/\R (.ok (.ret afw)) s):=
 .of_wp λprog w A R s h=>by obtain⟨b,g,d,c,os⟩:=s;obtain⟨e,h⟩:=h;wp_walk;exact⟨_,rfl,h⟩
theorem zK (l:Addr)(items:Array Value)(n:Nat)(f:Option Addr)(e:Array (Option Value))(x:Int)(u:Tok)(i:¬(decide (x < -(2 ^ 63))||decide (x>=2 ^ 63))=true)(k:¬(items.isEmpty||x == 1)=true)(o:¬(decide (x<=0)||items.isEmpty)=true)
  (j:¬(items.size:Int)*x>(2 ^ 63-1) / 8) (q:¬ae9 ((items.size:Int)*x)=true) (r:((ZA x.toNat items).foldl (· ++ ·) #[]).size<=ZM):
  Meets (aa9.«tuple.__mul__» ⟨[.ref l,.int x u],[]⟩) (λ_ R s=>s.heap.get? l=some { cls:=.type "tuple",dict:=f,data:=.seq items n,slots:=e }/\R (.ok (.ret (abt s.heap.objs.size))) { s with heap:=s.heap.push { cls:=aav "tuple",data:=Data.seq ((ZA x.toNat items).foldl (· ++ ·) #[]) },toks:=s.toks }):=
 .of_wp λprog w A R s h=>by
  obtain⟨b,g,d,c,os⟩:=s;obtain⟨a,h⟩:=h;have f1:=acD;have f2:=aca
  wp_walk using aan a
  refine acO (decide_eq_false i) ?_
  wp_walk using aan a
  refine acO (decide_eq_false j) ?_
  wp_walk using aan a
  exact⟨_,rfl,h⟩
theorem xg (l:Addr)(items:Array Value)(n:Nat)(f:Option Addr)(e:Array (Option Value))(x:Int)(u:Tok)(i:¬(decide (x < -(2 ^ 63))||decide (x>=2 ^ 63))=true)(j:(items.isEmpty||x == 1)=true):
  Meets (aa9.«tuple.__mul__» ⟨[.ref l,.int x u],[]⟩) (λ_ R s=>s.heap.get? l=some { cls:=.type "tuple",dict:=f,data:=.seq items n,slots:=e }/\R (.ok (.ret (abt l))) { s with heap:=s.heap,toks:=s.toks }):=
 .of_wp λprog w A R s h=>by
  obtain⟨b,g,d,c,os⟩:=s;obtain⟨a,h⟩:=h;have f1:=acD;have f2:=aca
  wp_walk using aan a
  refine acO (decide_eq_false i) ?_
  wp_walk using aan a
  exact⟨_,rfl,h⟩
theorem xh (l:Addr)(items:Array Value)(n:Nat)(f:Option Addr)(e:Array (Option Value))(x:Int)(u:Tok)(i:¬(decide (x < -(2 ^ 63))||decide (x>=2 ^ 63))=true)(j:¬(items.isEmpty||x == 1)=true)(k:(decide (x<=0)||items.isEmpty)=true):
  Meets (aa9.«tuple.__mul__» ⟨[.ref l,.int x u],[]⟩) (λ_ R s=>s.heap.get? l=some { cls:=.type "tuple",dict:=f,data:=.seq items n,slots:=e }/\R (.ok (.ret (abt s.heap.objs.size))) { s with heap:=s.heap.push { cls:=aav "tuple",data:=Data.seq #[] },toks:=s.toks }):=
 .of_wp λprog w A R s h=>by
  obtain⟨b,g,d,c,os⟩:=s;obtain⟨a,h⟩:=h;have f1:=acD;have f2:=aca
  wp_walk using aan a
  refine acO (decide_eq_false i) ?_
  wp_walk using aan a
  exact⟨_,rfl,h⟩
section
variable {X:Cx}
noncomputable def O5 (K:KW):R2:=λx y H Q=>∃a k xs,x = .int k/\y = .ref a/\eK K H a xs /\ -(2 ^ 63)<=k/\k<2 ^ 63/\xs.length*k.toNat<=16777216 /\
 ((xs = []\/k=1)->Q (.ref a) H)/\(xs ≠ []->k<=0->∀p,H p=none->Q (.ref p) (upd H p (.tup [])))/\(xs ≠ []->2<=k->∀p,H p=none->Q (.ref p) (upd H p (.tup (ZA k.toNat xs).flatten)))
theorem Ia:bK X (aaH .Mult) (O5 X.kw):=by
 intro a8 s σ H x y v u Q I rx ry h;obtain⟨a,k,xs,rfl,rfl,hq,h1,h2,l,q1,q0,q2⟩:=h;cases ry;obtain⟨t,rfl⟩:=rx;obtain⟨c,r,ht,WE⟩:=I.tuple hq;have hl:=r.length;obtain⟨⟨cls,i,data,j⟩,f,hc,n,hd⟩:=id ht;simp only at hc hd;subst hc hd;have o:¬(decide (k < -(2 ^ 63))||decide (k>=2 ^ 63))=true:=by rw[aac,decide_eq_true_eq,decide_eq_true_eq];omega
 refine PySem.lm_binaryOp_repeat_right (T:="tuple") (U:="int") (by decide) (λs'=>aew s' k t) ⟨_,f,rfl⟩ F.fills_int_mul oS F.slot_int_mul PySem.lm_noRepeat_int vq F.slot_int_index.lookup
   (acf F.slot_int_mul (aew s k t) F.entry_int_mul (F.args_int_mul_2 _ _) (tW k t a c.toArray n i j) ⟨f,rfl,⟨_,f,rfl⟩,?_⟩)
 by_cases c1:xs = []\/k=1
 . refine acf F.slot_tuple_mul ⟨_,f,rfl⟩ F.entry_tuple_mul (F.args_tuple_mul_2 _ _) (xg a c.toArray n i j k t o ?_) ⟨f,.ref a,H,I,rfl,q1 c1⟩
   rcases c1 with c1|c1
   . subst c1
     cases r;simp
   . subst c1;simp
 . have q:xs ≠ []:=λe=>c1 (.inl e)
   have LL:k≠1:=λe=>c1 (.inr e);have hi:c ≠ []:=λe=>q (by subst e;cases r;rfl);have n1:¬(c.toArray.isEmpty||k == 1)=true:=by simp[hi,LL]
   have fresh:H s.heap.objs.size=none:=I.aS.fresh (Zu _);by_cases c0:k<=0
   . refine acf F.slot_tuple_mul ⟨_,f,rfl⟩ F.entry_tuple_mul (F.args_tuple_mul_2 _ _) (xh a c.toArray n i j k t o n1 (by simp[c0])) ⟨f,?_⟩
     refine⟨.ref _,_,I.laid (t':=s.toks) (λb u e=>Zs _ e) (Zu _) ?_,rfl,q0 q c0 _ fresh⟩;exact⟨aab _,[],.nil,⟨_,ZC _ rfl,rfl,⟨_,rfl⟩,rfl⟩⟩
   . have z:agJ (λx1 x2=>x1++x2) #[] (ZA k.toNat c.toArray)=(ZA k.toNat c).flatten.toArray:=by
       have:=foldl_rep c k.toNat [];rw[abh]at this;exact this
     have hs:ZM=16777216:=abC;have i6:(c.length:Int)*k<=16777216:=by have e1:((xs.length*k.toNat:Nat):Int)<=16777216:=Int.ofNat_le.mpr l;rw[agO,abM (by omega),hl]at e1;exact e1
     refine acf F.slot_tuple_mul ⟨_,f,rfl⟩ F.entry_tuple_mul (F.args_tuple_mul_2 _ _) (zK a c.toArray n i j k t o n1 (by simp[c0,hi]) (by rw[Zw];omega) ?_ ?_) ⟨f,?_⟩
     . rw[Zw]
       unfold ae9;simp;omega
     . rw[z,Zw,len_rep,<- hl,adM,hs];exact l
     . rw[z]
       refine⟨.ref _,_,I.laid (t':=s.toks) (λb u e=>Zs _ e) (Zu _) ?_,rfl,q2 q (by omega) _ fresh⟩;exact⟨by rw[len_rep,adM,hs];exact l,_,r.rep k.toNat,⟨_,ZC _ rfl,rfl,⟨_,rfl⟩,rfl⟩⟩
theorem aj.rep {K H ι}{xs:List D}{vs:List V}(r:aj K H ι xs vs):∀k:Nat,aj K H ι (ZA k xs).flatten (ZA k vs).flatten
 | 0=>by simp[aj]|k+1=>by rw[abu,abu,aaj,aaj];exact aj.append r (aj.rep r k)
noncomputable def bJ (b a:D)(g:G):Option (D×G):=match b,a with
 |.int i,.int j=>if b_ i j=true then some (.int (i*j),g)else none|.int k,.tup xs=>if(fz k&&aA (xs.length*k.toNat))=true then some (.tup (ZA k.toNat xs).flatten,g)else none|_,_=>none
theorem vx:bK X (aaH .Mult) (dH X.kw bJ):=by
 intro a8 s σ H x y v u Q I o ry q;obtain⟨ι,g,d1,d2,d,g',G0,f,l,q,p⟩:=q;unfold bJ at q;split at q
 . split at q
   . rename_i i j z
     exact HW a8 s σ H x y v u Q I o ry ⟨ι,g,.int i,.int j,d,g',G0,f,l,by simp only[bU];rw[if_pos z];exact q,p⟩
   . cases q
 . split at q
   . rename_i k xs z
     simp only[Zr]at z;have z1:=fz.and z.1;have z2:=aA.le z.2;cases q;simp only[Rel]at f l;obtain⟨a,r,rfl,hq,b⟩:=l;subst f;have hl:=b.length;have new:∀{zs:List D} {ws:List V},aj X.kw H ι zs ws->zs=(ZA k.toNat xs).flatten->∀q,H q=none->Q (.ref q) (upd H q (.tup ws)):=fun {zs ws} rz ez q e=>by subst ez;refine p _ _ _ (Ext.lay e) (G0.lay e) ?_;simp only[Rel];exact⟨q,ws,rfl,.inl ⟨.inl aP,G0.fresh e⟩,aj.ext (Ext.lay e) _ rz⟩
     refine Ia a8 s σ H _ _ v u Q I o ry ⟨a,k,r,rfl,rfl,hq.sq,(by omega),(by omega),by rw[<- hl];exact z2,λc=>?_,λhx hk=>?_,λhx hk=>?_⟩
     . refine p H ι _ Ext.refl G0 ?_
       simp only[Rel];refine⟨a,r,rfl,hq,?_⟩;rcases c with c|c
       . subst c
         have:xs = []:=aci (by simpa using hl);subst this;have h:(ZA k.toNat ([]:List D)).flatten = []:=by simp
         rw[h];exact b
       . subst c
         have h:(ZA (1:Int).toNat xs).flatten=xs:=by simp
         rw[h];exact b
     . refine new (zs:=[]) (by simp[aj]) ?_
       have:k.toNat=0:=by omega
       rw[this];simp
     . exact new (b.rep k.toNat) rfl
   . cases q
 . cases q
theorem Ek:bK X (aaH .Add) (λx y H Q=>∃a b ys,x = .ref a/\y = .ref b/\eK X.kw H a []/\eK X.kw H b ys/\Q (.ref b) H):=by
 intro a8 s σ H x y v u Q I rx ry h;obtain⟨a,b,ys,rfl,rfl,ha,hb,q⟩:=h;cases rx;cases ry;obtain⟨r,z,k,_⟩:=I.tuple ha;obtain⟨o,r2,p2,_⟩:=I.tuple hb;obtain⟨⟨cls,dd,data,sl⟩,f,c,n,hd⟩:=id k;obtain⟨⟨Ko,j,data2,l⟩,i,e,n2,hd2⟩:=id p2;simp only at c hd e hd2;subst c hd e hd2;exact aeH ⟨_,f,rfl⟩ ⟨_,i,rfl⟩ aeI afB adb ac7 (acV _ _)
  (tuple_addW0 a b r.toArray o.toArray n n2 dd j sl l (by cases z;simp)) ⟨f,i,.ref b,H,I,rfl,q⟩
theorem Ib:bK X (aaH .Add) (λx y H Q=>∃a b xs ys,x = .ref a/\y = .ref b/\dw X.kw H a xs/\dw X.kw H b ys/\xs.length+ys.length<=ZM /\ ∀p,H p=none->Q (.ref p) (upd H p (.lst (xs++ys)))):=by
 intro a8 s σ H x y v u Q I rx ry h;obtain⟨a,b,xs,ys,rfl,rfl,ha,hb,i,q⟩:=h;cases rx;cases ry;obtain⟨f,l,p1,_⟩:=I.list ha;obtain⟨c,r2,p2,_⟩:=I.list hb;obtain⟨⟨cls,dd,data,sl⟩,n,z,j,k,hd⟩:=id p1;obtain⟨⟨Ko,uW,data2,oj⟩,n2,oo,r,o,hd2⟩:=id p2;simp only at j hd r hd2 k o;subst j hd r hd2 k o;have e:f.toArray++c.toArray=(f++c).toArray:=by simp
 have hl:f.length+c.length<=ZM:=by rw[<- l.length,<- r2.length];exact i
 refine aeH ⟨_,z,rfl⟩ ⟨_,oo,rfl⟩ noFill_list_add seq_list_add PySem.F.slot_list_add PySem.F.entry_list_add (PySem.F.args_list_add_2 _ _) (list_addW a b f.toArray c.toArray n n2 none none sl oj (by simpa using hl)) ⟨z,oo,?_⟩;rw[e];exact⟨.ref _,_,I.Tt (t':=s.toks) (l.append r2) (by rw[ZH];exact i),rfl,q _ I.fresh⟩
noncomputable def jh (d:D)(g:G):Option (List D):=match d with
 |.lst xs=>some xs|.ref n=>g[n]?|_=>none
theorem lI {K H ι g d v xs}(G0:aw K H ι g)(r:Rel K H ι d v)(h:jh d g=some xs):∃a vs,v = .ref a/\dw K H a vs/\aj K H ι xs vs:=by
 cases d with
 |lst ys =>
  cases h;simp only[Rel]at r;obtain⟨a,vs,rfl,c,b⟩:=r;exact⟨a,vs,rfl,c.sq,b⟩
 |ref n =>
  simp only[Rel]at r;obtain⟨a,rfl,f⟩:=r;obtain⟨vs,i,e⟩:=G0.at h f;exact⟨a,vs,rfl,.of i,e⟩
 |_=>cases h
noncomputable def aT (b a:D)(g:G):Option (D×G):=match b,a with
 |.int i,.int j=>some (.int (i+j),g)|.tup xs,.tup ys=>if aA (xs.length+ys.length)=true then some (.tup (xs++ys),g)else none|.str i,.str j=>if aA (i.length+j.length)=true then some (.str (i++j),g)else none
 |b,a=>match jh b g,jh a g with
  |some xs,some ys=>if aA (xs.length+ys.length)=true then some (.lst (xs++ys),g)else none|_,_=>none
theorem LN:bK X (aaH .Add) (dH X.kw aT):=by
 intro a8 s σ H x y v u Q I o ry q;obtain⟨ι,g,d1,d2,d,g',G0,k,l,q,p⟩:=q;unfold aT at q;split at q
 . rename_i i j
   exact HV a8 s σ H x y v u Q I o ry ⟨ι,g,.int i,.int j,d,g',G0,k,l,q,p⟩
 . split at q
   . rename_i xs ys z
     cases q;simp only[Rel]at k l;obtain⟨a,r,rfl,hq,f⟩:=k;obtain⟨b,ws,rfl,vy,h⟩:=l;by_cases hx:r = []
     . subst hx
       have:xs = []:=aci (by simpa using f.length);subst this;refine Ek a8 s σ H _ _ v u Q I o ry ⟨a,b,ws,rfl,rfl,hq.sq,vy.sq,p H ι _ Ext.refl G0 ?_⟩;simp only[Rel,abh];exact⟨b,ws,rfl,vy,h⟩
     . refine Hu a8 s σ H _ _ v u Q I o ry ⟨a,b,r,ws,rfl,rfl,hq.sq,vy.sq,hx,by rw[<- f.length,<- h.length];exact aA.le z,λe=>?_,λe q' c=>?_⟩
       . subst e
         have:ys = []:=aci (by simpa using h.length);subst this;refine p H ι _ Ext.refl G0 ?_;simp only[Rel,aaL];exact⟨a,r,rfl,hq,f⟩
       . refine p _ _ _ (Ext.lay c) (G0.lay c) ?_
         simp only[Rel];exact⟨q',_,rfl,.inl ⟨.inl aP,G0.fresh c⟩,aj.ext (Ext.lay c) _ (aj.append f h)⟩
   . cases q
 . split at q
   . rename_i x1 y1 z
     cases q;simp only[Rel]at k l;subst k l;exact zo a8 s σ H _ _ v u Q I o ry ⟨x1,y1,rfl,rfl,aA.le z,p H ι _ Ext.refl G0 (by simp[Rel])⟩
   . cases q
 . split at q
   . rename_i xs ys e1 e2
     split at q
     . rename_i z
       cases q;obtain⟨a,r,rfl,hq,f⟩:=lI G0 k e1;obtain⟨b,ws,rfl,vy,h⟩:=lI G0 l e2;refine Ib a8 s σ H _ _ v u Q I o ry ⟨a,b,r,ws,rfl,rfl,hq,vy,by rw[<- f.length,<- h.length];exact aA.le z,λq' c=>?_⟩;refine p _ _ _ (Ext.lay c) (G0.lay c) ?_;simp only[Rel];exact⟨q',_,rfl,.inl ⟨.inl aP,G0.fresh c,G0.gY c⟩,aj.ext (Ext.lay c) _ (aj.append f h)⟩
     . cases q
   . cases q
abbrev FO:=Sg->G->Option (Option Int×G)
inductive Ra (K:KW)(f:FO)(σ:L2.St)(H:Hp)(Q:(Option Int->Hp->Prop)):Prop
 |mk (ι:Ix) (σd:Sg) (g:G) (o:Option Int) (g':G) (h0:aw K H ι g) (h1:bH K H ι σd σ) (h2:f σd g=some (o,g')) (h3:pL K H ι g' (Q o)):Ra K f σ H Q
structure DO (X:Cx)(e:Option Expr)(f:FO):Prop where of ::
 un:PO X e (Ra X.kw f)
theorem PO.imp {X:Cx}{e:Option Expr}{t t':TO}(h:PO X e t)(i:∀σ H Q,t' σ H Q->t σ H Q):PO X e t':=λa8 s σ H Q I q=>h a8 s σ H Q I (i σ H Q q)
noncomputable def eh:FO:=λ_ g=>some (none,g)
noncomputable def aY (f:FE):FO:=λσ g=>(f σ g).bind λr=>match r.1 with|.int i=>some (some i,r.2)|_=>none
theorem Ic:DO X none eh:=.of (PO.imp Hs λσ H Q h=>by obtain⟨ι,b,g,o,a,G0,c,h,p⟩:=h;cases h;exact p H ι Ext.refl G0)
theorem xR {e:Expr}{f:FE}(h:DE X e f):DO X (some e) (aY f):=.of (PO.imp (Ht h.un) λσ H Q h=>by
 obtain⟨ι,q,g,o,s,G0,l,h,p⟩:=h;obtain⟨⟨d,g1⟩,k,h⟩:=bind_some h;cases d with
 |int i =>
  cases h;exact tD.bind G0 l k λH1 j v a c r b=>⟨i,by simpa[Rel]using b,p H1 j a c⟩
 |_=>cases h)
noncomputable def cutD (xs:List D)(a b:Option Int):List D:=(xs.drop (HT.bf xs.length 0 a)).take (HT.bf xs.length xs.length b-HT.bf xs.length 0 a)
noncomputable def kL (n:Nat)(a b:Option Int):Bool:=decide (HT.bf n 0 a=0)&&decide (HT.bf n n b=n)
noncomputable def LO (d:D)(a b:Option Int)(g:G):Option (D×G):=match d with
 |.tup xs=>if kL xs.length a b=true then none else some (.tup (cutD xs a b),g)|.lst xs=>some (.lst (cutD xs a b),g)|.ref n=>match g[n]? with|some xs=>some (.lst (cutD xs a b),g)|none=>none
 |_=>none
theorem aj.LP {K H ι}{xs:List D}{vs:List V}(r:aj K H ι xs vs)(a b:Option Int):aj K H ι (cutD xs a b) (mP vs a b):=by unfold cutD mP;rw[<- r.length];exact aj.take _ (aj.drop _ r)
noncomputable def LQ (K:KW):V->Option Int->Option Int->Hp->VK->Prop:=λx lo a H Q=>Kr K x lo a H Q\/KA K x lo a H Q
theorem Ie:ot X (LQ X.kw):=by
 intro a8 s σ H x v b i lo c f Q I j a e pu h;rcases h with h|h
 . exact Ks a8 s σ H x v b i lo c f Q I j a e pu h
 . exact Hw a8 s σ H x v b i lo c f Q I j a e pu h
theorem big {a8:List (Addr×Obj)}{σ:L2.St}{H:Hp}{s:Zo}(I:Inv X a8 σ H s):ace<s.heap.objs.size:=by obtain⟨o,b,c,e,_⟩:=I.mod.glob;have a:=ZG (I.bk _ _ e);exact aeK (by decide) a
theorem El {i:Pos}:DE X (.Dict [] [] i) (fC .dZ):=.of (by
 intro a8 s σ H Q I h;obtain⟨ι,a,g,d,c,G0,f,h,p⟩:=h;cases h;have hf:H s.heap.objs.size=none:=I.aS.fresh (Zu _);refine wpAny_Dict_empty ⟨.ref s.heap.objs.size,upd H s.heap.objs.size (.dK []),I.laid (t':=s.toks) (λb u e=>Zs _ e) (Zu _) ?_,rfl,p _ _ _ (Ext.lay hf) (G0.lay hf) ?_⟩
 . exact⟨aab _,beq_eq_false_iff_ne.mpr (abi (Z1 (big I))),[],.nil,Heap.DictOf.new _⟩
 . simp only[Rel]
   exact⟨_,rfl,aP,G0.fresh hf⟩)
end
end L3
namespace L3
open PyProof.Rows L2
noncomputable def oLt:=pT λi j=>decide (i<j)
noncomputable def oLe:=pT λi j=>decide (i<=j)
noncomputable def BM:=pT λi j=>decide (j<i)
noncomputable def F3:=pT λi j=>decide (j<=i)
noncomputable def qY (S:Scope)(a N:List Str)(fr:List (Option Nat))(scope:Scope):Bool :=
 decide (scope.kind = .function)&&scope.names.all (λy=>!decide (y.2 = .cell)||decide (scope.names.lookup y.1=some .cell))&&scope.names.all (λy=>!decide (y.2 = .local)||decide (scope.names.lookup y.1=some .local)) &&
 scope.names.all (λy=>!decide (y.2 = .free)||(decide (scope.names.lookup y.1=some .free)&&(decide (S.names.lookup y.1=some .cell)||decide (S.names.lookup y.1=some .free)))) &&
 decide (fr.length=N.length)&&(ZN fr.length).all (λj=>match fr[j]? with
  |some (some i)=>match N[j]? with
   |some x=>decide (a[i]? = some x)&&decide (scope.names.lookup x=some .free)|none=>false
  |_=>true)
theorem BN {X:Cx}{N:List Str}{fr:List (Option Nat)}{scope:Scope}{S:Scope}{s:List Str}(A:X.env.scope=S)(u:X.N=s)(h:qY S s N fr scope=true):eH X N fr scope:=by
 unfold qY at h;simp only[Zr,decide_eq_true_eq,aaX,aac,Z8,decide_eq_false_iff_not]at h;obtain⟨⟨⟨⟨⟨o,l⟩,b⟩,c⟩,k⟩,q⟩:=h;refine⟨o,λy a e=>?_,λy a e=>?_,λy a e=>?_,k,λj i hf=>?_⟩
 . rcases l y a with z|z
   . exact absurd e z
   . exact z
 . rcases b y a with z|z
   . exact absurd e z
   . exact z
 . rcases c y a with z|z
   . exact absurd e z
   . refine⟨z.1,?_⟩
     show X.env.scope.names.lookup y.1=_\/X.env.scope.names.lookup y.1=_;rw[A];exact z.2
 . have f:j∈ZN fr.length:=aap.mpr (Zq.mp hf).1
   have:=q j f;rw[hf]at this;dsimp only at this;split at this
   . rename_i x r
     simp only[Zr,decide_eq_true_eq]at this;exact⟨x,r,by rw[u];exact this.1,this.2⟩
   . cases this
noncomputable def bW (f:FE):FI:=λσ g=>(f σ g).bind λr=>match r.1 with|.tup xs=>some (xs,r.2)|.lst xs=>some (xs,r.2)|_=>none
theorem vz {X:Cx}{tg l:Expr}{k:FE}(o:DE X l k):DI X tg l (bW k):=.of (by
 intro a8 s σ H R I h;obtain⟨ι,a,g,ds,b,G0,i,h,p⟩:=h;obtain⟨⟨j,g1⟩,f,c⟩:=bind_some h;cases j with
 |tup xs =>
  have e:ue k a g=some (ds,b):=by unfold ue;rw[f];exact c
  exact(Lj o).un a8 s σ H R I ⟨ι,a,g,ds,b,G0,i,e,p⟩
 |lst xs =>
  have e:uf k a g=some (ds,b):=by unfold uf;rw[f];exact c
  exact(Lk o).un a8 s σ H R I ⟨ι,a,g,ds,b,G0,i,e,p⟩
 |_=>cases c)
end L3
namespace L3
open L2
section
variable {σ:Sg}{g:G}{fa fb fc:FE}{fr:FA}{ga gb:FT}{f1 f2:FS}{o o':D->D->G->Option (D×G)}{fn:Fn}{t:FG}{ts:oz}
@[simp] theorem zL {d}:fC d σ g=some (d,g):=rfl
@[simp] theorem gK {i:Nat}:af i σ g=(match σ[i]? with|some (some d)=>some (d,g)|_=>none):=rfl
@[simp] theorem vA:ak o fa fb σ g=(fa σ g).bind λr=>(fb σ r.2).bind λq=>o r.1 q.1 q.2:=rfl
@[simp] theorem WG {o:D->G->Option (D×G)}:pM o fa σ g=(fa σ g).bind λr=>o r.1 r.2:=rfl
@[simp] theorem WH {b:Bool}:d6 (some (.bl b,g))=some (b,g):=rfl
@[simp] theorem fH:aD fa σ g=d6 (fa σ g):=rfl
@[simp] theorem Ig:oP fa σ g=(fa σ g).bind λr=>(iY r.1 r.2).map λb=>(b,r.2):=rfl
@[simp] theorem Rb {b:Bool}:iY (.bl b) g=some b:=rfl
@[simp] theorem O6 {i:Int}:iY (.int i) g=some (i != 0):=rfl
@[simp] theorem xS:qT ga gb σ g=(ga σ g).bind λr=>if r.1=true then gb σ r.2 else some (false,r.2):=rfl
@[simp] theorem LR:Bu ga gb σ g=(ga σ g).bind λr=>if r.1=true then some (true,r.2)else gb σ r.2:=rfl
@[simp] theorem Vq:D5 ga σ g=(ga σ g).bind λr=>some (!r.1,r.2):=rfl
@[simp] theorem TV:uc fa fb σ g=(d6 (fa σ g)).bind λr=>if r.1=true then fb σ r.2 else some (.bl false,r.2):=rfl
@[simp] theorem Vr:D6 fa fb σ g=(d6 (fa σ g)).bind λr=>if r.1=true then some (.bl true,r.2)else fb σ r.2:=rfl
@[simp] theorem xU:jC ga fa fb σ g=(ga σ g).bind λr=>if r.1=true then fa σ r.2 else fb σ r.2:=rfl
@[simp] theorem cU:ag σ g=some ([],g):=rfl
@[simp] theorem cz:aa fa fr σ g=(fa σ g).bind λr=>(fr σ r.2).bind λq=>some (r.1::q.1,q.2):=rfl
@[simp] theorem kM {m:List D->G->Option (D×G)}:aJ m fr σ g=(fr σ g).bind λr=>m r.1 r.2:=rfl
theorem Ih {n:Nat}:aA n=decide (n<=16777216):=rfl
@[simp] theorem O7 {n:Nat}(h:n<=16777216):aA n=true:=decide_eq_true h
@[simp] theorem Rc {ds:List D}:az ds g=if aA ds.length=true then some (.tup ds,g)else none:=rfl
@[simp] theorem Rf {ds:List D}:gv ds g=if aA ds.length=true then some (.lst ds,g)else none:=rfl
@[simp] theorem Rg {ds:List D}:mkRef ds g=if aA ds.length=true then some (.ref g.length,g ++ [ds])else none:=rfl
@[simp] theorem TX:aQ σ g=some (.nx,σ,g):=rfl
@[simp] theorem qZ:ax f1 f2 σ g=(f1 σ g).bind λr=>match r.1 with|.nx=>f2 r.2.1 r.2.2|_=>some r:=rfl
@[simp] theorem xV:aI fa σ g=(fa σ g).bind λr=>some (.rt r.1,σ,r.2):=rfl
@[simp] theorem vB:bP ga f1 f2 σ g=(ga σ g).bind λr=>if r.1=true then f1 σ r.2 else f2 σ r.2:=rfl
@[simp] theorem TY:lE fa σ g=(fa σ g).bind λr=>some (.nx,σ,r.2):=rfl
@[simp] theorem nL:aF fa t σ g=(fa σ g).bind λr=>(t r.1 σ r.2).bind λq=>some (.nx,q.1,q.2):=rfl
@[simp] theorem Yw {i:Nat}{d:D}:gN i d σ g=some (σ.set i (some d),g):=rfl
@[simp] theorem TZ:gw [] σ g=some (σ,g):=rfl
@[simp] theorem Rh {d:D}{r:List D}:cu t ts (d::r) σ g=(t d σ g).bind λq=>ts r q.1 q.2:=rfl
@[simp] theorem Yx {n:Nat}{xs:List D}:gT n ts (.tup xs) σ g=if xs.length=n then ts xs σ g else none:=rfl
@[simp] theorem fI:ao fn fr σ g=(fr σ g).bind λr=>fn r.1 r.2:=rfl
@[simp] theorem kN {i:FI}:fg i t f1 σ g=(i σ g).bind λr=>forL t f1 r.1 σ r.2:=rfl
@[simp] theorem Vs:bW fa σ g=(fa σ g).bind λr=>match r.1 with|.tup xs=>some (xs,r.2)|.lst xs=>some (xs,r.2)|_=>none:=rfl
@[simp] theorem T1:ue fa σ g=(fa σ g).bind λr=>match r.1 with|.tup xs=>some (xs,r.2)|_=>none:=rfl
@[simp] theorem T2:uf fa σ g=(fa σ g).bind λr=>match r.1 with|.lst xs=>some (xs,r.2)|_=>none:=rfl
@[simp] theorem eA {mk:List D->G->Option (D×G)}{a:FI}{fr:List (Option Nat)}{c:FT}:bq mk a fr t c fa σ g=(a σ g).bind λr=>if aA r.1.length=true then(cy t c fa r.1 (bM fr σ) r.2).bind λq=>mk q.1 q.2 else none:=rfl
@[simp] theorem Vt {ds:List D}:bw ds g=some (.lst ds,g):=rfl
@[simp] theorem T3:bF σ g=some (true,g):=rfl
@[simp] theorem WI {c:Int->Int->Bool}{f:Int->Int->Int}{i j:Int}:bU c f (.int i) (.int j) g=if c i j=true then some (.int (f i j),g)else none:=rfl
@[simp] theorem T4 {i j:Int}:di i j=true:=rfl
@[simp] theorem WJ {i j:Int}:oLt (.int i) (.int j) g=some (.bl (decide (i<j)),g):=rfl
@[simp] theorem WK {i j:Int}:oLe (.int i) (.int j) g=some (.bl (decide (i<=j)),g):=rfl
@[simp] theorem WL {i j:Int}:BM (.int i) (.int j) g=some (.bl (decide (j<i)),g):=rfl
@[simp] theorem WM {i j:Int}:F3 (.int i) (.int j) g=some (.bl (decide (j<=i)),g):=rfl
@[simp] theorem Vu {i:Int}:lG (.int i) g=some (.int (-i),g):=rfl
@[simp] theorem xW {i j:Int}:aT (.int i) (.int j) g=some (.int (i+j),g):=rfl
@[simp] theorem Ii {i j:Int}:bJ (.int i) (.int j) g=if b_ i j=true then some (.int (i*j),g)else none:=rfl
@[simp] theorem WN {d:D}{i:Int}:d9 d (.int i) g=(bb d g).bind λxs=>(cA xs i).map λe=>(e,g):=rfl
@[simp] theorem Vv {xs:List D}:bb (.tup xs) g=some xs:=rfl
@[simp] theorem Vw {xs:List D}:bb (.lst xs) g=some xs:=rfl
@[simp] theorem Vx {n:Nat}:bb (.ref n) g=g[n]?:=rfl
@[simp] theorem Vy {d:D}:bz [d] g=(bb d g).map λxs=>(.int xs.length,g):=rfl
@[simp] theorem Vz {i j:Int}:km [.int i,.int j] g=some (.int (if j<i then j else i),g):=rfl
@[simp] theorem T5 {k:Bool}:mY [.bl k] g=some (.int (if k then 1 else 0),g):=rfl
@[simp] theorem T6 {i:Int}:mY [.int i] g=some (.int i,g):=rfl
@[simp] theorem q_ {d:D}:fG [d] g=(bb d g).bind λxs=>if aA xs.length=true then some (.tup xs,g)else none:=rfl
@[simp] theorem VA {i j:Int}:oEq (.int i) (.int j) g=some (.bl (i == j),g):=rfl
@[simp] theorem VB {i j:Bool}:oEq (.bl i) (.bl j) g=some (.bl (i == j),g):=rfl
@[simp] theorem VC {i j:Str}:oEq (.str i) (.str j) g=some (.bl (i == j),g):=rfl
@[simp] theorem VD {d:D}:Ej d .ay g=some (.bl (fV d),g):=rfl
@[simp] theorem T7 {d:D}:zJ d .ay g=some (.bl (!fV d),g):=rfl
theorem aM {c a:Nat}{ds:List D}{b:FS}{σ':Sg}{d:D}{g':G}(i:ds.length=a)(h:b (ds.map some++ZA (c-a) none) g=some (.rt d,σ',g'))(f:g'.length=g.length):aq false c a b ds g=some (d,g'):=by
 unfold aq;rw[if_pos i,h];have e:settle g.length d g'=some (d,g'):=by unfold settle;rw[if_pos f]
 simpa using e
theorem xX {c a:Nat}{ds:List D}{b:FS}{σ':Sg}{d:D}{g':G}(e:ds.length=a)(h:b (ds.map some++ZA (c-a) none) g=some (.rt d,σ',g')):aq true c a b ds g=some (d,g'):=by unfold aq;rw[if_pos e,h];rfl
end
theorem cM {t:FG}{c:FT}{e:FE}{h:D->D}(I:Sg->Prop):∀(ds:List D) (σ:Sg) (g:G),I σ->(∀d∈ds,∀σ,I σ->∃σ1,t d σ g=some (σ1,g)/\c σ1 g=some (true,g)/\e σ1 g=some (h d,g)/\I σ1)->cy t c e ds σ g=some (ds.map h,g)
 | [],_,_,_,_=>rfl|d::ds,σ,g,hi,hh=>by obtain⟨σ1,i,f,a,b⟩:=hh d ZU σ hi;simp only[cy,i,f,a,Zt,if_true,cM I ds σ1 g b λx j=>hh x (Zz _ j),aaE]
@[simp] theorem T9 {a:Type}{σ:List (Option a)}:bM [] σ = []:=rfl
@[simp] theorem Ri {a:Type}{σ:List (Option a)}{fr:List (Option Nat)}:bM (none::fr) σ=none::bM fr σ:=rfl
@[simp] theorem Rj {a:Type}{σ:List (Option a)}{fr:List (Option Nat)}{i:Nat}:bM (some i::fr) σ=(σ[i]?).join::bM fr σ:=rfl
end L3
namespace L3
open PyProof.Rows L2
noncomputable def zM (c:Bool):D->Bool
 |.bl b=>b == c|_=>false
noncomputable def isLit (a b:D):Option Bool:=match b with
 |.ay=>some (fV a)|.bl c=>some (zM c a)|_=>none
noncomputable def kO (c a:D)(g:G):Option (D×G):=(isLit c a).map λb=>(.bl b,g)
noncomputable def uh (c a:D)(g:G):Option (D×G):=(isLit c a).map λb=>(.bl (!b),g)
section
variable {X:Cx}
theorem BO {K H ι d v u c}(r:Rel K H ι d v)(f:RelV v u):(u == aet c)=zM c d/\PySem.plainIs u (.bool c)=true:=by
 cases d with
 |ay=>simp only[Rel]at r;subst r;cases f;exact⟨rfl,rfl⟩|bl b=>simp only[Rel]at r;subst r;cases f;exact⟨by cases b<;>cases c<;>rfl,rfl⟩|int _=>simp only[Rel]at r;subst r;obtain⟨t,rfl⟩:=f;exact⟨rfl,rfl⟩
 |str _=>simp only[Rel]at r;subst r;obtain⟨t,rfl⟩:=f;exact⟨rfl,rfl⟩
 |tup _=>simp only[Rel]at r;obtain⟨a,e,rfl,_⟩:=r;cases f;exact⟨rfl,rfl⟩
 |lst _=>simp only[Rel]at r;obtain⟨a,e,rfl,_⟩:=r;cases f;exact⟨rfl,rfl⟩
 |dZ=>simp only[Rel]at r;obtain⟨a,rfl,_⟩:=r;cases f;exact⟨rfl,rfl⟩
 |ref _=>simp only[Rel]at r;obtain⟨a,rfl,_⟩:=r;cases f;exact⟨rfl,rfl⟩
 |aX _=>simp only[Rel]at r;obtain⟨a,rfl,_⟩:=r;cases f;exact⟨rfl,rfl⟩
 |fn _=>simp only[Rel]at r;obtain⟨a,_,rfl,_⟩:=r;cases f;exact⟨rfl,rfl⟩
theorem O8:bK X (aaB .Is) (dH X.kw kO):=by
 intro a8 s σ H x y v u Q I f h q;obtain⟨ι,g,i,k,d,j,G0,b,a,q,p⟩:=q;cases k with
 |ay=>exact LF a8 s σ H x y v u Q I f h ⟨ι,g,i,.ay,d,j,G0,b,a,q,p⟩
 |bl c =>
  simp only[Rel]at a;subst a;cases h;simp only[kO,isLit,abg]at q;cases q;obtain⟨e,z⟩:=BO (c:=c) b f;refine wpAny_is_plain z ?_;rw[e];exact⟨.bl _,H,I,rfl,p H ι _ Ext.refl G0 (by simp[Rel])⟩
 |_=>cases q
theorem Ij:bK X (aaB .IsNot) (dH X.kw uh):=by
 intro a8 s σ H x y v u Q I f h q;obtain⟨ι,g,i,k,d,j,G0,b,a,q,p⟩:=q;cases k with
 |ay=>exact HZ a8 s σ H x y v u Q I f h ⟨ι,g,i,.ay,d,j,G0,b,a,q,p⟩
 |bl c =>
  simp only[Rel]at a;subst a;cases h;simp only[uh,isLit,abg]at q;cases q;obtain⟨e,z⟩:=BO (c:=c) b f;refine wpAny_isNot_plain z ?_;rw[e];exact⟨.bl _,H,I,rfl,p H ι _ Ext.refl G0 (by simp[Rel])⟩
 |_=>cases q
end
@[simp] theorem WO {c a:D}{g:G}:kO c a g=(isLit c a).map λb=>(.bl b,g):=rfl
@[simp] theorem T_ {c a:D}{g:G}:uh c a g=(isLit c a).map λb=>(.bl (!b),g):=rfl
@[simp] theorem Rk {a:D}:isLit a .ay=some (fV a):=rfl
@[simp] theorem Rl {d:D}{c:Bool}:isLit d (.bl c)=some (zM c d):=rfl
@[simp] theorem VE {b c:Bool}:zM c (.bl b)=(b == c):=rfl
noncomputable def Ix.none (ι:Ix):Ix:=⟨[],ι.ix++ι.hd,ι.kd⟩
noncomputable def Em:HO->Bool
 |.tup _=>true|.me _ _=>true|.dK _=>true|.hZ _=>true|_=>false
mutual
theorem Rel.toN {K H ι}:∀(d:D) {v:V},bQ 0 d=true->Rel K H ι d v->Rel K H (Ix.none ι) d v
 |.ay,v,_,h=>by simpa[Rel]using h|.bl _,v,_,h=>by simpa[Rel]using h|.int _,v,_,h=>by simpa[Rel]using h|.str _,v,_,h=>by simpa[Rel]using h
 |.tup xs,v,z,h=>by
  simp only[Rel]at h ⊢;obtain⟨a,i,e,b,f⟩:=h;refine⟨a,i,e,?_,aj.toN xs z f⟩;rcases b with⟨b,hn⟩|b
  . exact .inl ⟨b,by simp[Ix.none]⟩
  . exact .inr b
 |.lst xs,v,z,h=>by
  simp only[Rel]at h ⊢;obtain⟨a,i,e,b,f⟩:=h;refine⟨a,i,e,?_,aj.toN xs z f⟩;rcases b with⟨b,hn,hh⟩|b
  . exact .inl ⟨b,by simp[Ix.none],λm=>(Zy.mp m).elim hn hh⟩
  . exact .inr b
 |.dZ,v,_,h=>by simp only[Rel]at h ⊢;obtain⟨a,e,b,f⟩:=h;exact⟨a,e,b,by simp[Ix.none]⟩
 |.ref k,v,z,h=>by simp[bQ]at z|.aX k,v,z,h=>by simp[bQ]at z|.fn x ds,v,z,h=>by simp only[Rel]at h ⊢;obtain⟨a,i,e,b,f⟩:=h;exact⟨a,i,e,b.mono λc u _ q=>⟨q.1,by simp[Ix.none],λy m=>(Zy.mp m).elim q.2.1 (q.2.2 y)⟩,aj.toN ds z f⟩
theorem aj.toN {K H ι}:∀(ds:List D) {vs:List V},aN 0 ds=true->aj K H ι ds vs->aj K H (Ix.none ι) ds vs
 | [],vs,_,h=>by simpa[aj]using h|d::ds,vs,z,h=>by simp only[aj]at h ⊢;simp only[aN,Zr]at z;obtain⟨v,c,e,b,a⟩:=h;exact⟨v,c,e,Rel.toN d z.1 b,aj.toN ds z.2 a⟩
end
mutual
theorem Rel.pV {K H ι s}(hh:s.hd=ι.ix++ι.hd)(r:∀a∈ι.ix,∃o,H a=some o/\Em o=false):∀(d:D) {v:V},bQ 0 d=true->Rel K H s d v->Rel K H ι d v
 |.ay,v,_,h=>by simpa[Rel]using h|.bl _,v,_,h=>by simpa[Rel]using h|.int _,v,_,h=>by simpa[Rel]using h|.str _,v,_,h=>by simpa[Rel]using h
 |.tup xs,v,z,h=>by
  simp only[Rel]at h ⊢;obtain⟨a,l,i,b,j⟩:=h;refine⟨a,l,i,?_,aj.pV hh r xs z j⟩;rcases b with⟨b,hn⟩|b
  . refine .inl ⟨b,λm=>?_⟩
    obtain⟨us,e,f⟩:=r a m;rcases b with b|⟨o,b⟩<;>rw[e]at b<;>cases b<;>cases f
  . exact .inr b
 |.lst xs,v,z,h=>by
  simp only[Rel]at h ⊢;obtain⟨a,l,i,b,j⟩:=h;refine⟨a,l,i,?_,aj.pV hh r xs z j⟩;rcases b with⟨b,hn,hk⟩|b
  . rw[hh]at hk
    exact .inl ⟨b,λm=>hk (Zy.mpr (.inl m)),λm=>hk (Zy.mpr (.inr m))⟩
  . exact .inr b
 |.dZ,v,_,h=>by simp only[Rel]at h ⊢;obtain⟨a,i,b,j⟩:=h;refine⟨a,i,b,λm=>?_⟩;obtain⟨us,e,f⟩:=r a m;rw[e]at b;cases b;cases f
 |.ref k,v,z,h=>by simp[bQ]at z|.aX k,v,z,h=>by simp[bQ]at z
 |.fn x ds,v,z,h=>by
  simp only[Rel]at h ⊢;obtain⟨a,l,i,b,j⟩:=h;exact⟨a,l,i,b.mono λc u y q=>⟨q.1,λm=>(by
    cases he:Q1 u with
    |true=>exact q.2.2 he (by rw[hh];exact adA _ m)
    |false =>
     obtain⟨us,e,f⟩:=r c m;rw[q.1]at e;cases e;cases u<;>first| (cases f;done)| (cases he;done)| (cases y;done)),λz m=>q.2.2 z (by rw[hh];exact aas _ m)⟩,aj.pV hh r ds z j⟩
theorem aj.pV {K H ι i}(hh:i.hd=ι.ix++ι.hd)(j:∀a∈ι.ix,∃o,H a=some o/\Em o=false):∀(ds:List D) {vs:List V},aN 0 ds=true->aj K H i ds vs->aj K H ι ds vs
 | [],vs,_,h=>by simpa[aj]using h|d::ds,vs,z,h=>by simp only[aj]at h ⊢;simp only[aN,Zr]at z;obtain⟨v,e,f,c,b⟩:=h;exact⟨v,e,f,Rel.pV hh j d z.1 c,aj.pV hh j ds z.2 b⟩
end
theorem aw.lst {K H ι g}(h:aw K H ι g){a:Addr}(r:a∈ι.ix):∃o,H a=some o/\Em o=false:=by
 obtain⟨i,c,e⟩:=aaW.mp r;have k:i<g.length:=by rw[<- h.len];exact c
 obtain⟨b,o,q,j,l,f,_⟩:=h.at_ i _ (Zn k);rw[Zn c,e]at j;cases j;generalize ι.kd i=kk at f;exact⟨o,l,by cases f<;>rfl⟩
noncomputable def eU (fn:Fn):Fn:=λds g=>if aN 0 ds=true then(fn ds []).bind λr=>if bQ 0 r.1=true then some (r.1,g)else none else none
theorem iG {fn:Fn}{ds g d g'}(h:eU fn ds g=some (d,g')):aN 0 ds=true/\(∃gx,fn ds []=some (d,gx))/\bQ 0 d=true/\g'=g:=by
 unfold eU at h;split at h
 . rename_i z
   obtain⟨⟨c,g1⟩,a,h⟩:=bind_some h;split at h
   . rename_i b
     cases h;exact⟨z,⟨g1,a⟩,b,rfl⟩
   . cases h
 . cases h
theorem Ik {P:ZW}{K:KW}{base:Heap}{k n f fd ps}{fn:Fn}(F:dS P K.w K.fr K.mg base gX k f fd ps (j2 K n fn)):dS P K.w K.fr K.mg base gX k f fd ps (j2 K n (eU fn)):=
 dS.imp F λl H Q E ⟨x,ι,g,ds,d,g',G0,r,h,p⟩=>by
  obtain⟨z,⟨gx,hx⟩,u,rfl⟩:=iG h;refine⟨x,Ix.none ι,[],ds,d,gx,⟨abB,rfl,λb hb=>⟨by simp[Ix.none],?_⟩,λi xs q=>by simp at q,λq hq=>⟨(G0.tb q hq).1,by simp[Ix.none]⟩⟩,aj.toN ds z r,hx,λj ι' v e G1 y=>?_⟩
  . rcases Zy.mp hb with m|m
    . exact G0.jV m
    . exact(G0.cH b m).2
  . have same:∀a∈ι.ix,j a=H a:=λa c=>by
      obtain⟨l,ev,_⟩:=G0.lst c;rw[ev];exact e.same a _ ev (by simp[Ix.none])
    have s:Ext H ι j ι:=⟨λa o q _=>e.same a o q (by simp[Ix.none]),e.there,⟨[],by simp,λ_ q=>by simp at q⟩,rfl,λ_ _=>rfl⟩
    refine p j ι v s (G0.ext s same) (Rel.pV e.cH (λa c=>?_) d u y);obtain⟨l,ev,f⟩:=G0.lst c;exact⟨l,by rw[same a c];exact ev,f⟩
theorem zN {fn:Fn}{n:Nat}(h:∀ds g r,fn ds g=some r->ds.length=n):∀ds g r,eU fn ds g=some r->ds.length=n:=λds g r q=>by obtain⟨_,⟨gx,a⟩,_⟩:=iG (d:=r.1) (g':=r.2) q;exact h _ _ _ a
end L3
namespace L3
open L2
def wp {b:Type}(o:Option b)(Q:b->Prop):Prop:=∃a,o=some a/\Q a
section
variable {α β:Type}{o:Option α}{Q R:α->Prop}
@[simp] theorem fW {a:α}:wp (some a) Q=Q a:=by simp[wp]
@[simp] theorem VF:wp (none:Option α) Q=False:=by simp[wp]
@[simp] theorem wp_bind {f:α->Option β}{Q:β->Prop}:wp (o.bind f) Q=wp o λa=>wp (f a) Q:=by cases o<;>simp[wp]
@[simp] theorem wp_map {f:α->β}{Q:β->Prop}:wp (o.map f) Q=wp o λa=>Q (f a):=by cases o<;>simp[wp]
theorem wp_mono (h:wp o R)(i:∀a,R a->Q a):wp o Q:=let⟨a,e,r⟩:=h;⟨a,e,i a r⟩
end
@[simp] theorem WQ {o:Option (D×G)}{Q:Bool×G->Prop}:wp (d6 o) Q=wp o λr=>∃b,r.1 = .bl b/\Q (b,r.2):=by
 cases o with
 |none=>simp[d6]
 |some r =>
  obtain⟨d,g⟩:=r;cases d with
  |bl b=>cases b<;>simp[d6]|_=>simp[d6]
section
variable {σ:Sg}{g:G}{fa:FE}{fl fh:FO}
@[simp] theorem oT {xs ys:List D}:aT (.tup xs) (.tup ys) g=if aA (xs.length+ys.length)=true then some (.tup (xs++ys),g)else none:=rfl
@[simp] theorem En {xs ys:List D}:aT (.lst xs) (.lst ys) g=if aA (xs.length+ys.length)=true then some (.lst (xs++ys),g)else none:=rfl
@[simp] theorem Ua {x y:Str}:aT (.str x) (.str y) g=if aA (x.length+y.length)=true then some (.str (x++y),g)else none:=rfl
@[simp] theorem VG:eh σ g=some (none,g):=rfl
@[simp] theorem Ub:aY fa σ g=(fa σ g).bind λr=>match r.1 with|.int i=>some (some i,r.2)|_=>none:=rfl
theorem Uc {xs:List D}{k:Int}(c:k<=1000)(e:-1000<=k)(b:xs.length<=1000):bJ (.int k) (.tup xs) g=some (.tup (ZA k.toNat xs).flatten,g):=by
 show(if(fz k&&aA (xs.length*k.toNat))=true then some (D.tup (ZA k.toNat xs).flatten,g)else none)=_;rw[if_pos];have a:k.toNat<=1000:=by omega
 have:xs.length*k.toNat<=1000*1000:=Nat.mul_le_mul b a;rw[fz.of (by omega) (by omega),O7 (by omega)];rfl
theorem vC {n a:Nat}(h:a<=n):HT.bf n n (some (a:Int))=a:=by rw[HT.xq];omega
theorem jJ {n a:Nat}(h:a<=n):HT.bf n 0 (some (a:Int))=a:=by rw[HT.xq];omega
end
theorem nM {t:FG}{b:FS}{Q:F×Sg×G->Prop}(I:Nat->Sg->G->Prop):∀(ds:List D) (i:Nat) (σ:Sg) (g:G),I i σ g ->
  (∀(j:Nat) (d:D) σ g,ds[j]? = some d->I (i+j) σ g->wp (t d σ g) λq=>wp (b q.1 q.2) λr=>match r.1 with
   |.nx=>I (i+j+1) r.2.1 r.2.2|.ct=>I (i+j+1) r.2.1 r.2.2|.bk=>Q (.nx,r.2.1,r.2.2)|.rt d=>Q (.rt d,r.2.1,r.2.2))->(∀σ g,I (i+ds.length) σ g->Q (.nx,σ,g))->wp (forL t b ds σ g) Q
 | [],i,σ,g,hi,_,he=>by simp only[forL,fW];exact he σ g hi
 |d::ds,i,σ,g,hi,hs,he=>by
  simp only[forL,wp_bind];refine wp_mono (hs 0 d σ g rfl hi) λq c=>wp_mono c λr a=>?_;have go:I (i+0+1) r.2.1 r.2.2->wp (forL t b ds r.2.1 r.2.2) Q:=λz =>
   nM I ds (i+1) _ _ z (λj d σ g e h=>by have q:=hs (j+1) d σ g (by simpa using e) (by rw[show i+(j+1)=i+1+j by omega];exact h);rw[show i+(j+1)+1=i+1+j+1 by omega]at q;exact q) λσ g h=>he σ g (by rw[aaz,show i+(ds.length+1)=i+1+ds.length by omega];exact h)
  obtain⟨f,k⟩:=r;cases f with
  |nx=>exact go a|ct=>exact go a|bk=>simp only[fW];exact a|rt d=>simp only[fW];exact a
theorem ip {t:FG}{c:FT}{e:FE}{Q:List D×G->Prop}(I:Nat->List D->Sg->G->Prop):∀(ds:List D) (i:Nat) (σ:Sg) (g:G) (acc:List D),I i acc σ g ->
  (∀(j:Nat) (d:D) acc σ g,ds[j]? = some d->I (i+j) acc σ g->wp (t d σ g) λq=>wp (c q.1 q.2) λk=>if k.1=true then wp (e q.1 k.2) λr=>I (i+j+1) (acc ++ [r.1]) q.1 r.2 else I (i+j+1) acc q.1 k.2) ->
  (∀xs σ g,I (i+ds.length) (acc++xs) σ g->Q (xs,g))->wp (cy t c e ds σ g) Q
 | [],i,σ,g,acc,hi,_,he=>by simp only[cy,fW];exact he [] σ g (by simpa using hi)
 |d::ds,i,σ,g,acc,hi,hs,he=>by
  simp only[cy,wp_bind];refine wp_mono (hs 0 d acc σ g rfl hi) λq o=>wp_mono o λk b=>?_;have go:∀(a:List D) (s:Sg) (h:G) (R:List D×G->Prop),I (i+1) a s h->(∀xs σ g,I (i+1+ds.length) (a++xs) σ g->R (xs,g))->wp (cy t c e ds s h) R:=λa s h R z he =>
    ip I ds (i+1) s h a z (λj d acc σ g e h=>by have q:=hs (j+1) d acc σ g (by simpa using e) (by rw[show i+(j+1)=i+1+j by omega];exact h);rw[show i+(j+1)+1=i+1+j+1 by omega]at q;exact q) he
  have l:i+(d::ds).length=i+1+ds.length:=by rw[aaz];omega
  rw[l]at he;by_cases hc:k.1=true
  . rw[if_pos hc]at b ⊢
    simp only[wp_bind];refine wp_mono b λr f=>?_;refine go (acc ++ [r.1]) q.1 r.2 _ f λxs σ g h=>?_;simp only[fW];exact he (r.1::xs) σ g (by simpa using h)
  . rw[if_neg hc]at b ⊢
    exact go acc q.1 k.2 _ b he
theorem wp_run {j i:Nat}{b:FS}{ds:List D}{g:G}{Q:D×G->Prop}(k:ds.length=i)(h:wp (b (ds.map some++ZA (j-i) none) g) λr=>match r.1 with
  |.rt d=>r.2.2.length=g.length/\Q (d,r.2.2)|.nx=>r.2.2.length=g.length/\Q (.ay,r.2.2)|_=>False):wp (aq false j i b ds g) Q:=by
 obtain⟨⟨r,σ,f⟩,e,q⟩:=h;unfold aq;rw[if_pos k,e];cases r with
 |rt d =>
  obtain⟨c,a⟩:=q;dsimp only at c a;refine⟨_,?_,a⟩;simp[settle,c]
 |nx =>
  obtain⟨c,a⟩:=q;dsimp only at c a;refine⟨_,?_,a⟩;simp[settle,c]
 |bk=>exact q.elim|ct=>exact q.elim
theorem Il {f c:Nat}{b:FS}{ds:List D}{g:G}{Q:D×G->Prop}(i:ds.length=c)(h:wp (b (ds.map some++ZA (f-c) none) g) λr=>match r.1 with
  |.rt d=>Q (d,r.2.2)|.nx=>Q (.ay,r.2.2)|_=>False):wp (aq true f c b ds g) Q:=by
 obtain⟨⟨r,σ,a⟩,e,q⟩:=h;unfold aq;rw[if_pos i,e];cases r with
 |rt d=>exact⟨_,rfl,q⟩|nx=>exact⟨_,rfl,q⟩|bk=>exact q.elim|ct=>exact q.elim
theorem jq {y x:Nat}{b:FS}{ds:List D}{g:G}{Q:D×G->Prop}(A:ds.length=x)(h:wp (b (ds.map some++ZA (y-x) none) g) λr=>match r.1 with
  |.rt d=>bQ g.length d=true/\(r.2.2.take g.length).all (aN g.length)=true/\g.length<=r.2.2.length/\Q (d,r.2.2.take g.length)|.nx=>(r.2.2.take g.length).all (aN g.length)=true/\g.length<=r.2.2.length/\Q (.ay,r.2.2.take g.length)|_=>False):wp (aq false y x b ds g) Q:=by
 obtain⟨⟨r,σ,a⟩,e,q⟩:=h;unfold aq;rw[if_pos A,e];have fin:∀d,bQ g.length d=true->(a.take g.length).all (aN g.length)=true->g.length<=a.length->Q (d,a.take g.length)->wp (settle g.length d a) Q:=λd l o u j=>by
  by_cases hg:a.length=g.length
  . rw[aal (by omega)]at j
    exact⟨_,by unfold settle;rw[if_pos hg],j⟩
  . refine⟨_,?_,j⟩
    unfold settle;rw[if_neg hg,if_pos o];cases d with
    |ref k =>
     have z:k<g.length:=by simpa[bQ]using l
     simp only[if_pos z]
    |_=>simp only[if_pos l]
 cases r with
 |rt d =>
  obtain⟨s,i,c,f⟩:=q;exact fin d s i c f
 |nx =>
  obtain⟨i,c,f⟩:=q;exact fin .ay rfl i c f
 |bk=>exact q.elim|ct=>exact q.elim
end L3
namespace L3
open PyProof.Rows L2
open SeqAt
theorem pW {M:Model}{A:ZY}{E:Value->Zo->Prop}{s:Zo}{a:Type}(f:Nat->a->Sem (ForInStep a))(I:List Nat->a->Zo->Prop)(Q:a->Zo->Prop){c e:Nat}{b:a}
  (turn:∀x rest b s,I (x::rest) b s->wpAny M A (f x b) (λr s'=>match r with|.yield b'=>I rest b' s'|.done b'=>Q b' s') E s)
  (fin:∀b s,I [] b s->Q b s) (h:I (abT c (e-c)) b s):wpAny M A (forIn [c:e] b f) Q E s:=by
 rw[afJ];refine acb f I Q turn fin _ b ?_;simpa[ajk]using h
theorem tX (l:Addr)(items:Array Value)(n:Nat)(E:Option Addr)(C:Array (Option Value))(x:Value)(e:Value->Bool)(j:Nat)(I:j<items.size)
  (B:e items[j]=true) (H:∀m (hm:m<items.size),m<j->e items[m]=false):
  Meets (aa9.«tuple.index» ⟨[.ref l,x],[]⟩)
   (λA R s=>s.heap.get? l=some { cls:=.type "tuple",dict:=E,data:=.seq items n,slots:=C }/\(∀y,y∈items->EqAt A.in1 s y x (e y))/\R (.ok (.ret (.int j s.toks))) { s with toks:=s.toks+1 }):=
 .of_wp λprog w A R s h=>by
  obtain⟨k,g,d,r,os⟩:=s;obtain⟨u,he,h⟩:=h
  wp_walk using wpAny_loadPart' u,pW _ (λrest b f=>b.1=none/\f=⟨k,g,d,r,os⟩ /\ ∃i,rest=abT i (items.size-i)/\i<=j) _
  case turn =>
   rintro y rest b f ⟨hb,rfl,i,a,z⟩;have c:i<items.size:=by omega
   have q:abT i (items.size-i)=i::abT (i+1) (items.size-(i+1)):=by rw[show items.size-i=(items.size-(i+1))+1 by omega,aeO]
   rw[q]at a;injection a with h1 h2
   subst h1 h2;have o:items[y]? = some items[y]:=by simp[c]
   rw[o];refine Zm (he _ (aeo c) prog w _ _ ?_);by_cases hy:y=j
   . subst hy
     rw[B]
     wp_walk
     exact⟨_,rfl,h⟩
   . rw[H y c (by omega)]
     wp_walk
     exact⟨rfl,rfl,y+1,rfl,by omega⟩
  case fin =>
   rintro⟨b1,b2⟩ f ⟨hb,rfl,i,a,z⟩;have:(abT i (items.size-i)).length=0:=by rw[<- a];rfl
   rw[List.length_range']at this;omega
  case h=>exact⟨rfl,rfl,0,by simp,aab _⟩
noncomputable def gR:D->Bool
 |.ay=>true|.bl _=>true|.int _=>true|.str _=>true|_=>false
noncomputable def toV:D->V
 |.bl b=>.bl b|.int i=>.int i|.str x=>.str x|_=>.ay
theorem nO {K H ι d v}(h:gR d=true)(r:Rel K H ι d v):v=toV d/\ja v=true:=by
 cases d with
 |ay=>simp only[Rel]at r;subst r;exact⟨rfl,rfl⟩|bl _=>simp only[Rel]at r;subst r;exact⟨rfl,rfl⟩|int _=>simp only[Rel]at r;subst r;exact⟨rfl,rfl⟩|str _=>simp only[Rel]at r;subst r;exact⟨rfl,rfl⟩|_=>cases h
theorem rh {K H ι d}(h:gR d=true):Rel K H ι d (toV d):=by
 cases d with
 |ay=>simp[Rel,toV]|bl _=>simp[Rel,toV]|int _=>simp[Rel,toV]|str _=>simp[Rel,toV]|_=>cases h
theorem vD {K H ι}:∀{xs:List D} {vs:List V},xs.all gR=true->aj K H ι xs vs->vs=xs.map toV/\vs.all ja=true
 | [],vs,_,r=>by simp only[aj]at r;subst r;exact⟨rfl,rfl⟩|d::xs,vs,h,r=>by simp only[aj]at r;obtain⟨v,f,rfl,b,c⟩:=r;rw[adk,Zr]at h;obtain⟨e,f1⟩:=nO h.1 b;obtain⟨a,f2⟩:=vD h.2 c;subst e a;exact⟨rfl,by rw[adk,f1,f2];rfl⟩
theorem vE {K H ι}:∀{xs:List D},xs.all gR=true->aj K H ι xs (xs.map toV)
 | [],_=>by simp[aj]|d::xs,h=>by rw[adk,Zr]at h;simp only[aaE,aj];exact⟨_,_,rfl,rh h.1,vE h.2⟩
theorem O9 {a b:D}(c:gR a=true)(e:gR b=true):sx (toV a) (toV b)=aH a b:=by cases a<;>cases b<;>first| (simp[toV,sx,aH];done)| (simp[gR]at c;done)| (simp[gR]at e;done)
section
variable {X:Cx}
noncomputable def lJ (a b:FE):FE:=λσ g=>(a σ g).bind λr=>(iY r.1 r.2).bind λc=>if c=true then some r else b σ r.2
theorem LS {a b:Expr}{rest:List Expr}{A:Pos}{C B:FE}(E:DE X a C)(J:DE X (.BoolOp .Or (b::rest) A) B):DE X (.BoolOp .Or (a::b::rest) A) (lJ C B):=.of (by
 intro a8 s σ H Q I h;obtain⟨ι,l,g,d,g',G0,r,h,p⟩:=h;obtain⟨⟨o,g1⟩,h1,h⟩:=bind_some h;obtain⟨c,z,h⟩:=bind_some h;have hA:=E.un a8 s σ H (λx H1=>∃e,Ext H ι H1 e/\aw X.kw H1 e g1/\bH X.kw H1 e l σ/\Rel X.kw H1 e o x) I ⟨ι,l,g,o,g1,G0,r,h1,λH1 e v f i j=>⟨e,f,i,r.ext f,j⟩⟩;refine BoolOp_or (aW hA λv s1 ⟨x,H1,I1,j,e,f,i,S1,u⟩=>?_);have hT:=A7 a8 s1 σ H1 x v (λk y=>k=c/\y=H1) I1 j ⟨c,xJ i u z,rfl,rfl⟩;refine aW hT λk s2 ⟨H2,q,e2,e3⟩=>?_;subst e2 e3;cases k with
 |true =>
  simp only[if_true]at h ⊢;cases h;exact⟨x,_,q,j,p _ e x f i u⟩
 |false =>
  simp only[ZJ,if_false]at h ⊢;exact J.un a8 s2 σ _ Q q ⟨e,l,g1,d,g',i,S1,h,p.mono f⟩)
end
def vF (K:KW)(d:D)(v:V):Prop:=(gR d=true/\v=toV d) \/
 ∃xs a o au n,d = .tup xs/\xs.all gR=true/\v = .ref a/\K.fr.lookup a=some o/\o.cls = .type "tuple" /\ o.dict=none/\o.data = .seq au n/\au.size<=ZM/\Vals (xs.map toV) au.toList
noncomputable def nQ (w:World)(K:KW):List aaf->List (Str×D)->Prop
 | [],cw=>cw = []|e::es,cw=>∃x d rest,cw=(x,d)::rest/\(∃t,e.key = .str x t)/\e.hash=hashStr w x/\(∃v,RelV v e.val/\vF K d v)/\nQ w K es rest
structure iH (w:World)(K:KW)(a:Addr)(cw:List (Str×D)):Prop where
 ex:∃o es ep,K.fr.lookup a=some o/\o.ExactDict/\o.data = .dict es ep/\nQ w K es.toList cw
 sys:(a == ace)=false
noncomputable def oU (a:List (Str×D))(x:Str):Option D:=(a.find? λp=>decide (p.1=x)).map (·.2)
theorem nQ.keys {P:ZW}{w:World}{K:KW}:∀{es:List aaf} {cw:List (Str×D)},nQ w K es cw->∀e∈es,∃k,(eF P w).is k e.key=true/\e.hash=(eF P w).hash k
 | [],_,_,e,he=>nomatch he
 |e0::es,cw,h,e,he=>by
  obtain⟨x,d,rest,rfl,⟨t,a⟩,c,_,b⟩:=h;rcases Zx.mp he with rfl|he
  . exact⟨.inr x,by rw[a];exact n9 P w x t,c⟩
  . exact b.keys e he
theorem LU {P:ZW}{w:World}{x y:Str}{t:Tok}:(eF P w).is (.inr x) (.str y t)=decide (y=x):=by
 show adh x (.str y t)=_;by_cases h:y=x
 . subst h;simp[adh]
 . simp[adh,h,abi h]
theorem nQ.find {P:ZW}{w:World}{K:KW}{x:Str}:∀{es:List aaf} {cw:List (Str×D)},nQ w K es cw ->
  match oU cw x with
  |some d=>∃u v,(es.find? λe=>(eF P w).is (.inr x) e.key).map (·.val)=some u/\RelV v u/\vF K d v|none=>(es.find? λe=>(eF P w).is (.inr x) e.key).map (·.val)=none
 | [],cw,h=>by have f:cw = []:=h;subst f;rfl
 |e0::es,cw,h=>by
  obtain⟨y,d,rest,rfl,⟨t,b⟩,k,⟨v,i,j⟩,c⟩:=h;have ih:=c.find (P:=P) (x:=x);have a:(eF P w).is (.inr x) e0.key=decide (y=x):=by rw[b];exact LU
  unfold oU at ih ⊢;rw[agP,agP];by_cases hy:y=x
  . subst hy
    simp only[decide_true,a];exact⟨_,v,rfl,i,j⟩
  . simp only[hy,decide_false,a]
    exact ih
theorem iH.map {P:ZW}{w:World}{K:KW}{a:Addr}{r:List (Str×D)}(h:iH w K a r){s:Heap}(y:K.fr.In s):∃f,s.MapOf (eF P w) a f /\ ∀x:Str,match oU r x with
  |some d=>∃u v,f (.inr x)=some u/\RelV v u/\vF K d v|none=>f (.inr x)=none:=by
 obtain⟨o,c,l,q,j,i,b⟩:=h.ex;refine⟨_,⟨o,c,l,y a o q,j,i,λe he=>b.keys e (by simpa using he),λk=>rfl⟩,λx=>?_⟩;have:=b.find (P:=P) (x:=x);unfold findBy;rw[<- Array.find?_toList];exact this
noncomputable def Ud (K:KW)(a:Addr)(b:List (Str×D)):R2:=λx y H Q=>∃k d,x = .ref a/\y = .str k/\oU b k=some d /\ ∀v,vF K d v->Q v H
section
variable {X:Cx}{a:Addr}{cw:List (Str×D)}
theorem LV (hD:iH X.w X.kw a cw):mh X (Ud X.kw a cw):=by
 intro value slice a8 s σ H x y v u Q I rx z h j;obtain⟨k,d,rfl,rfl,hd,q⟩:=h;cases rx;obtain⟨f,hm,hf⟩:=hD.map (P:=X.prog) I.mf;have e:=hf k;rw[hd]at e;obtain⟨c,b,h1,i,l⟩:=e;obtain⟨t,rfl⟩:=z;exact ach (x:=c) hm.typeIs ada.lookup
  (wpAny_getItem_of (k:=(.inr k:Key)) (Q:=λr o=>r=c/\EP X a8 σ Q r o) (n9 X.prog X.w k t) hm h1 ⟨rfl,b,H,I.tok _,i,q b l⟩) j
noncomputable def zO (xs:List D)(d:D):Option Nat:=xs.findIdx? λy=>aH y d
noncomputable def zP (cw:List (Str×D))(b c:FE):FE:=λσ g=>(b σ g).bind λr=>match r.1 with
 |.str x=>match oU cw x with
  |some (.tup xs)=>(c σ r.2).bind λq=>if(gR q.1&&xs.all gR)=true then(zO xs q.1).map λj=>(.int j,q.2)else none|_=>none
 |_=>none
noncomputable def O_ (K:KW):V->List V->Hp->VK->Prop:=λx a H Q=>∃xs y j,vF K (.tup xs) x/\a = [toV y]/\gR y=true/\xs.all gR=true/\zO xs y=some j/\Q (.int j) H
theorem BP:Kt X "tuple.index" (O_ X.kw):=by
 intro a8 s σ H x vs v us Q I rx rv h;obtain⟨xs,y,j,b,rfl,k,c,e,q⟩:=h;rcases b with⟨b,_⟩|⟨BQ,a,o,au,n,e0,xo,rfl,h1,h2,h3,h4,h5,h6⟩
 . cases b
 cases e0;cases rx;obtain⟨u,rfl,ru⟩:=rv.one;have r:=I.mf a o h1;obtain⟨cls,dd,data,sl⟩:=o;simp only at h2 h3 h4;subst h2 h3 h4;have fy:ja (toV y)=true:=(nO k (rh (K:=X.kw) (H:=H) (ι:=⟨[],[],λ_=>0⟩) k)).2;have fx:(xs.map toV).all ja=true:=(vD c (vE (K:=X.kw) (H:=H) (ι:=⟨[],[],λ_=>0⟩) c)).2;unfold zO at e;rw[adg]at e;obtain⟨cX,hit,Bc⟩:=e;have hlen:(xs.map toV).length=au.toList.length:=h6.length;rw[Z2]at hlen;have i6:j<au.size:=by rw[<- acN];omega
 have item:∀m (hm:m<xs.length) (kE:m<au.size),Fv (toV y) au[m]=aH xs[m] y:=λm hm kE=>by obtain⟨u',l,r'⟩:=h6.get (i:=m) (x:=toV xs[m]) (by rw[ZE,Zn hm];rfl);rw[acr,aad kE]at l;cases l;have f:gR xs[m]=true:=aaX.mp c _ (Z6 hm);rw[Bf r' (nO f (rh (K:=X.kw) (H:=H) (ι:=⟨[],[],λ_=>0⟩) f)).2,O9 f k]
 refine acf F.slot_tuple_index ⟨_,r,rfl⟩ F.entry_tuple_index (F.args_tuple_index_2 _ _) (tX a au n none sl u (Fv (toV y)) j i6 (by rw[item j cX i6];exact hit) (λm hm WR=>by
   have pI:m<xs.length:=by omega
   rw[item m pI hm];simpa using Bc m WR)) ⟨r,λz hz=>uY ru fy h6 fx z (by simpa using hz),?_⟩
 exact⟨.int j,H,I.tok _,⟨_,rfl⟩,q⟩
theorem Im {C:Str}{p A B E:Pos}{e x:Expr}{K I:FE}(hD:iH X.w X.kw a cw)(P:X.mg C=some (.ref a))(T:DE X e K)(U:DE X x I)(O:Gl X C:=by rfl)(R:nH e:=by exact λ_ _=>rfl)(N:(C == ("__debug__":Str))=false:=by decide)
  (S:adl (.Subscript (.Name C p) e A) "index" X.env (eval (.Subscript (.Name C p) e A) X.env)=eval (.Subscript (.Name C p) e A) X.env:=by rfl)
  (L:((abp E (ZO [x] X.env)).all (λx=>!x.1)&&(backToKw E (agn [] X.env)).all (λx=>x.1.isSome)
   && decide ([x].length+([]:List adW).length+(if([]:List adW).isEmpty then 0 else 1)<30))=true:=by rfl)
  (M:(B.endLine == E.line)=true:=by rfl) (J:ZO [x] X.env=(false,eval x X.env)::ZO [] X.env:=by rfl):
  DE X (.Call (.Attribute (.Subscript (.Name C p) e A) "index" B) [x] [] E) (zP cw K I):=.of (
 PE.imp (ON PySem.F.plainAttrs_tuple PySem.F.slot_tuple_index PySem.F.type_tuple_index BP (Fu (LV hD) (qJ (v:=.ref a) O P rfl N) T.un R) (kB U.un mN J) S L M J (by rfl)) λσ H Q h=>by
  obtain⟨ι,σd,g,d,g',G0,S0,h,p⟩:=h;obtain⟨⟨s,g1⟩,h1,h⟩:=bind_some h;refine tD.bind G0 S0 h1 λH1 ι1 v q y i c=>?_;cases s with
  |str k =>
   simp only[Rel]at c;subst c;dsimp only at h;cases hk:oU cw k with
   |none=>rw[hk]at h;cases h
   |some d2 =>
    rw[hk]at h;cases d2 with
    |tup xs =>
     dsimp only at h;obtain⟨⟨f,g3⟩,r,h⟩:=bind_some h;refine⟨k,_,rfl,rfl,hk,λv b=>⟨?_,?_⟩⟩
     . rcases b with⟨b,_⟩|⟨BQ,a',o,au,n,e0,xo,rfl,q1,q2,q3,q4,q5,q6⟩
       . cases b
       . exact .inr (.inl ⟨rfl,o,q1,q2,q3⟩)
     . refine tD.bind y i r λH2 l u e2 G2 S2 r2=>?_
       dsimp only at h;split at h
       . rename_i z
         rw[Zr]at z;cases hj:zO xs f with
         |none=>rw[hj]at h;cases h
         |some j =>
          rw[hj]at h;cases h;refine⟨xs,f,j,b,by rw[(nO z.1 r2).1],z.1,z.2,hj,p H2 l _ (q.trans e2) G2 (by simp[Rel])⟩
       . cases h
    |_=>cases h
  |_=>cases h)
end
end L3
namespace L3
open PyProof.Rows L2
section
variable {X:Cx}
noncomputable def oV (i j:Nat)(fr:FA):FS:=λσ g=>(fr σ g).bind λr=>match r.1 with
 | [a,b]=>some (.nx,(σ.set i (some a)).set j (some b),r.2)|_=>none
theorem LW {i j:Nat}{x y:Str}{a b:Expr}{fr:FA}{px B pt A:Pos}{kt k2 pt2}(I:X.calm=true)(M:X.N.Nodup)(E:X.N[i]? = some x)(J:X.N[j]? = some y)(C:i≠j)
  (P:X.env.scope.names.lookup x=some .local) (O:X.env.scope.names.lookup y=some .local) (K:DA X [a,b] fr)
  (hw:acd [.Tuple [.Name x px,.Name y B] kt pt] (.Tuple [a,b] k2 pt2) X.env=pure (some [x,y]))
  (L:acG [.Tuple [.Name x px,.Name y B] kt pt] (.Tuple [a,b] k2 pt2) A.line X.env=pure false:=by rfl):
  DS X (.Assign [.Tuple [.Name x px,.Name y B] kt pt] (.Tuple [a,b] k2 pt2) A) (oV i j fr):=.of (
 PS.imp (J0 I M E J C P O K.un hw L) λDn σ H h=>by
  obtain⟨ι,σd,g,r,cj,g',G0,s,h,p⟩:=h;obtain⟨⟨ds,g1⟩,q,h⟩:=bind_some h;refine ib.bind G0 s q λH1 o vs f l e c=>?_;dsimp only at h;split at h
  . rename_i a b
    cases h;simp only[aj]at c;obtain⟨v,vr,rfl,z,u,ur,rfl,k,rfl⟩:=c;exact⟨v,u,rfl,p H1 o f l _ ((e.set z i).set k j)⟩
  . cases h)
end
theorem tY {prog:ZW}{w:World}{A:ZY}{E:Value->Zo->Prop}{s:Zo}{q a:Addr}{i:Nat}{items:Array Value}{x:Value}{Q:Value->Zo->Prop}(l:s.heap.IsTupleIter q a i)(r:s.heap.IsTuple a items)(y:items[i]? = some x)
  (u:∀h',h'.IsTupleIter q a (i+1)->abD q s.heap h'->Q x { s with heap:=h' }):wpAny (model prog w) A (aaZ (.ref q)) Q E s:=by
 obtain⟨o,c,f,b⟩:=id l;obtain⟨k,h,_,j,e⟩:=r;unfold aaZ;refine Zm (aaw (name:=abl "__next__") l.typeIs F.slot_tuple_iterator_next (aai F.slot_tuple_iterator_next l.typeIs F.entry_tuple_iterator_next ?_ (F.args_tuple_iterator_next_1 _)));change wpAny _ _ (field (.ref q) 0 >>= λ_=>_) _ _ _;refine Zm (abd c b (x:=.ref a) rfl ?_);change wpAny _ _ (if(abt a == aa_)=true then _ else _) _ _ _;rw[if_neg (by exact aaT)];change wpAny _ _ (field (.ref q) 1 >>= λ_=>_) _ _ _;refine Zm (abd c b (x:=.int i 0) rfl ?_);change wpAny _ _ (seqItems? (.ref a) >>= λ_=>_) _ _ _;refine Zm (ab4 h e ?_);simp only[aaP,y];refine Zm (ac4 c b (by simp) ?_);refine Zp ⟨x,rfl,Zp (u _ ⟨_,aaC _ c (Obj.isFreed_of_fields (afZ b _)),(Obj.cls_mapFields ..).trans f,?_⟩ (aa0 ..))⟩;rw[afZ b];simp[ab5]
theorem vH {prog:ZW}{w:World}{A:ZY}{E:Value->Zo->Prop}{s:Zo}{r a:Addr}{i:Nat}{items:Array Value}{Q:Value->Zo->Prop}(hh:A.handled=none)(q:s.heap.IsTupleIter r a i)(u:s.heap.IsTuple a items)(z:items[i]? = none)
  (y:∀h' e,ae6 r s.heap h'->(∃o,h'.get? e=some o/\o.cls = .type "StopIteration")->E (.ref e) { s with heap:=h' }):wpAny (model prog w) A (aaZ (.ref r)) Q E s:=by
 obtain⟨o,c,k,b⟩:=id q;obtain⟨l,h,_,j,f⟩:=u;unfold aaZ;refine Zm (aaw (name:=abl "__next__") q.typeIs F.slot_tuple_iterator_next (aai F.slot_tuple_iterator_next q.typeIs F.entry_tuple_iterator_next ?_ (F.args_tuple_iterator_next_1 _)));change wpAny _ _ (field (.ref r) 0 >>= λ_=>_) _ _ _;refine Zm (abd c b (x:=.ref a) rfl ?_);change wpAny _ _ (if(abt a == aa_)=true then _ else _) _ _ _;rw[if_neg (by exact aaT)];change wpAny _ _ (field (.ref r) 1 >>= λ_=>_) _ _ _;refine Zm (abd c b (x:=.int i 0) rfl ?_);change wpAny _ _ (seqItems? (.ref a) >>= λ_=>_) _ _ _;refine Zm (ab4 h f ?_);simp only[aaP,z];refine Zm (abf (Zm (ac4 c b (by simp) ?_)));change wpAny _ _ (newExc (.type "StopIteration") [] >>= λ_=>_) _ _ _;refine Zm ?_;simp only[newExc,newTuple];refine Zm (aae ?_ (by size_fits));refine Zm (m:=adY _ _) (ago (a:=aa_) (by first|rfl| (simp only[adY];rfl)) ?_);refine aae ?_ (by size_fits);simp only[raiseNew];refine Zm (wpAny_handled ?_);rw[show A.in1.handled=none from hh];exact Zm (Zp (wpAny_throw (y _ _ (((aa0 ..).extBut.push _).push _) ⟨_,ZC _ rfl,rfl⟩)))
theorem rj {X:Cx}{a8:List (Addr×Obj)}{σ:L2.St}{H:Hp}{s:Zo}{h':Heap}{t':Nat}{ch:List Addr}(I:L2.Inv X a8 σ H s)(k:∀b o,b ∉ ch->s.heap.get? b=some o->h'.get? b=some o)(A:∀b∈ch,fD X a8 H b):
   L2.Inv X a8 σ H { s with heap:=h',toks:=t' }:=by
 have f:∀b u,H b=some u->b ∉ ch:=λb u e z=>by rw[(A b z).1]at e;cases e
 refine I.step (g':=s.gens) (d':=s.drawn) (ch:=ch) (λb y=>?_) (λb o _ _ a e _=>k b o a e) (λb o _ _ a e _=>⟨o.slots,k b o a e⟩) (λ_ _ _ _ n=>n)
   (λb o a e=>⟨o,k b o a e⟩) (λ_ _ e=>e) (λ_ _ _ e=>e) (λ_ _ _ e=>e) (λm hm=>?_) (λb u e=>?_) I.bare
 . obtain⟨f0,f1,f2,h,f4,x⟩:=A b y
   exact⟨h,f1,f4,x⟩
 . obtain⟨o,i,l,j,r⟩:=hm
   exact⟨o,i,l,k _ o (λz=>(A _ z).2.1 rfl) j,r⟩
 . refine(I.aS b u e).c9 (λc v a q=>k c v ?_ q) (λ_ q=>q) (λ_ _ q=>q) λ_ _ q=>q
   rcases a with z|z
   . rw[z];exact f b u e
   . exact f c _ z
theorem zQ {prog:ZW}{w:World}{A:ZY}(hh:A.handled=none)(l a:Addr)(items:Array Value)(n:Nat)(q:items.size<=n):
  Draws prog w A l [l,a] n (λ_ _=>True) (λj h=>j=n/\h.IsListIter l a n/\h.IsList a items) where
 live:=λ_ _ st=>let⟨o,ho,_⟩:=st.2.1;⟨o,ho⟩
 frame:=λ_ _ _ st b=>⟨st.1,st.2.1.at λo e=>b l (by simp) o e,st.2.2.at λo e=>b a (by simp) o e⟩
 item:=λi s Q E c st k=>absurd st.1 (Z1 c)
 done:=λs Q E st f=>afm hh st.2.1 st.2.2 (by simp;exact q) f
noncomputable def LZ (K:ZF)(a:Addr):It :=
 ⟨λi H=>∃xs x,dw K H a xs/\xs[i]? = some x,λi H x b=>∃T v,x = .ref T/\H T=none/\b=upd H T (.tup [.int i,v]) /\ ∀xs,dw K H a xs->xs[i]? = some v,λi H=>∃xs,dw K H a xs/\xs.length<=i⟩
theorem zR {P:ZW}{w:World}{K:ZF}{B:List Expr}{kt:Nat}{J:Pos}(a e it:Addr)(C:e≠it):Turn P w K (.Tuple B kt J) (LZ K a) [e,it] e (λi h=>(∃old,IsEnum h e it i old)/\h.IsListIter it a i) where
 mem:=by simp
 obj:=λi h st b c=>by
  obtain⟨⟨old,l⟩,o,j,h3,h4⟩:=st;rcases Zx.mp c with rfl|c
  . exact⟨_,l,λv z=>by cases z⟩
  . have ia:b=it:=by simpa using c
    subst ia;exact⟨o,j,λv z=>by rw[h4]at z;cases z⟩
 keep:=λi h r st k=>by obtain⟨⟨old,l⟩,j⟩:=st;exact⟨⟨old,k e (by simp) _ l⟩,j.at λo q=>k it (by simp) o q⟩
 item:=by
  intro X hP hw hK hc i a8 s σ H E I hf st hg;subst hP hw hK;obtain⟨⟨old,l⟩,j⟩:=st;obtain⟨xs,x,hq,hx⟩:=hg;obtain⟨au,rv,p,hz⟩:=I.list hq;obtain⟨u,hu,ru⟩:=rv.get hx;have ai:a≠it:=λz=>by obtain⟨o,y,q2,_⟩:=p.isList;obtain⟨o',q3,q4,_⟩:=j;rw[z,q3]at y;cases y;rw[q4]at q2;exact absurd q2 (by decide)
  have ae:e≠a:=λz=>by obtain⟨o,y,q2,_⟩:=p.isList;rw[<- z,l]at y;cases y;exact absurd (show aav "enumerate" = aav "list" from q2) (by decide)
  have hi:i<au.toArray.size:=by have:=(Zq.mp hu).1;simpa using this
  refine wpAny_pyNext_enum_itemD (Draws.list (A:=X.A.in1) (I.ok.hd hc) it a ai au.toArray) l ⟨j,p.isList⟩ hi C (by simp[C,ae]) λx' r tk hP Ue cQ hT i6 hk=>?_;have ex:x'=u:=by
    have q:au.toArray[i]? = some x':=hP;have q':au[i]? = some x':=by simpa using q
    rw[hu]at q';exact(aam q').symm
  subst ex;refine⟨_,rfl,wpAny_letOwnedTupleGo_enum Ue λvo F4 L4=>?_⟩;have I1:L2.Inv X a8 σ (upd H s.heap.objs.size (.tup [.int i,x])) { s with heap:=s.heap.push { cls:=.type "tuple",data:=.seq #[.int i tk,x'] } }:=
    I.laid (t':=s.toks) (o:=.tup [.int i,x]) (λb o q=>Zs _ q) (Zu _) (show dW X.prog X.w _ _ _ (.tup [.int i,x]) from⟨by show 2<=ZM;decide,[.int i tk,x'],.cons ⟨tk,rfl⟩ (.cons ru .nil),eR.new _ _⟩)
  have eT:e≠s.heap.objs.size:=Z1 (ZG l);have iT:it≠s.heap.objs.size:=by obtain⟨o',q3,_⟩:=j;exact Z1 (ZG q3)
  have I2:L2.Inv X a8 σ (upd H s.heap.objs.size (.tup [.int i,x])) { s with heap:=vo,toks:=tk+1 }:=rj (s:={ s with heap:=s.heap.push { cls:=.type "tuple",data:=.seq #[.int i tk,x'] } }) (ch:=[e,it]) I1 (λb o c q=>by
    simp only[Zx,List.mem_nil_iff,or_false,not_or]at c;have h3:r.get? b=some o:=by
      by_cases Rm:b=s.heap.objs.size
      . subst Rm
        have:(s.heap.push { cls:=.type "tuple",data:=.seq #[.int i tk,x'] }).get? s.heap.objs.size=some o:=q;rw[ZC _ rfl]at this;rw[<- this];exact hT
      . exact hk b o c.1 c.2 ((agg s.heap b _ Rm).symm.trans q)
    exact(L4.2 b c.1).trans h3) (λb c=>by
      obtain⟨f0,f1,f2,f3,f4,f5⟩:=hf b c;refine⟨?_,f1,f2,f3,f4,f5⟩;rcases Zx.mp c with rfl|c
      . rw[aC eT];exact f0
      . have ia:b=it:=by simpa using c
        subst ia;rw[aC iT];exact f0)
  refine⟨.ref s.heap.objs.size,_,I2,rfl,⟨_,x,rfl,I.fresh,rfl,λys hy=>by rw[I.lj hy hq];exact hx⟩,⟨⟨_,by simpa using F4⟩,?_⟩,λb c=>?_⟩
  . exact cQ.1.at λo q=>(L4.2 it (abi C)).trans q
  . rcases Zx.mp c with rfl|c
    . rw[aC eT];exact(hf _ (by simp)).1
    . have ia:b=it:=by simpa using c
      subst ia;rw[aC iT];exact(hf _ (by simp)).1
 done:=by
  intro X hP hw hK hc i a8 s σ H E I hf st hg;subst hP hw hK;obtain⟨⟨old,l⟩,j⟩:=st;obtain⟨xs,hq,hx⟩:=hg;obtain⟨au,rv,p,hz⟩:=I.list hq;have ai:a≠it:=λz=>by obtain⟨o,y,q2,_⟩:=p.isList;obtain⟨o',q3,q4,_⟩:=j;rw[z,q3]at y;cases y;rw[q4]at q2;exact absurd q2 (by decide)
  have f:=hf it (by simp);have fin:∀r,ae6 it s.heap r->L2.Inv X a8 σ H { s with heap:=r }:=λr eb=>I.turned (t':=s.toks) (λb o c q=>eb b o c q) f.1 f.2.1 f.2.2.2.1 f.2.2.2.2.1 f.2.2.2.2.2;have hl:=rv.length;exact wpAny_pyNext_enum_endD (zQ (A:=X.A.in1) (I.ok.hd hc) it a au.toArray i (by simp;omega)) l ⟨rfl,j,p.isList⟩ λr eb=>⟨rfl,fin r eb⟩
 self:=λ_ _ _ _ _ st h=>wpAny_pyIter_enum st.1.choose_spec h
noncomputable def nR (xs:List D):List D:=xs.zipIdx.map λp=>.tup [.int (p.2:Nat),p.1]
noncomputable def BR (f:FE):FI:=λσ g=>(f σ g).bind λr=>match r.1 with|.lst xs=>some (nR xs,r.2)|_=>none
theorem jD.Pa {K H ι a vs ds}(r:mq K H ι a vs)(s:aj K H ι ds vs):jD K (LZ K a) H ι (nR ds):=λi H1 o g1 b f =>
 ⟨λh=>⟨vs,(r.d7 b).sq,by rw[<- s.length];simpa[nR]using h⟩,λd hd=>by
  unfold nR at hd;rw[ZE,afx]at hd;cases hx:ds[i]? with
  |none=>rw[hx]at hd;cases hd
  |some d0 =>
   rw[hx]at hd;simp only[abg,aep,aa3]at hd;subst hd;obtain⟨v,e,j⟩:=(aj.d7 b _ s).get hx;refine⟨⟨vs,v,(r.d7 b).sq,e⟩,λx q y=>?_⟩;obtain⟨T,l,rfl,c,rfl,k⟩:=y;have:=k vs (r.d7 b).sq;rw[e]at this;cases this;refine⟨Ext.lay c,f.lay c,?_⟩;simp only[Rel];refine⟨T,_,rfl,.inl ⟨.inl aP,f.fresh c⟩,?_⟩;simp only[aj,Rel];exact⟨_,_,rfl,rfl,_,_,rfl,Rel.ext (Ext.lay c) _ j,rfl⟩⟩
theorem Eo {X:Cx}{l:Expr}{C:FE}{p A J:Pos}{B:List Expr}{kt:Nat}(K:Gl X "enumerate")(L:X.mg "enumerate" = none)(M:DE X l C)
  (E:ZO [l] X.env = [(false,eval l X.env)]:=by rfl):DI X (.Tuple B kt J) (.Call (.Name "enumerate" p) [l] [] A) (BR C):=.of (by
 intro a8 s σ H R I h;obtain⟨ι,z,g,ds,g',G0,S0,h,q⟩:=h;obtain⟨⟨d1,g1⟩,h1,h⟩:=bind_some h;cases d1 with
 |lst xs =>
  cases h;refine Call_ (iL I K L PyProof.Rows.boot_enumerate (aa6 (aW ((kB M.un mN E) A a8 s σ H (λj H1=>∃v c,j = [v]/\Ext H ι H1 c/\aw X.kw H1 c g1/\Rel X.kw H1 c (.lst xs) v) I ?_) λus s1 ⟨j,H1,e,i,v,c,e0,f,k,y⟩=>?_) E rfl))
  . exact⟨ι,z,g,_,g1,G0,S0,h1,λH1 c v f k i=>⟨v,c,rfl,f,k,i⟩⟩
  . subst e0
    obtain⟨u,rfl,ru⟩:=vals1 i;simp only[Rel]at y;obtain⟨a,j,rfl,x,hr⟩:=y;cases ru;obtain⟨au,rv,pt,hz⟩:=e.list x.sq;refine call_enumerate_list pt.isList λh' r iR _ hk=>?_;refine wpAny_pyIter_enum r ?_;have fu:s1.heap.objs.size+1≠s1.heap.objs.size:=agy _;refine⟨s1.heap.objs.size+1,[s1.heap.objs.size+1,s1.heap.objs.size],_,_,H1,rfl,e.kept (t':=s1.toks) hk,zR a _ _ fu,⟨⟨_,r⟩,iR⟩,λb o=>?_,q H1 c _ f k (.Pa x hr)⟩;rcases Zx.mp o with rfl|o
    . exact e.mL (ae_ _) (e.aS.fresh (ae_ _))
    . have ia:b=s1.heap.objs.size:=by simpa using o
      subst ia;exact e.mL (Zu _) (e.aS.fresh (Zu _))
 |_=>cases h)
noncomputable def ui (f:FE):FI:=λσ g=>(f σ g).bind λr=>match r.1 with|.lst xs=>some (nR xs,r.2)|_=>none
theorem Io {X:Cx}{l:Expr}{o:FE}{p k r:Pos}{j:List Expr}{kt:Nat}(u:Gl X "enumerate")(x:X.mg "enumerate" = none)(y:DE X l o)
  (z:ZO [l] X.env = [(false,eval l X.env)]:=by rfl):DI X (.Tuple j kt r) (.Call (.Name "enumerate" p) [l] [] k) (ui o):=.of (by
 intro a8 s σ H R I h;obtain⟨ι,b,g,ds,e,G0,i,h,q⟩:=h;obtain⟨⟨c,g1⟩,f,a⟩:=bind_some h;cases c with
 |lst xs=>exact(Eo u x y z).un a8 s σ H R I ⟨ι,b,g,ds,e,G0,i,by unfold BR;rw[f];exact a,q⟩|_=>cases a)
@[simp] theorem vI {a:FE}{σ:Sg}{g:G}:ui a σ g=(a σ g).bind λr=>match r.1 with|.lst xs=>some (nR xs,r.2)|_=>none:=rfl
noncomputable def oW (i:Nat)(o:Int->Int->Int)(c:FE):FS:=λσ g=>match σ[i]? with
 |some (some (.int a))=>(c σ g).bind λr=>match r.1 with
  |.int b=>some (.nx,σ.set i (some (.int (o a b))),r.2)|_=>none
 |_=>none
section
variable {X:Cx}
theorem BS {i:Nat}{x:Str}{e:Expr}{C:FE}{op:acS}{o:Int->Int->Int}{A B:Pos}(E:X.N.Nodup)(L:X.N[i]? = some x)(M:Loc X.env.scope x)(I:Fm X op (J3 o))(K:DE X e C)
  (J:X.fn x=true\/X.env.scope.names.lookup x=some .local:=by first|exact .inl rfl|exact .inr rfl|assumption):DS X (.AugAssign (.Name x A) op e B) (oW i o C):=.of (
 PS.imp (J2 E L M K.un I J) λDn σ H h=>by
  obtain⟨ι,σd,g,r,cj,g',G0,j,h,p⟩:=h;unfold oW at h;split at h
  . rename_i a ha
    obtain⟨⟨s,g1⟩,h1,h⟩:=bind_some h;obtain⟨v,l,f⟩:=j.2 i _ ha;simp only[Rel]at f;subst f;refine⟨.int a,l,?_⟩;refine tD.bind G0 j h1 λH1 z u q y k c=>?_;cases s with
    |int b =>
     cases h;simp only[Rel]at c;subst c;exact⟨a,b,rfl,rfl,p H1 z q y _ (k.set (d:=.int (o a b)) (by simp[Rel]) i)⟩
    |_=>cases h
  . cases h)
end
section
variable {σ:Sg}{g:G}{fa fb fo fx:FE}{fr:FA}
@[simp] theorem VH {i:Nat}{o:Int->Int->Int}:oW i o fa σ g=(match σ[i]? with
 |some (some (.int a))=>(fa σ g).bind λr=>match r.1 with
  |.int b=>some (.nx,σ.set i (some (.int (o a b))),r.2)|_=>none
 |_=>none):=rfl
@[simp] theorem VI {i j:Nat}:oV i j fr σ g=(fr σ g).bind λr=>match r.1 with
 | [a,b]=>some (.nx,(σ.set i (some a)).set j (some b),r.2)|_=>none:=rfl
end
section
variable {X:Cx}{a:Addr}{cw:List (Str×D)}
noncomputable def gD (cw:List (Str×D)):D->Option Bool
 |.str x=>some (oU cw x).isSome|.ay=>some false|_=>none
end
section
variable {σ:Sg}{g:G}{fa fb:FE}
@[simp] theorem VJ:lJ fa fb σ g=(fa σ g).bind λr=>(iY r.1 r.2).bind λc=>if c=true then some r else fb σ r.2:=rfl
@[simp] theorem Pb:iY .ay g=some false:=rfl
@[simp] theorem Pc {xs:List D}:iY (.tup xs) g=some (!xs.isEmpty):=rfl
@[simp] theorem Pe {xs:List D}:iY (.lst xs) g=some (!xs.isEmpty):=rfl
end
def c9 (cs:List Addr)(h h':Heap):Prop:=∀c o,c ∉ cs->h.get? c=some o->h'.get? c=some o
theorem c9.tr {cs h f h2}(a:c9 cs h f)(b:c9 cs f h2):c9 cs h h2:=λc o n e=>b c o n (a c o n e)
theorem c9.of {cs h h1 c}(a:abD c h h1)(m:c∈cs):c9 cs h h1:=λb o n e=>(a.2 b λz=>n (z ▸ m)).trans e
theorem Pf {X:Cx}{a8:List (Addr×Obj)}{σ:L2.St}{H:Hp}{s:Zo}{a c:Addr}{xs:List V}(I:L2.Inv X a8 σ H s)(f:fD X a8 H c)(i:eK X.kw H a xs):a≠c:=λz=>by
 subst z;obtain⟨f0,f1,f2,e,f4,h⟩:=f;rcases i with i|⟨o,au,n,hk,_⟩
 . rcases i with i|⟨o,i⟩<;>rw[f0]at i<;>cases i
 . have b:X.base.get? a=some o:=I.ok.mod.kz a o hk
   rcases e with q|q
   . exact I.ok.oJ a o b q
   . exact aaS _ (ZZ (ZG (I.ok.bs a o b).1) q)
noncomputable def bu (n:Nat)(b c:Option Int)(a:Int):Int×Nat:=((aaI b c a (n:Int)).1,aaY (aaI b c a (n:Int)).1 (aaI b c a (n:Int)).2 a)
noncomputable def fX {α:Type}(xs:List α)(l:Int)(n:Nat)(a:Int):List α:=(ZN n).filterMap λ(k:Nat)=>xs[(l+(k:Int)*a).toNat]?
noncomputable def rn (d:D)(a b c:Option Int)(g:G):Option (D×G):=match d,c with
 |.tup xs,some k=>if(!(k == 0) && !(k == 1)&&aA (bu xs.length a b k).2)=true then some (.tup (fX xs (bu xs.length a b k).1 (bu xs.length a b k).2 k),g)else none|_,_=>none
theorem BU {d d':D}{a b c:Option Int}{g g':G}(h:rn d a b c g=some (d',g')):∃xs k,d = .tup xs/\c=some k/\k≠0/\k≠1/\aA (bu xs.length a b k).2=true/\d' = .tup (fX xs (bu xs.length a b k).1 (bu xs.length a b k).2 k)/\g'=g:=by
 unfold rn at h;split at h
 . rename_i xs k
   split at h
   . rename_i z
     rw[Zr,Zr]at z;cases h;exact⟨xs,k,rfl,rfl,by simpa using z.1.1,by simpa using z.1.2,z.2,rfl,rfl⟩
   . cases h
 . cases h
noncomputable def vJ (a:FE)(fl b fs:FO):FE:=λσ g=>(a σ g).bind λr=>(fl σ r.2).bind λl=>(b σ l.2).bind λh=>(fs σ h.2).bind λk=>rn r.1 l.1 h.1 k.1 k.2
theorem sP {b:Type}(xs:List b)(l:Int)(n:Nat)(a:Int):(fX xs l n a).length<=n:=by unfold fX;exact Z4 (List.length_filterMap_le _ _) (by simp)
theorem aj.pick {K H ι}{xs:List D}{vs:List V}(r:aj K H ι xs vs)(l:Int)(c:Int):∀n k,aj K H ι ((abT k n).filterMap λ(k:Nat)=>xs[(l+(k:Int)*c).toNat]?) ((abT k n).filterMap λ(k:Nat)=>vs[(l+(k:Int)*c).toNat]?)
 | 0,k=>by simp[aj]
 |n+1,k=>by
  rw[aeO,aax,aax];have ih:=aj.pick r l c n (k+1);cases hx:xs[(l+(k:Int)*c).toNat]? with
  |none =>
   have a:vs[(l+(k:Int)*c).toNat]? = none:=by rw[ab2]at hx ⊢;rw[<- r.length];exact hx
   rw[a];exact ih
  |some d =>
   obtain⟨v,a,b⟩:=r.get hx;rw[a];simp only[aj];exact⟨v,_,rfl,b,ih⟩
theorem sQ {vs:List V}{e:List Value}(r:Vals vs e)(l:Int)(c:Int):∀n k,Vals ((abT k n).filterMap λ(k:Nat)=>vs[(l+(k:Int)*c).toNat]?) ((abT k n).filterMap λ(k:Nat)=>e[(l+(k:Int)*c).toNat]?)
 | 0,k=>.nil
 |n+1,k=>by
  rw[aeO,aax,aax];have ih:=sQ r l c n (k+1);cases hx:vs[(l+(k:Int)*c).toNat]? with
  |none =>
   have a:e[(l+(k:Int)*c).toNat]? = none:=by rw[ab2]at hx ⊢;rw[<- r.length];exact hx
   rw[a];exact ih
  |some d =>
   obtain⟨v,a,b⟩:=r.get hx;rw[a];exact .cons b ih
section
variable {prog:ZW}{w:World}{A:ZY}{E:Value->Zo->Prop}{s:Zo}
theorem Ep {l:Addr}{i j vs:Value}{f e:Option Int}{k:Int}{n:Nat}{Q:Int×Int×Nat->Zo->Prop}(u:s.heap.IsSliceOf l i j vs)(o:ab6 i f)(q:ab6 j e)(ps:ab6 vs (some k))(r:k≠0)
  (h:Q ((bu n f e k).1,k,(bu n f e k).2) s):wpAny (model prog w) A (abY (.ref l) (pure (n:Int))) Q E s:=by
 obtain⟨os,a,c,b⟩:=id u;unfold abY aev;refine Zm (Zm (abd a b (x:=i) rfl (Zm (abd a b (x:=j) rfl (Zm (abd a b (x:=vs) rfl (Zp ?_)))))));refine Zm (HT.gW ps ?_);change wpAny _ _ (if(k == 0)=true then _ else _) _ _ s;rw[if_neg (by simpa using r)];exact Zm (HT.gW o (Zm (HT.gW q (Zm (Zp (Zp h))))))
theorem Pg {t l:Addr}{items:Array Value}{o r vs:Value}{f i:Option Int}{k:Int}{Q:Value->Zo->Prop}(j:IsTup s.heap t items)(u:s.heap.IsSliceOf l o r vs)(x:ab6 o f)(y:ab6 r i)(ps:ab6 vs (some k))(z:k≠0)(B:k≠1)
  (h:Q (.ref s.heap.objs.size) { s with heap:=s.heap.push { cls:=.type "tuple",data:=.seq (fX items.toList (bu items.size f i k).1 (bu items.size f i k).2 k).toArray } })
  (hz:(bu items.size f i k).2<=ZM):wpAny (model prog w) A (ac2 (.ref t) (.ref l)) Q E s:=by
 have ok:sizeOk (.seq (fX items.toList (bu items.size f i k).1 (bu items.size f i k).2 k).toArray):=by show(fX items.toList (bu items.size f i k).1 (bu items.size f i k).2 k).toArray.size<=ZM;rw[Zw];exact Z4 (sP ..) hz
 obtain⟨os,b,a,c⟩:=id u;have ty:s.TypeIs (.ref l) "slice":=⟨os,b,a⟩
 unfold ac2;try with_reducible refine aaa ?_
 first|refine Zm (Zp ?_)|skip
 refine Zm (acj j.typeIs (by decide) (Zm (aaw (name:=abl "__getitem__") j.typeIs Z7 (aai Z7 j.typeIs adR ?_ (ad9 _ _)))));change wpAny _ _ (abZ (.ref t) >>= λ_=>_) _ _ s;refine Zm (afC j (Zm (ab7 ty ?_)));rw[if_pos (by decide)];refine Zm (Ep u x y ps z ?_);have no:¬(((bu items.size f i k).1 == 0&&k == 1&&(bu items.size f i k).2 == items.size)=true):=by intro q;rw[Zr,Zr]at q;exact B (eq_of_beq q.1.2)
 change wpAny _ _ (if((bu items.size f i k).1 == 0&&k == 1&&(bu items.size f i k).2 == items.size)=true then _ else _) _ _ s;rw[if_neg no];have e:((ZN (bu items.size f i k).2).filterMap λ(m:Nat)=>items[((bu items.size f i k).1+(m:Int)*k).toNat]?).toArray=(fX items.toList (bu items.size f i k).1 (bu items.size f i k).2 k).toArray:=by unfold fX;simp only[acr]
 rw[e];first
  |exact Zm (m:=aaN _) (aae (Zp ⟨_,rfl,Zp h⟩) ok)
  |exact Zm (m:=aaN _) (aae (Zm (Zp (Zp ⟨_,rfl,Zp h⟩))) ok)
  |exact Zm (Zm (m:=aaN _) (aae (Zp (Zp ⟨_,rfl,Zp h⟩)) ok))
  |exact Zm (Zm (m:=aaN _) (aae (Zp ⟨_,rfl,Zp h⟩) ok))
end
theorem BV {X:Cx}{e:Expr}{E J:Option Expr}{C:Expr}{L:FE}{fl K fs:FO}{M B:Pos}(O:DE X e L)(P:DO X E fl)(hu:DO X J K)(N:DO X (some C) fs):DE X (.Subscript e (.Slice E J (some C) M) B) (vJ L fl K fs):=.of (by
 intro a8 s σ H Q I h;obtain⟨ι,σd,g,d,g',G0,S0,h,p⟩:=h;obtain⟨⟨d1,g1⟩,h1,h⟩:=bind_some h;obtain⟨⟨l,g2⟩,h2,h⟩:=bind_some h;obtain⟨⟨u,g3⟩,h3,h⟩:=bind_some h;obtain⟨⟨k,g4⟩,h4,h⟩:=bind_some h;refine Subscript_ (aW (O.un a8 s σ H (λx H1=>∃f,Ext H ι H1 f/\aw X.kw H1 f g1/\bH X.kw H1 f σd σ/\Rel X.kw H1 f d1 x) I ⟨ι,σd,g,d1,g1,G0,S0,h1,λH1 f v e1 G1 r1=>⟨f,e1,G1,S0.ext e1,r1⟩⟩) λv s1 ⟨x,H1,I1,r1,f,e1,G1,S1,rd⟩=>?_);refine wpAny_Slice (aW (P.un a8 s1 σ H1 (λo r=>o=l /\ ∃i,Ext H1 f r i/\aw X.kw r i g2) I1 ⟨f,σd,g1,l,g2,G1,S1,h2,λr i y G2=>⟨rfl,i,y,G2⟩⟩) λvl s2 ⟨o,r,I2,pl,eo,i,y,G2⟩=>?_);subst eo;refine aW (hu.un a8 s2 σ r (λo H3=>o=u /\ ∃j,Ext r i H3 j/\aw X.kw H3 j g3) I2 ⟨i,σd,g2,u,g3,G2,S1.ext y,h3,λH3 j e3 G3=>⟨rfl,j,e3,G3⟩⟩) λvu s3 ⟨o',H3,I3,pu,eo,j,e3,G3⟩=>?_;subst eo;refine aW (N.un a8 s3 σ H3 (λo H4=>o=k /\ ∃z,Ext H3 j H4 z/\aw X.kw H4 z g4) I3 ⟨j,σd,g3,k,g4,G3,S1.ext (y.trans e3),h4,λH4 z e4 G4=>⟨rfl,z,e4,G4⟩⟩) λvs s4 ⟨YR,H4,I4,ps,eo,z,e4,G4⟩=>?_;subst eo;have F5:=Rel.ext (y.trans (e3.trans e4)) _ rd;obtain⟨xs,kk,rfl,ek,z0,z1,z2,rfl,rfl⟩:=BU h;cases ek;simp only[Rel]at F5;obtain⟨a,ws,rfl,hq,hr⟩:=F5;cases r1;have I5:L2.Inv X a8 σ H4 { s4 with heap:=s4.heap.push { cls:=.type "slice",data:=.fields #[vl,vu,vs] } }:=I4.kept (t':=s4.toks) λb ob q=>Zs _ q;obtain⟨au,rv,pt,hz⟩:=I5.tuple hq.sq;have hlen:au.toArray.size=xs.length:=by rw[Zw,<- rv.length,<- hr.length]
 change wpAny (model X.prog X.w) X.A (afD e (.Slice E J (some C) M) (.ref a) (.ref s4.heap.objs.size)) (EP X a8 σ Q) X.xe { s4 with heap:=s4.heap.push { cls:=.type "slice",data:=.fields #[vl,vu,vs] } };refine tail_any (ops:=[.ref a,.ref s4.heap.objs.size]) pt.typeIs Z7.lookup ?_ (by with_unfolding_all rfl);refine Pg pt (afT ..) pl pu ps z0 z1 ?_ (by rw[hlen];exact aA.le z2);rw[hlen];have hp:∀{α:Type} (ys:List α) (l:Int) (n:Nat) (c:Int),fX ys l n c=(abT 0 n).filterMap λ(k:Nat)=>ys[(l+(k:Int)*c).toNat]?:=λys l n c=>by unfold fX;rw[List.range_eq_range']
 have jE:=I5.fresh;refine⟨.ref _,_,I5.laid (t':=s4.toks) (o:=.tup (fX ws (bu xs.length o o' kk).1 (bu xs.length o o' kk).2 kk)) (λb ob q=>Zs _ q) (Zu _) ⟨Z4 (sP ..) (aA.le z2),_,by rw[hp,hp];exact sQ rv _ _ _ _,eR.new _ _⟩,rfl,?_⟩;refine p _ z _ ((e1.trans (y.trans (e3.trans e4))).trans (Ext.lay jE)) (G4.lay jE) ?_;simp only[Rel];refine⟨_,_,rfl,.inl ⟨.inl aP,G4.fresh jE⟩,?_⟩;rw[hp,hp];exact aj.ext (Ext.lay jE) _ (aj.pick hr _ _ _ _))
@[simp] theorem Ip {b:FE}{fl a fs:FO}{σ:Sg}{g:G}:vJ b fl a fs σ g=(b σ g).bind λr=>(fl σ r.2).bind λl=>(a σ l.2).bind λh=>(fs σ h.2).bind λk=>rn r.1 l.1 h.1 k.1 k.2:=rfl
section
variable {X:Cx}
section
open SeqAt
variable {a8:List (Addr×Obj)}{σ:L2.St}{H:Hp}{s:Zo}{ι:Ix}
theorem L5 (I:Inv X a8 σ H s):∀(d1 d2:D) {A:ZY} {x y:V} {u v:Value},flat d1=true->flat d2=true->Rel X.kw H ι d1 x->Rel X.kw H ι d2 y->RelV x u->RelV y v->A.units+dep d1<cLine->RcNeAt A s u v (!aH d1 d2)
 |.ay,d2,A,x,y,u,v,_,f2,r1,r2,ru,rv,hu=>by
  simp only[Rel]at r1;subst r1;cases ru;cases d2 with
  |ay=>simp only[Rel]at r2;subst r2;cases rv;simp only[aH,ZR,ZS];exact .none_none|bl b=>simp only[Rel]at r2;subst r2;cases rv;simp only[aH,ZR,ZS];exact .none_bool b|int b=>simp only[Rel]at r2;subst r2;obtain⟨t,rfl⟩:=rv;simp only[aH,ZR,ZS];exact .none_int b t
  |str b=>simp only[Rel]at r2;subst r2;obtain⟨t,rfl⟩:=rv;simp only[aH,ZR,ZS];exact .none_str b t
  |tup ys=>simp only[Rel]at r2;obtain⟨k,ws,rfl,f,i⟩:=r2;cases rv;obtain⟨h,_,c,_⟩:=I.tuple f.sq;simp only[aH,ZR,ZS];exact .none_tuple c (by omega)
  |lst ys=>simp only[Rel]at r2;obtain⟨k,ws,rfl,f,i⟩:=r2;cases rv;obtain⟨h,_,c,_⟩:=I.list f.sq;simp only[aH,ZR,ZS];exact .none_list c.isList (by omega)
  |_=>cases f2
 |.bl a,d2,A,x,y,u,v,_,f2,r1,r2,ru,rv,hu=>by
  simp only[Rel]at r1;subst r1;cases ru;cases d2 with
  |ay=>simp only[Rel]at r2;subst r2;cases rv;simp only[aH,ZR,ZS];exact .bool_none a|bl b=>simp only[Rel]at r2;subst r2;cases rv;simp only[aH,ZR,ZS];exact .bool_bool a b|int b=>simp only[Rel]at r2;subst r2;obtain⟨t,rfl⟩:=rv;simp only[aH,ZR,ZS];exact .bool_int a b t
  |str b=>simp only[Rel]at r2;subst r2;obtain⟨t,rfl⟩:=rv;simp only[aH,ZR,ZS];exact .bool_str a b t
  |tup ys=>simp only[Rel]at r2;obtain⟨k,ws,rfl,f,i⟩:=r2;cases rv;obtain⟨h,_,c,_⟩:=I.tuple f.sq;simp only[aH,ZR,ZS];exact .bool_tuple a c (by omega)
  |lst ys=>simp only[Rel]at r2;obtain⟨k,ws,rfl,f,i⟩:=r2;cases rv;obtain⟨h,_,c,_⟩:=I.list f.sq;simp only[aH,ZR,ZS];exact .bool_list a c.isList (by omega)
  |_=>cases f2
 |.int a,d2,A,x,y,u,v,_,f2,r1,r2,ru,rv,hu=>by
  simp only[Rel]at r1;subst r1;obtain⟨t0,rfl⟩:=ru;cases d2 with
  |ay=>simp only[Rel]at r2;subst r2;cases rv;simp only[aH,ZR,ZS];exact .int_none a t0|bl b=>simp only[Rel]at r2;subst r2;cases rv;simp only[aH,ZR,ZS];exact .int_bool a t0 b|int b=>simp only[Rel]at r2;subst r2;obtain⟨t,rfl⟩:=rv;simp only[aH,ZR,ZS];exact .int_int a t0 b t
  |str b=>simp only[Rel]at r2;subst r2;obtain⟨t,rfl⟩:=rv;simp only[aH,ZR,ZS];exact .int_str a t0 b t
  |tup ys=>simp only[Rel]at r2;obtain⟨k,ws,rfl,f,i⟩:=r2;cases rv;obtain⟨h,_,c,_⟩:=I.tuple f.sq;simp only[aH,ZR,ZS];exact .int_tuple a t0 c (by omega)
  |lst ys=>simp only[Rel]at r2;obtain⟨k,ws,rfl,f,i⟩:=r2;cases rv;obtain⟨h,_,c,_⟩:=I.list f.sq;simp only[aH,ZR,ZS];exact .int_list a t0 c.isList (by omega)
  |_=>cases f2
 |.str a,d2,A,x,y,u,v,_,f2,r1,r2,ru,rv,hu=>by
  simp only[Rel]at r1;subst r1;obtain⟨t0,rfl⟩:=ru;cases d2 with
  |ay=>simp only[Rel]at r2;subst r2;cases rv;simp only[aH,ZR,ZS];exact .str_none a t0|bl b=>simp only[Rel]at r2;subst r2;cases rv;simp only[aH,ZR,ZS];exact .str_bool a t0 b|int b=>simp only[Rel]at r2;subst r2;obtain⟨t,rfl⟩:=rv;simp only[aH,ZR,ZS];exact .str_int a t0 b t
  |str b=>simp only[Rel]at r2;subst r2;obtain⟨t,rfl⟩:=rv;simp only[aH,ZR,ZS];exact .str_str a t0 b t
  |tup ys=>simp only[Rel]at r2;obtain⟨k,ws,rfl,f,i⟩:=r2;cases rv;obtain⟨h,_,c,_⟩:=I.tuple f.sq;simp only[aH,ZR,ZS];exact .str_tuple a t0 c (by omega)
  |lst ys=>simp only[Rel]at r2;obtain⟨k,ws,rfl,f,i⟩:=r2;cases rv;obtain⟨h,_,c,_⟩:=I.list f.sq;simp only[aH,ZR,ZS];exact .str_list a t0 c.isList (by omega)
  |_=>cases f2
 |.tup xs,d2,A,x,y,u,v,f1,f2,r1,r2,ru,rv,hu=>by
  simp only[Rel]at r1;obtain⟨a,vs,rfl,f,i⟩:=r1;cases ru;obtain⟨h,z,c,_⟩:=I.tuple f.sq;simp only[dep]at hu;cases d2 with
  |ay=>simp only[Rel]at r2;subst r2;cases rv;simp only[aH,ZR,ZS];exact .tuple_none c (by omega)|bl b=>simp only[Rel]at r2;subst r2;cases rv;simp only[aH,ZR,ZS];exact .tuple_bool b c (by omega)|int b=>simp only[Rel]at r2;subst r2;obtain⟨t,rfl⟩:=rv;simp only[aH,ZR,ZS];exact .tuple_int b t c (by omega)
  |str b=>simp only[Rel]at r2;subst r2;obtain⟨t,rfl⟩:=rv;simp only[aH,ZR,ZS];exact .tuple_str b t c (by omega)
  |tup ys =>
   simp only[Rel]at r2;obtain⟨k,ws,rfl,q,o⟩:=r2;cases rv;obtain⟨e,r,l,_⟩:=I.tuple q.sq;simp only[aH,jI];have l1:xs.length=h.toArray.size:=by rw[Zw,<- z.length];exact i.length
   have l2:ys.length=e.toArray.size:=by rw[Zw,<- r.length];exact o.length
   rw[l1,l2];refine .tuples c l (by omega) λj h1 h2=>?_;have:=kK I xs ys (A:=A.in1) f1 f2 i o z r (by rw[in1_units];omega) j (by simpa using h1) (by simpa using h2);simpa using this
  |lst ys =>
   simp only[Rel]at r2;obtain⟨k,ws,rfl,q,o⟩:=r2;cases rv;obtain⟨e,r,l,_⟩:=I.list q.sq;simp only[aH,ZR,ZS];exact .tuple_list c l.isList (by omega)
  |_=>cases f2
 |.lst xs,d2,A,x,y,u,v,f1,f2,r1,r2,ru,rv,hu=>by
  simp only[Rel]at r1;obtain⟨a,vs,rfl,f,i⟩:=r1;cases ru;obtain⟨h,z,c,_⟩:=I.list f.sq;simp only[dep]at hu;cases d2 with
  |ay=>simp only[Rel]at r2;subst r2;cases rv;simp only[aH,ZR,ZS];exact .list_none c.isList (by omega)|bl b=>simp only[Rel]at r2;subst r2;cases rv;simp only[aH,ZR,ZS];exact .list_bool b c.isList (by omega)|int b=>simp only[Rel]at r2;subst r2;obtain⟨t,rfl⟩:=rv;simp only[aH,ZR,ZS];exact .list_int b t c.isList (by omega)
  |str b=>simp only[Rel]at r2;subst r2;obtain⟨t,rfl⟩:=rv;simp only[aH,ZR,ZS];exact .list_str b t c.isList (by omega)
  |lst ys =>
   simp only[Rel]at r2;obtain⟨k,ws,rfl,q,o⟩:=r2;cases rv;obtain⟨e,r,l,_⟩:=I.list q.sq;simp only[aH,jI];have l1:xs.length=h.toArray.size:=by rw[Zw,<- z.length];exact i.length
   have l2:ys.length=e.toArray.size:=by rw[Zw,<- r.length];exact o.length
   rw[l1,l2];by_cases hs:h.toArray.size=e.toArray.size
   . have e0:(h.toArray.size == e.toArray.size)=true:=by simpa using hs
     rw[e0,Bool.and_true,<- hs,Nat.min_self];refine .lists c.isList l.isList hs (by omega) λj h1 h2=>?_;have:=kK I xs ys (A:=A.in1) f1 f2 i o z r (by rw[in1_units];omega) j (by simpa using h1) (by simpa using h2);simpa using this
   . have e0:(h.toArray.size == e.toArray.size)=false:=by simpa using hs
     rw[e0,afl,ZS];exact .lists_lengths c.isList l.isList (by simpa using hs) (by omega)
  |tup ys =>
   simp only[Rel]at r2;obtain⟨k,ws,rfl,q,o⟩:=r2;cases rv;obtain⟨e,r,l,_⟩:=I.tuple q.sq;simp only[aH,ZR,ZS];exact .list_tuple c.isList l (by omega)
  |_=>cases f2
 |.dZ,d2,A,x,y,u,v,f1,_,_,_,_,_,_=>by cases f1|.ref _,d2,A,x,y,u,v,f1,_,_,_,_,_,_=>by cases f1|.aX _,d2,A,x,y,u,v,f1,_,_,_,_,_,_=>by cases f1|.fn _ _,d2,A,x,y,u,v,f1,_,_,_,_,_,_=>by cases f1
end
noncomputable def dD (a b:D)(g:G):Option (D×G):=if(flat a&&flat b&&decide (dep a<=60))=true then some (.bl (!aH a b),g)else none
theorem L6 (hu:X.A.units+64<cLine):bK X (aaB .NotEq) (dH X.kw dD):=by
 intro a8 s σ H x y v u Q I c e q;obtain⟨ι,g,a,h,d,i,G0,b,f,q,p⟩:=q;unfold dD at q;split at q
 . rename_i z
   simp only[Zr,decide_eq_true_eq]at z;cases q;exact L5 I a h z.1.1 z.1.2 b f c e (by omega) _ _ _ _ ⟨.bl _,H,I,rfl,p H ι _ Ext.refl G0 (by simp[Rel])⟩
 . cases q
end
@[simp] theorem VL {a b:D}{g:G}:dD a b g=if(flat a&&flat b&&decide (dep a<=60))=true then some (.bl (!aH a b),g)else none:=rfl
noncomputable def fA:List D->Option (List Int)
 | []=>some []|.int i::ds=>(fA ds).map (i :: ·)|_=>none
theorem zS {d:D}{ds:List D}{ns:List Int}(h:fA (d::ds)=some ns):∃i ms,d = .int i/\ns=i::ms/\fA ds=some ms:=by
 cases d with
 |int i =>
  simp only[fA,Zv]at h;obtain⟨ms,a,rfl⟩:=h;exact⟨i,ms,rfl,rfl,a⟩
 |_=>simp[fA]at h
theorem mZ {K H ι}:∀{xs:List D} {vs:List V} {us:List Value} {ns:List Int},fA xs=some ns->aj K H ι xs vs->Vals vs us->abQ us ns
 | [],vs,us,ns,h,r,rv=>by simp only[aj]at r;subst r;cases rv;cases h;exact .nil
 |d::ds,vs,us,ns,h,r,rv=>by
  obtain⟨i,ms,rfl,rfl,b⟩:=zS h;simp only[aj,Rel]at r;obtain⟨v,c,rfl,rfl,a⟩:=r;cases rv with
  |cons r0 rr =>
   obtain⟨t,rfl⟩:=r0;exact .cons i t (mZ b a rr)
theorem lK:∀{us:List Value} {ns:List Int},abQ us ns->∃xs:List (Int×Tok),us=xs.map (λp=>ad3 p.1 p.2)/\ns=xs.map (·.1)
 |_,_,.nil=>⟨[],rfl,rfl⟩|_,_,.cons n t h=>by obtain⟨xs,rfl,rfl⟩:=lK h;exact⟨(n,t)::xs,rfl,rfl⟩
section
variable {X:Cx}
noncomputable def gZ (ds:List D)(g:G):Option (D×G):=match ds with| [d]=>(jh d g).bind λxs=>(fA xs).bind λns=>ns.min?.map λm=>(.int m,g)|_=>none
theorem Iq (hh:X.A.handled=none):dJ X (.builtin "min") (jY X.kw gZ):=by
 intro a8 s σ H xs us Q I r q;obtain⟨ι,g,ds,d,g',G0,f,q,p⟩:=q;cases ds with
 |nil=>cases q|cons e BK =>
 cases BK with
 |cons _ _=>cases q
 |nil =>
  simp only[gZ]at q;obtain⟨ys,hx,q⟩:=bind_some q;obtain⟨ns,hn,q⟩:=bind_some q;obtain⟨m,hm,q⟩:=Zv.mp q;cases q;simp only[aj]at f;obtain⟨v,_,rfl,rv,rfl⟩:=f;obtain⟨a,vs,rfl,hq,hr⟩:=lI G0 rv hx;cases r with
  |cons ru rr =>
   cases rr;cases ru;obtain⟨au,z,ht,_⟩:=I.list hq;obtain⟨b,rfl,rfl⟩:=lK (mZ hn hr z);obtain⟨c,u⟩:=afn.mp hm;have hi:(b.map (λp=>ad3 p.1 p.2)).toArray=intItems b.toArray:=by simp[intItems]
   have h:=ht.isList;rw[hi]at h;have k:0<b.toArray.size:=by
    cases b with
    |nil=>simp at c|cons _ _=>simp
   refine min_intList hh h k λv h' tk y hk=>?_;obtain⟨t,rfl⟩:=intItems_at y;obtain⟨h1,x⟩:=argBest_lt (numAt b.toArray) (b.toArray.size-1);have e:numAt b.toArray (argBest (λi j=>decide (numAt b.toArray i<numAt b.toArray j)) (b.toArray.size-1))=m:=by
    have key:∀j,j<b.length->numAt b.toArray j=(b.map (·.1)).getD j 0:=λj l=>by rw[afy]
    have o:numAt b.toArray (argBest (λi j=>decide (numAt b.toArray i<numAt b.toArray j)) (b.toArray.size-1))∈b.map (·.1):=by rw[afy];exact getD_mem (by rw[Z2];simp at k h1 ⊢;omega)
    refine Int.le_antisymm ?_ (u _ o);obtain⟨j,l,ej⟩:=mem_getD c;rw[<- ej];have:=x j (by simp at l ⊢;omega);rw[afy]at this;rw[afy];simpa[afy]using this
   rw[e];exact⟨.int m,H,I.kept hk,⟨_,rfl⟩,p H ι _ Ext.refl G0 (by simp[Rel])⟩
theorem iP:∀{us:List Value} {ns:List Int},abQ us ns->Vals (ns.map V.int) us
 |_,_,.nil=>.nil|_,_,.cons n t h=>.cons ⟨t,rfl⟩ (iP h)
theorem pX {K:KW}{H:Hp}{ι:Ix}:∀ns:List Int,aj K H ι (ns.map D.int) (ns.map V.int)
 | []=>by simp[aj]|n::ns=>by simp only[aaE,aj];exact⟨_,_,rfl,by simp[Rel],pX ns⟩
end
section
variable {σ:Sg}{g:G}{fr:FA}
@[simp] theorem Ug {d:D}:gZ [d] g=(jh d g).bind λxs=>(fA xs).bind λns=>ns.min?.map λm=>(.int m,g):=rfl
end
end L3
namespace L3
open PyProof.Rows L2 HT
section
variable {prog:ZW}{w:World}{A:ZY}{E:Value->Zo->Prop}{s:Zo}
theorem mH {t l:Addr}{items:Array Value}{o q:Value}{i k:Option Int}{Q:Value->Zo->Prop}(j:IsTup s.heap t items)(r:s.heap.IsSliceOf l o q .none)(u:ab6 o i)(x:ab6 q k)
  (hw:bf items.size 0 i=0/\bf items.size items.size k=items.size)
  (h:Q (.ref t) s):wpAny (model prog w) A (ac2 (.ref t) (.ref l)) Q E s:=by
 obtain⟨os,c,e,f⟩:=id r;have a:s.TypeIs (.ref l) "slice":=⟨os,c,e⟩
 unfold ac2;try with_reducible refine aaa ?_
 first|refine Zm (Zp ?_)|skip
 refine Zm (acj j.typeIs (by decide) ?_);refine Zm (aaw (name:=abl "__getitem__") j.typeIs Z7
  (aai Z7 j.typeIs adR ?_ (ad9 _ _)))
 show wpAny _ _ (abZ (.ref t) >>= _) _ _ s;refine Zm (afC j ?_);refine Zm (ab7 a ?_);rw[if_pos (by decide)];refine Zm (jw r u x ?_);have b:((((bf items.size 0 i:Nat):Int)== 0&&(1:Int)== 1&&(bf items.size items.size k-bf items.size 0 i)== items.size)=true):=by rw[hw.1,hw.2];simp
 show wpAny _ _ (if(((bf items.size 0 i:Nat):Int)== 0&&(1:Int)== 1&&(bf items.size items.size k-bf items.size 0 i)== items.size)=true then _ else _) _ _ s;rw[if_pos b];unfold Builtin.Tuple.tupleIsExact;refine Zm (Zm (ab7 j.typeIs (Zp ?_)));rw[if_pos (by decide)];refine Zm (abf (Zp ⟨_,rfl,Zp h⟩))
end
section
variable {X:Cx}
noncomputable def Ui (K:KW):V->Option Int->Option Int->Hp->VK->Prop:=λx lo b H Q=>∃a xs,x = .ref a/\eK K H a xs/\(HT.bf xs.length 0 lo=0/\HT.bf xs.length xs.length b=xs.length)/\Q (.ref a) H
theorem Er:ot X (Ui X.kw):=by
 intro a8 s σ H x v o l lo u y Q I j e f pu h;obtain⟨a,xs,rfl,i,hw,q⟩:=h;cases j;obtain⟨c,r,b,k⟩:=I.tuple i;have hlen:c.toArray.size=xs.length:=by rw[Zw];exact r.length.symm
 refine⟨"tuple",_,Z7.lookup,b.typeIs,?_⟩;exact mH b e f pu (by rw[hlen];exact hw) ⟨.ref a,H,I,rfl,q⟩
noncomputable def fj (d:D)(a b:Option Int)(g:G):Option (D×G):=match d with
 |.tup xs=>some (.tup (cutD xs a b),g)|d=>LO d a b g
theorem BW {xs:List D}{a b:Option Int}(h:kL xs.length a b=true):cutD xs a b=xs:=by unfold kL at h;rw[Zr,decide_eq_true_eq,decide_eq_true_eq]at h;unfold cutD;rw[h.1,h.2];simp
noncomputable def cR (a:FE)(fl b:FO):FE:=λσ g=>(a σ g).bind λr=>(fl σ r.2).bind λl=>(b σ l.2).bind λh=>fj r.1 l.1 h.1 h.2
theorem BX {a:Expr}{I J:Option Expr}{E:FE}{fl C:FO}{K A:Pos}(B:DE X a E)(L:DO X I fl)(hh:DO X J C):DE X (.Subscript a (.Slice I J none K) A) (cR E fl C):=.of (
 PE.imp (DU (ot.or Ie Er) B.un L.un hh.un) λσ H Q h=>by
  obtain⟨ι,y,g,d,g',G0,S0,h,p⟩:=h;obtain⟨⟨d1,g1⟩,h1,h⟩:=bind_some h;obtain⟨⟨l,g2⟩,h2,h⟩:=bind_some h;obtain⟨⟨u,g3⟩,h3,h⟩:=bind_some h;refine tD.bind G0 S0 h1 λH1 ι1 v e1 G1 S1 r1=>?_;refine⟨ι1,y,g1,l,g2,G1,S1,h2,λH2 ι2 o G2=>?_⟩;refine⟨ι2,y,g2,u,g3,G2,S1.ext o,h3,λs ι3 e3 j=>?_⟩;have i:=Rel.ext (o.trans e3) _ r1;have x:=p.mono (e1.trans (o.trans e3));have lst:∀{xs:List D} {a:Addr} {f:List V},v = .ref a->dw X.kw s a f->aj X.kw s ι3 xs f->some (D.lst (cutD xs l u),g3)=some (d,g')->LQ X.kw v l u s Q:=fun {xs a f} ev k e hh=>by cases hh;refine .inr ⟨a,f,ev,k,λq b=>x _ _ _ (Ext.lay b) (j.lay b) ?_⟩;simp only[Rel];exact⟨q,_,rfl,.inl ⟨.inl aP,j.fresh b,j.gY b⟩,aj.ext (Ext.lay b) _ (e.LP l u)⟩
  dsimp only at h;cases d1 with
  |tup xs =>
   simp only[fj]at h;cases h;have r4:=i;simp only[Rel]at i;obtain⟨a,f,rfl,k,e⟩:=i;by_cases z:kL xs.length l u=true
   . refine .inr ⟨a,f,rfl,k.sq,?_,x _ _ _ Ext.refl j ?_⟩
     . unfold kL at z
       rw[e.length,Zr,decide_eq_true_eq,decide_eq_true_eq]at z;exact z
     . rw[BW z];exact r4
   . refine .inl (.inl ⟨a,f,rfl,k.sq,λc=>z ?_,λq b=>x _ _ _ (Ext.lay b) (j.lay b) ?_⟩)
     . unfold kL
       rw[e.length,Zr,decide_eq_true_eq,decide_eq_true_eq];exact c
     . simp only[Rel]
       exact⟨q,_,rfl,.inl ⟨.inl aP,j.fresh b⟩,aj.ext (Ext.lay b) _ (e.LP l u)⟩
  |lst xs =>
   simp only[fj,LO]at h;simp only[Rel]at i;obtain⟨a,f,r,k,e⟩:=i;exact .inl (lst r k.sq e h)
  |ref n =>
   simp only[fj,LO]at h;split at h
   . rename_i xs hx
     simp only[Rel]at i;obtain⟨a,r,B⟩:=i;obtain⟨f,hv,e⟩:=j.at hx B;exact .inl (lst r (.of hv) e h)
   . cases h
  |_=>cases h)
end
@[simp] theorem Ir {b:FE}{fl a:FO}{σ:Sg}{g:G}:cR b fl a σ g=(b σ g).bind λr=>(fl σ r.2).bind λl=>(a σ l.2).bind λh=>fj r.1 l.1 h.1 h.2:=rfl
end L3
namespace L3
open PyProof.Rows L2
mutual
noncomputable def sm:D->Bool
 |.ay=>true|.bl _=>true|.int i=>decide (i.natAbs<10 ^ 19)|.str x=>decide ((reprText x).length<=20)|.tup xs=>Rn xs|.lst _=>false|.dZ=>false|.ref _=>false|.aX _=>false|.fn _ _=>false
noncomputable def Rn:List D->Bool
 | []=>true|d::ds=>sm d&&Rn ds
end
mutual
noncomputable def nd:D->Nat
 |.tup xs=>Ro xs+1|_=>1
noncomputable def Ro:List D->Nat
 | []=>0|d::ds=>nd d+Ro ds
end
noncomputable def jK (nn L:Nat)(t:FG)(c:FT)(e:FE):Nat->Sg->G->Option (List D×G)
 | 0,_,g=>(g[nn]?).bind λxs=>if xs.length=L then some ([],g)else none|r+1,σ,g=>(g[nn]?).bind λxs=>if xs.length=L then(xs[L-(r+1)]?).bind λd=>(t d σ g).bind λq=>(c q.1 q.2).bind λk=>if k.1=true then(e q.1 k.2).bind λa=>(jK nn L t c e r q.1 a.2).bind λz=>some (a.1::z.1,z.2)else jK nn L t c e r q.1 k.2 else none
abbrev oB:=Sg->G->Option (Nat×Nat×G)
noncomputable def zT (K:KW)(J:It)(H:Hp)(ι:Ix)(nn L:Nat):Prop :=
 ∀(i:Nat) H1 ι1 g1,i7 H ι H1 ι1->aw K H1 ι1 g1->∀xs,g1[nn]? = some xs->xs.length=L->(L<=i->J.stop i H1) /\ ∀d,xs[i]? = some d->J.go i H1 /\ ∀x H2,J.AY i H1 x H2->Ext H1 ι1 H2 ι1/\aw K H2 ι1 g1/\Rel K H2 ι1 d x
inductive L7 (K:KW)(f:oB)(σ:L2.St)(H:Hp)(R:(It->Hp->Prop)):Prop
 |mk (ι:Ix) (σd:Sg) (g:G) (nn:Nat) (L:Nat) (g':G) (h0:aw K H ι g) (h1:bH K H ι σd σ) (h2:f σd g=some (nn,L,g')) (h3:∀H' ι' J,Ext H ι H' ι'->aw K H' ι' g'->zT K J H' ι' nn L->R J H'):L7 K f σ H R
structure F6 (X:Cx)(tg iter:Expr)(f:oB):Prop where of ::
 un:PI X tg iter (L7 X.kw f)
noncomputable def Es (f:FE):oB:=λσ g=>(f σ g).bind λr=>match r.1 with|.ref n=>(r.2[n]?).bind λxs=>some (n,xs.length,r.2)|_=>none
theorem zT.ref {K H ι a n L}(h:d5 ι n a false):zT K (Fp K a) H ι n L:=λi H1 r g1 k f xs o q=>by obtain⟨vs,j,e⟩:=f.at o (k.at h);have b:dw K H1 a vs:=.inl (.inl j);refine⟨λh=>⟨vs,b,by rw[<- e.length];omega⟩,λd hd=>?_⟩;obtain⟨v,c,l⟩:=e.get hd;refine⟨⟨vs,v,b,c⟩,λx s y=>?_⟩;obtain⟨rfl,y⟩:=y;have:=y vs b;rw[c]at this;cases this;exact⟨Ext.refl,f,l⟩
theorem xY {X:Cx}{tg l:Expr}{A:FE}(B:DE X l A):F6 X tg l (Es A):=.of (PI.imp (xp B.un) λσ H Q h=>by
 obtain⟨ι,u,g,nn,L,z,G0,s,h,p⟩:=h;obtain⟨⟨j,g1⟩,q,h⟩:=bind_some h;cases j with
 |ref n =>
  obtain⟨xs,r,h⟩:=bind_some h;cases h;refine tD.bind G0 s q λH1 o v i c x b=>?_;simp only[Rel]at b;obtain⟨a,rfl,e⟩:=b;obtain⟨k,f,y⟩:=c.at r e;exact⟨a,rfl,⟨k,.inl (.inl f)⟩,p H1 o _ i c (.ref e)⟩
 |_=>cases h)
noncomputable def kP (mk:List D->G->Option (D×G))(a:oB)(fr:List (Option Nat))(t:FG)(c:FT)(e:FE):FE:=λσ g=>(a σ g).bind λr=>if aA r.2.1=true then(jK r.1 r.2.1 t c e r.2.1 (bM fr σ) r.2.2).bind λq=>mk q.1 q.2 else none
noncomputable def L8 (a:oB):pQ:=λσ g=>(a σ g).map λr=>(λg=>g[r.1]?,r.2.1,r.2.2)
theorem xZ {X:Cx}{tg u:Expr}{x:oB}(h:F6 X tg u x):vj X tg u (L8 x):=.of (PI.imp h.un λσ H Q q=>by obtain⟨ι,b,g,sh,L,s,G0,l,c,p⟩:=q;obtain⟨⟨nn,o,g1⟩,k,e⟩:=Zv.mp c;cases e;exact⟨ι,b,g,nn,o,g1,G0,l,k,λa f J i j r=>p a f J i j r⟩)
theorem vK {nn L:Nat}{t:FG}{c:FT}{e:FE}:∀(k:Nat) (σ:Sg) (g:G),jK nn L t c e k σ g=dM (λg=>g[nn]?) L t c e k σ g
 | 0,σ,g=>by simp only[jK,dM]|k+1,σ,g=>by simp only[jK,dM,vK k]
theorem vL {mk:List D->G->Option (D×G)}{a:oB}{fr:List (Option Nat)}{t:FG}{c:FT}{e:FE}:kP mk a fr t c e=jF mk (L8 a) fr t c e:=by
 funext σ g;unfold kP jF L8;cases a σ g with
 |none=>rfl|some r=>simp only[Zt,abg,vK]
section
variable {X:Cx}{tg iter elt:Expr}{ifs:List Expr}{scope:Scope}{pos c_:Pos}{N:List Str}{fr:List (Option Nat)}{fi:oB}{t:FG}{c:FT}{e:FE}
theorem Et (b:X.xe=λ_ _=>False)(h:X.calm=true)(ok:eH X N fr scope)(a:F6 X tg iter fi)(f:∀C s3 H fp a8,DG (a_ X N scope C s3 H fp a8) tg t/\gz (a_ X N scope C s3 H fp a8) ifs c/\DE (a_ X N scope C s3 H fp a8) elt e)
  (i:∀x,aaq iter X.env x=pure x:=by intro _;rfl):DE X (.ListComp elt [⟨tg,iter,ifs,0⟩] scope pos) (kP bw fi fr t c e):=by
 rw[vL];exact vn b h ok (xZ a) f i
end
section
variable {σ:Sg}{g:G}{fa:FE}
@[simp] theorem VM:Es fa σ g=(fa σ g).bind λr=>match r.1 with|.ref n=>(r.2[n]?).bind λxs=>some (n,xs.length,r.2)|_=>none:=rfl
@[simp] theorem Rp {mk:List D->G->Option (D×G)}{a:oB}{fr:List (Option Nat)}{t:FG}{c:FT}:kP mk a fr t c fa σ g=(a σ g).bind λr=>if aA r.2.1=true then(jK r.1 r.2.1 t c fa r.2.1 (bM fr σ) r.2.2).bind λq=>mk q.1 q.2 else none:=rfl
end
section
variable {X:Cx}{tg iter elt:Expr}{ifs:List Expr}{scope:Scope}{pos c_:Pos}{N:List Str}{fr:List (Option Nat)}{fi:FI}{t:FG}{c:FT}{e:FE}
theorem Eu (b:X.xe=λ_ _=>False)(h:X.calm=true)(ok:eH X N fr scope)(a:DI X tg iter fi)(f:∀C s3 H fp a8,DG (a_ X N scope C s3 H fp a8) tg t/\gz (a_ X N scope C s3 H fp a8) ifs c/\DE (a_ X N scope C s3 H fp a8) elt e)
  (i:∀x,aaq iter X.env x=pure x:=by intro _;rfl):DE X (.ListComp elt [⟨tg,iter,ifs,0⟩] scope pos) (bq iZ fi fr t c e):=by
 rw[nJ];exact sO b h ok (mW a) f i
end
noncomputable def cf:FE:=λ_ _=>none
theorem bN {X:Cx}{e:Expr}:DE X e cf:=.of (λa8 s σ H Q I h=>by obtain⟨ι,b,g,d,a,G0,c,h,p⟩:=h;cases h)
@[simp] theorem Uj {σ:Sg}{g:G}:cf σ g=none:=rfl
end L3
namespace L3
open PyProof.Rows L2
open Sem (wp)
open Builtin
section
variable {X:Cx}
theorem noFill_list_mul:fillsNumberSlot (.type "list") "mul" = pure false :=
 aez (id:="list.__mul__") (r:=some (.builtin "list.__rmul__")) F.slot_list_mul.lookup (by decide +kernel) F.slot_list_rmul.lookup (by decide +kernel)
theorem repeat_list:afv (.type "list")=pure (some (.builtin "list.__mul__")):=by unfold afv;rw[adp (T:="list") (name:="__mul__") (id:="list.__mul__") F.slot_list_mul.lookup (by decide +kernel),adp (T:="list") (name:="__rmul__") (id:="list.__rmul__") F.slot_list_rmul.lookup (by decide +kernel)];rfl
theorem tZ (a:Int)(t:Tok)(l:Addr)(items:Array Value)(n:Nat)(i:Option Addr)(f:Array (Option Value)):
  Meets (aa9.«int.__rmul__» ⟨[.int a t,.ref l],[]⟩) (λ_ R s=>s.heap.get? l=some { cls:=.type "list",dict:=i,data:=.seq items n,slots:=f }/\R (.ok (.ret afw)) s):=
 .of_wp λprog w A R s h=>by obtain⟨b,g,d,c,os⟩:=s;obtain⟨e,h⟩:=h;wp_walk;exact⟨_,rfl,h⟩
theorem BY (l:Addr)(items:Array Value)(n:Nat)(f:Option Addr)(e:Array (Option Value))(x:Int)(u:Tok)(o:¬(!acI x)=true)
  (q:¬items.size*x.toNat>(2 ^ 63-1) / 8) (j:¬ab8 (items.size*x.toNat)=true) (i:items.isEmpty=false) (k:((ZA x.toNat items).foldl (· ++ ·) #[]).size<=ZM):
  Meets (aa9.«list.__mul__» ⟨[.ref l,.int x u],[]⟩) (λ_ R s=>s.heap.get? l=some { cls:=.type "list",dict:=f,data:=.seq items n,slots:=e }/\R (.ok (.ret (abt s.heap.objs.size))) { s with heap:=s.heap.push { cls:=aav "list",data:=Data.seq ((ZA x.toNat items).foldl (· ++ ·) #[]) },toks:=s.toks }):=
 .of_wp λprog w A R s h=>by
  obtain⟨b,g,d,c,os⟩:=s;obtain⟨a,h⟩:=h;have f1:=acD;have f2:=ae8
  wp_walk using aan a
  exact⟨_,rfl,by rw[if_neg (by simp[i])];exact h⟩
noncomputable def Ph (K:KW):R2:=λx y H Q=>∃a k xs,x = .ref a/\y = .int k/\dw K H a xs/\xs ≠ []/\0<=k/\k<2 ^ 62/\xs.length*k.toNat<=16777216 /\ ∀p,H p=none->Q (.ref p) (upd H p (.lst (ZA k.toNat xs).flatten))
theorem x4:bK X (aaH .Mult) (Ph X.kw):=by
 intro a8 s σ H x y v u Q I rx ry h;obtain⟨a,k,xs,rfl,rfl,hq,hx,h1,h2,l,q2⟩:=h;cases rx;obtain⟨t,rfl⟩:=ry;obtain⟨c,r,ht,WE⟩:=I.list hq;have hl:=r.length;obtain⟨⟨cls,dd,data,sl⟩,n,f,o,z,hd⟩:=id ht;simp only at o hd z;subst o hd z;refine wpAny_binaryOp_repeat_ref (T:="list") (U:="int") (by decide) ⟨_,f,rfl⟩ (λs'=>aew s' k t) noFill_list_mul F.fills_int_mul F.slot_int_rmul repeat_list F.slot_int_index.lookup
   (acf F.slot_int_rmul (aew s k t) F.entry_int_rmul (F.args_int_rmul_2 _ _) (tZ k t a c.toArray n none sl) ⟨f,rfl,⟨_,f,rfl⟩,?_⟩)
 have hi:c ≠ []:=λe=>hx (by subst e;cases r;rfl);have fresh:H s.heap.objs.size=none:=I.aS.fresh (Zu _);have j:agJ (λx1 x2=>x1++x2) #[] (ZA k.toNat c.toArray)=(ZA k.toNat c).flatten.toArray:=by have:=foldl_rep c k.toNat [];rw[abh]at this;exact this
 have i:ZM=16777216:=abC;have q:c.length*k.toNat<=16777216:=by rw[<- hl];exact l
 have Uk:¬(!acI k)=true:=by unfold acI;simp;omega
 have Pj:¬ab8 (c.toArray.size*k.toNat)=true:=by rw[DX (by rw[Zw,i];exact q)];simp
 refine acf F.slot_list_mul ⟨_,f,rfl⟩ F.entry_list_mul (F.args_list_mul_2 _ _) (BY a c.toArray n none sl k t Uk (by rw[Zw];omega) Pj (by simp[hi]) ?_) ⟨f,?_⟩
 . rw[j,Zw,len_rep,adM,i];exact q
 . rw[j]
   refine⟨.ref _,_,I.laid (t':=s.toks) (λb u e=>Zs _ e) (Zu _) (show dW X.prog X.w _ _ _ (.lst (ZA k.toNat xs).flatten) from⟨by rw[len_rep,adM,i];exact l,_,0,r.rep k.toNat,ZC _ rfl⟩),rfl,q2 _ fresh⟩
noncomputable def nS (b a:D)(g:G):Option (D×G):=match b,a with
 |.lst xs,.int k=>if(!xs.isEmpty&&decide (0<=k)&&fz k&&aA (xs.length*k.toNat))=true then some (.lst (ZA k.toNat xs).flatten,g)else none|b,a=>bJ b a g
theorem Iu:bK X (aaH .Mult) (dH X.kw nS):=by
 intro a8 s σ H x y v u Q I j l q;obtain⟨ι,g,r,d2,d,g',G0,f,h,q,p⟩:=q;unfold nS at q;split at q
 . rename_i xs k
   split at q
   . rename_i z
     simp only[Zr,decide_eq_true_eq,Z8]at z;cases q;simp only[Rel]at f h;subst h;obtain⟨a,vs,rfl,hq,c⟩:=f;have o:=fz.and z.1.2;have i:=aA.le z.2;rw[abC]at i;refine x4 a8 s σ H _ _ v u Q I j l ⟨a,k,vs,rfl,rfl,hq.sq,?_,z.1.1.2,o.2,by rw[<- c.length];exact i,λpp b=>?_⟩
     . intro e
       subst e;have:=c.length;simp at this;subst this;simp at z
     . refine p _ _ _ (Ext.lay b) (G0.lay b) ?_
       simp only[Rel];exact⟨pp,_,rfl,.inl ⟨.inl aP,G0.fresh b,G0.gY b⟩,aj.ext (Ext.lay b) _ (c.rep _)⟩
   . cases q
 . exact vx a8 s σ H x y v u Q I j l ⟨ι,g,r,d2,d,g',G0,f,h,q,p⟩
end
section
variable {σ:Sg}{g:G}
@[simp] theorem Rt {i j:Int}:nS (.int i) (.int j) g=if b_ i j=true then some (.int (i*j),g)else none:=rfl
@[simp] theorem Ru {xs:List D}{k:Int}:nS (.tup xs) (.int k) g=bJ (.tup xs) (.int k) g:=rfl
@[simp] theorem Rv {xs:List D}{k:Int}:nS (.lst xs) (.int k) g=if(!xs.isEmpty&&decide (0<=k)&&fz k&&aA (xs.length*k.toNat))=true then some (.lst (ZA k.toNat xs).flatten,g)else none:=rfl
end
end L3
namespace L3
open PyProof.Rows L2
theorem L9 {X:Cx}{a8:List (Addr×Obj)}{σ:L2.St}{H:Hp}{s:Zo}{a c:Addr}{xs:List V}(I:L2.Inv X a8 σ H s)(f:fD X a8 H c)(i:dw X.kw H a xs):a≠c:=λz=>by
 subst z;obtain⟨f0,f1,f2,e,f4,h⟩:=f;rcases i with i|⟨o,au,n,hk,_⟩
 . rcases i with i|⟨o,i⟩<;>rw[f0]at i<;>cases i
 . have b:X.base.get? a=some o:=I.ok.mod.kz a o hk
   rcases e with q|q
   . exact I.ok.oJ a o b q
   . exact aaS _ (ZZ (ZG (I.ok.bs a o b).1) q)
end L3
namespace DK
open PyProof.Rows L2 L3 SeqAt
def fY (s:Zo)(m:Nat)(u:Value):Prop:=∀(prog:ZW) (w:World) (A:ZY) (E:Value->Zo->Prop) (Q:Bool->Zo->Prop),Q true s->wpAny (model prog w) A (ae0 m u) Q E s
structure F8 (A:ZY)(s:Zo)(key:Value)(h:Int)(es:Array aaf)(t:Nat->Bool):Prop where
 eq:∀i e,es[i]? = some e->e.hash=h->EqAt A s e.key key (t i)
 hs:∀i e,es[i]? = some e->t i=true->e.hash=h
 qk:fY s 8 key
 qe:∀e∈es,fY s 8 e.key
 rf:∀e∈es,e.key=key->e.hash=h
 un:∀i j,i<es.size->j<es.size->t i=true->t j=true->i=j
 st:∀x tk,key = .str x tk->∀i e,es[i]? = some e->isExactStrKey e.key=true->e.key.isStr x=t i
section
variable {prog:ZW}{w:World}{A:ZY}{E:Value->Zo->Prop}{s:Zo}{d:Addr}{o:Obj}{es:Array aaf}{ep:Nat}{key:Value}{h:Int}{t:Nat->Bool}{Q:Option Nat->Zo->Prop}
theorem oX {c:List Value}{Q:Bool->Zo->Prop}(e:fY s 8 key)(f:∀v∈c,fY s 8 v)(q:Q false s):wpAny (model prog w) A (tableMayTell key c) Q E s:=by
 unfold tableMayTell;split
 . exact Zp q
 refine Zm (e prog w _ _ _ ?_);simp only[ZR,ZJ,if_false];refine Zm (acb _ (λrest r z=>z=s/\r=(none,()) /\ ∀v∈rest,fY s 8 v) _ ?_ ?_ _ _ ⟨rfl,rfl,f⟩)
 . rintro x rest r z ⟨rfl,rfl,a⟩
   refine Zm (a x ZU prog w _ _ _ ?_);simp only[ZR,ZJ,if_false];exact Zp ⟨rfl,rfl,λv b=>a v (Zz _ b)⟩
 . rintro r z ⟨rfl,rfl,_⟩
   exact Zp q
theorem lL {i:Nat}:i∈aaK es.size (λi=>es[i]?.map (·.hash)) h ↔ ∃e,es[i]? = some e/\e.hash=h:=by
 unfold aaK;simp only[aa5,aap,beq_iff_eq,Zv];constructor
 . rintro⟨_,e,a,b⟩;exact⟨e,a,b⟩
 . rintro⟨e,a,b⟩;exact⟨(ab0.mp a).1,e,a,b⟩
theorem vM:(aaK es.size (λi=>es[i]?.map (·.hash)) h).Nodup:=by unfold aaK;exact adq.sublist abO
theorem rA (B:s.heap.get? d=some o)(C:o.data = .dict es ep)(K:F8 A s key h es t)(I:(∀i,i<es.size->t i=false)->Q none s)(H:∀i,i<es.size->t i=true->Q (some i) s):
  wpAny (model prog w) A (dictFind d key h) Q E s:=by
 have none_of:(∀i∈aaK es.size (λi=>es[i]?.map (·.hash)) h,t i=false)->Q none s:=λz=>I λi c=>by
  cases ht:t i with
  |false=>rfl
  |true =>
    have k:=aad c;rw[z i (lL.mpr ⟨_,k,K.hs i _ k ht⟩)]at ht;cases ht
 have gen:∀tells:Bool,tells=false->wpAny (model prog w) A (do
    let mut hit:Option Nat:=none
    for i in aaK es.size (λi=>es[i]?.map (·.hash)) h do
      if let some e:=es[i]? then
        if e.hash == h then
          let before <- dictEpoch d (keyPart key);let same <- eqBool e.key key
          if(<- dictEpoch d (keyPart key)) != before then unsupported "dict.changed-during-lookup"
          if same then
            if hit.isSome then unsupported "dict.find:order-among-keys-of-one-hash"
            rule "dict.find.hit"
            if((aaK es.size (λi=>es[i]?.map (·.hash)) h).filterMap λi=>es[i]?.map (·.key)).length<2 then return some i
            hit:=some i
          else
            rule "dict.find.same-hash-other-key"
            if tells && !(0<=h&&h<32)then unsupported "dict.find:asked-again-or-not-hangs-on-the-table"
    return hit) Q E s:=λtells WU=>by
  subst WU
  refine Zm (acb _ (λrest (b:Option (Option Nat)×Option Nat) z=>z=s /\ ∃done,aaK es.size (λi=>es[i]?.map (·.hash)) h=done++rest/\b.1=none /\
    ((b.2=none /\ ∀i∈done,t i=false) \/ ∃i,b.2=some i/\i∈done/\i<es.size/\t i=true)) _ ?_ ?_ _ _ ⟨rfl,[],rfl,rfl,.inl ⟨rfl,λi z=>by simp at z⟩⟩)
  . rintro x rest ⟨b1,hit⟩ z ⟨rfl,done,f,rfl,j⟩
    have y:x∈aaK es.size (λi=>es[i]?.map (·.hash)) h:=by rw[f];simp
    obtain⟨e,he,r⟩:=lL.mp y;have q:x<es.size:=(ab0.mp he).1
    have Rw:aaK es.size (λi=>es[i]?.map (·.hash)) h=(done ++ [x])++rest:=by rw[f];simp
    rw[he];dsimp only at j ⊢;rw[if_pos (by simpa using r)];refine Zm (acg B C (Zm (K.eq x e he r prog w _ _ (Zm (acg B C ?_)))));rw[if_neg (by simp)];cases ht:t x with
    |true =>
      have h0:hit=none:=by
        rcases j with⟨h0,_⟩|⟨i,_,c,oA,iR⟩
        . exact h0
        . have:=K.un i x oA q iR ht
          subst this;have nd:=vM (es:=es) (h:=h);rw[f,abr]at nd;exact absurd rfl (nd.2.2 i c i ZU)
      subst h0;simp only[if_true,af0,ZJ,if_false];try refine Zm (Zp ?_)
      refine Zm (abf ?_);split
      . exact Zp (Zp (H x q ht))
      . exact Zp ⟨rfl,done ++ [x],Rw,rfl,.inr ⟨x,rfl,by simp,q,ht⟩⟩
    |false =>
      simp only[ZJ,if_false,agV];refine Zm (abf ?_);refine Zp ⟨rfl,done ++ [x],Rw,rfl,?_⟩;rcases j with⟨h0,hz⟩|⟨i,l,c,oA,iR⟩
      . exact .inl ⟨h0,λi c=>by
          rcases Zy.mp c with c|c
          . exact hz i c
          . simp at c;subst c;exact ht⟩
      . exact .inr ⟨i,l,Zy.mpr (.inl c),oA,iR⟩
  . rintro⟨b1,hit⟩ z ⟨rfl,done,f,rfl,j⟩
    dsimp only at j ⊢;refine Zp ?_;rcases j with⟨rfl,hz⟩|⟨i,rfl,_,oA,iR⟩
    . exact none_of (by rw[f];simpa using hz)
    . exact H i oA iR
 have plain:wpAny (model prog w) A (dictWalkPlain d key h es (aaK es.size (λi=>es[i]?.map (·.hash)) h)) Q E s:=by
  unfold dictWalkPlain
  refine Zm (acb _ (λrest b z=>z=s /\ ∃done,aaK es.size (λi=>es[i]?.map (·.hash)) h=done++rest/\b=(none,()) /\ ∀i∈done,t i=false) _ ?_ ?_ _ _ ⟨rfl,[],rfl,rfl,λi z=>by simp at z⟩)
  . rintro x rest b z ⟨rfl,done,f,rfl,j⟩
    have y:x∈aaK es.size (λi=>es[i]?.map (·.hash)) h:=by rw[f];simp
    obtain⟨e,he,r⟩:=lL.mp y;have q:x<es.size:=(ab0.mp he).1;rw[he];dsimp only;rw[if_pos (by simpa using r)];refine Zm (acg B C (Zm (K.eq x e he r prog w _ _ (Zm (acg B C ?_)))));rw[if_neg (by simp)];cases ht:t x with
    |true =>
      simp only[if_true];refine Zm (abf ?_);exact Zp (Zp (H x q ht))
    |false =>
      simp only[ZJ,if_false];refine Zm (abf ?_);refine Zp ⟨rfl,done ++ [x],by rw[f];simp,rfl,λi c=>?_⟩;rcases Zy.mp c with c|c
      . exact j i c
      . simp at c;subst c;exact ht
  . rintro b z ⟨rfl,done,f,rfl,j⟩
    exact Zp (none_of (by rw[f];simpa using j))
 have keys:∀v∈(aaK es.size (λi=>es[i]?.map (·.hash)) h).filterMap (λi=>es[i]?.map (·.key)),fY s 8 v:=λv hv=>by obtain⟨i,_,c⟩:=aa7.mp hv;obtain⟨e,he,rfl⟩:=Zv.mp c;exact K.qe e (adx he)
 unfold dictFind;refine aaa ?_;refine Zm (aeq B C ?_);cases key with
 |str x tk =>
  refine aaD (λmQ=>?_) (λ_=>?_)
  . unfold foundByValue
    have ft:∀i e,es[i]? = some e->e.key.isStr x=t i:=λi e he=>K.st x tk rfl i e he (Array.all_eq_true_iff_forall_mem.mp mQ e (adx he))
    cases hf:es.findIdx? (·.key.isStr x)with
    |none =>
      refine Zp (I λi c=>?_);rw[<- ft i _ (aad c)];simpa using (Array.findIdx?_eq_none_iff.mp hf) es[i] (aeo c)
    |some i =>
      obtain⟨c,l,_⟩:=Array.findIdx?_eq_some_iff_getElem.mp hf;have k:=aad c;rw[ft i _ k]at l;dsimp only;rw[k];refine Zm (acg B C (Zm (K.eq i _ k (K.hs i _ k l) prog w _ _ (Zm (acg B C ?_)))));refine aaD (λz=>by simp at z) (λ_=>?_);rw[l];exact Zm (abf (Zp (H i c l)))
  . refine aaD (λ_=>plain) (λ_=>?_)
    refine aaD (λ_=>Zm (Zp ?_)) (λ_=>Zm (oX K.qk keys ?_))<;>
      exact aaD (λz=>by simp at z) (λ_=>gen false rfl)
 |ref a =>
  refine aaD (λz=>by simp[carriedByValue]at z) (λ_=>?_);refine aaD (λz=>?_) (λ_=>?_)
  . rw[<- Array.any_toList,aeN]at z
    obtain⟨e,he,u⟩:=z;simp only[Zr,beq_iff_eq,bne_iff_ne,ne_eq]at u;exact absurd (K.rf e (Array.mem_toList_iff.mp he) u.1) u.2
  . refine aaD (λ_=>Zm (Zp ?_)) (λ_=>Zm (oX K.qk keys ?_))<;>
      exact aaD (λz=>by simp at z) (λ_=>gen false rfl)
 |_ =>
  refine aaD (λ_=>plain) (λ_=>?_);refine aaD (λ_=>Zm (Zp ?_)) (λ_=>Zm (oX K.qk keys ?_))<;>
    exact aaD (λz=>by simp at z) (λ_=>gen false rfl)
end
section
variable {X:Cx}{a8:List (Addr×Obj)}{σ:L2.St}{H:Hp}{ι:Ix}{prog:ZW}{E:Value->Zo->Prop}
mutual
theorem pY:∀(d:D) {n:Nat} {s:Zo} {A:ZY} {x:V} {u:Value} {Q:Int->Zo->Prop},Inv X a8 σ H s->aU n d=true->Rel X.kw H ι d x->RelV x u->A.units+n<cLine ->
  (∀tk,Q (hD X.w d) { s with toks:=tk })->wpAny (model prog X.w) A (pyHash u) Q E s
 |.ay,n,s,A,x,u,Q,I,k,r,ru,hu,q=>by simp only[Rel]at r;subst r;cases ru;simp only[hD]at q;exact afK (T:="NoneType") rfl F.slot_NoneType_hash F.entry_NoneType_hash (F.args_NoneType_hash_1 _) (aeP _) (.inr (by omega)) (Zm (Zp (Zm (wpAny_mkInt (Zp ⟨_,_,rfl,q _⟩)))))|.int i,n,s,A,x,u,Q,I,k,r,ru,hu,q=>by simp only[Rel]at r;subst r;obtain⟨t,rfl⟩:=ru;simp only[hD]at q;exact wpAny_pyHash_int (q _)
 |.str y,n,s,A,x,u,Q,I,k,r,ru,hu,q=>by simp only[Rel]at r;subst r;obtain⟨t,rfl⟩:=ru;simp only[hD]at q;exact wpAny_pyHash_str (q _)
 |.tup xs,n+1,s,A,x,u,Q,I,k,r,ru,hu,q=>by simp only[Rel]at r;obtain⟨a,vs,rfl,h,f⟩:=r;cases ru;obtain⟨au,z,⟨o,c,j,m,e⟩,_⟩:=I.tuple h.sq;simp only[hD]at q;simp only[aU]at k;refine afK (T:="tuple") ⟨o,c,j⟩ F.slot_tuple_hash F.entry_tuple_hash (F.args_tuple_hash_1 _) (aeP _) (.inr (by omega)) ?_;show wpAny _ _ (abZ (.ref a) >>= _) _ _ s;refine Zm (wpAny_tupleItemsOf c e (Zm ?_));rw[<- af1];refine x5 xs (acc:=#[]) I k f z (by rw[in1_units];omega) λtk b l=>?_;show wpAny _ _ (retInt (aex b.toList)) _ _ _;rw[l];exact Zm (wpAny_mkInt (Zp ⟨_,_,rfl,q _⟩))
 |.tup xs,0,s,A,x,u,Q,I,k,r,ru,hu,q=>by simp[aU]at k|.bl _,n,s,A,x,u,Q,I,k,r,ru,hu,q=>by simp[aU]at k|.lst _,n,s,A,x,u,Q,I,k,r,ru,hu,q=>by simp[aU]at k|.dZ,n,s,A,x,u,Q,I,k,r,ru,hu,q=>by simp[aU]at k|.ref _,n,s,A,x,u,Q,I,k,r,ru,hu,q=>by simp[aU]at k|.aX _,n,s,A,x,u,Q,I,k,r,ru,hu,q=>by simp[aU]at k|.fn _ _,n,s,A,x,u,Q,I,k,r,ru,hu,q=>by simp[aU]at k
theorem x5:∀(ds:List D) {n:Nat} {s:Zo} {A:ZY} {vs:List V} {us:List Value} {acc:Array Int} {Q:Array Int->Zo->Prop},Inv X a8 σ H s->jA n ds=true->aj X.kw H ι ds vs->Vals vs us->A.units+n<cLine ->
  (∀tk b,b.toList=acc.toList++Br X.w ds->Q b { s with toks:=tk }) ->
  wpAny (model prog X.w) A (forIn us acc λx r=>do let h <- pyHash x;pure PUnit.unit;pure (abX (r.push h))) Q E s
 | [],n,s,A,vs,us,acc,Q,I,k,r,ru,hu,q=>by simp only[aj]at r;subst r;cases ru;exact Zp (q s.toks acc (by simp[Br]))
 |d::ds,n,s,A,vs,us,acc,Q,I,k,r,ru,hu,q=>by
  simp only[aj]at r;obtain⟨v,i,rfl,e,a⟩:=r;simp only[jA,Zr]at k;cases ru with
  |cons r0 rr =>
   rw[adL];refine Zm (Zm (pY d I k.1 e r0 hu λtk=>Zm (Zp (Zp ?_))));exact x5 ds (I.tok tk) k.2 a rr hu λc b f=>q c b (by simp[f,Br])
end
mutual
theorem rB:∀(d:D) {n m:Nat} {s:Zo} {x:V} {u:Value},Inv X a8 σ H s->aU n d=true->n<=m->Rel X.kw H ι d x->RelV x u->fY s m u
 |.ay,n,m,s,x,u,I,k,hm,r,ru=>by simp only[Rel]at r;subst r;cases ru;intro prog w A E Q q;unfold ae0;exact Zp q|.int i,n,m,s,x,u,I,k,hm,r,ru=>by simp only[Rel]at r;subst r;obtain⟨t,rfl⟩:=ru;intro prog w A E Q q;unfold ae0;exact Zp q
 |.str y,n,m,s,x,u,I,k,hm,r,ru=>by simp only[Rel]at r;subst r;obtain⟨t,rfl⟩:=ru;intro prog w A E Q q;unfold ae0;exact Zp q
 |.tup xs,n+1,m,s,x,u,I,k,hm,r,ru=>by
  simp only[Rel]at r;obtain⟨a,vs,rfl,hq,b⟩:=r;cases ru;obtain⟨au,de,⟨o,h,h2,z,h3⟩,_⟩:=I.tuple hq.sq;simp only[aU]at k;intro prog w A E Q q;have e:s.TypeIs (.ref a) "tuple":=⟨o,h,h2⟩
  obtain⟨m,rfl⟩:∃j,m=j+1:=⟨m-1,by omega⟩
  unfold ae0;refine Zm (aeY e F.slot_tuple_eq.lookup ?_);show wpAny _ _ (isInstance (.ref a) (.type "tuple") >>= _) _ _ s;refine Zm (adn e isSubtype_tuple_tuple ?_);simp only[ZR,ZJ,if_false];refine Zm (ab4 h h3 (Zm ?_));show wpAny _ _ (forIn au.toArray _ _) _ _ s;rw[<- af1];have L_:=vN xs (m:=m) I k (by omega) b de;refine acb _ (λrest r c=>r.1=none/\c=s /\ ∀v∈rest,fY s m v) _ ?_ ?_ _ _ ⟨rfl,rfl,L_⟩
  . rintro v rest r c ⟨b,rfl,f⟩
    refine Zm (f v ZU prog w _ _ _ ?_);simp only[ZR,ZJ,if_false];exact Zp ⟨rfl,rfl,λu l=>f u (Zz _ l)⟩
  . rintro⟨r1,r2⟩ c ⟨b,rfl,_⟩
    simp only at b;subst b;exact Zp q
 |.tup xs,0,m,s,x,u,I,k,hm,r,ru=>by simp[aU]at k|.bl _,n,m,s,x,u,I,k,hm,r,ru=>by simp[aU]at k|.lst _,n,m,s,x,u,I,k,hm,r,ru=>by simp[aU]at k|.dZ,n,m,s,x,u,I,k,hm,r,ru=>by simp[aU]at k|.ref _,n,m,s,x,u,I,k,hm,r,ru=>by simp[aU]at k|.aX _,n,m,s,x,u,I,k,hm,r,ru=>by simp[aU]at k|.fn _ _,n,m,s,x,u,I,k,hm,r,ru=>by simp[aU]at k
theorem vN:∀(ds:List D) {n m:Nat} {s:Zo} {vs:List V} {us:List Value},Inv X a8 σ H s->jA n ds=true->n<=m->aj X.kw H ι ds vs->Vals vs us->∀v∈us,fY s m v
 | [],n,m,s,vs,us,I,k,hm,r,ru=>by simp only[aj]at r;subst r;cases ru;intro v b;simp at b
 |d::ds,n,m,s,vs,us,I,k,hm,r,ru=>by
  simp only[aj]at r;obtain⟨v,e,rfl,b,c⟩:=r;simp only[jA,Zr]at k;cases ru with
  |cons r0 rr =>
   intro z a;rcases Zx.mp a with rfl|a
   . exact rB d I k.1 hm b r0
   . exact vN ds I k.2 hm c rr z a
end
end
mutual
theorem jL:∀(d:D) {n:Nat},aU n d=true->flat d=true/\dep d<=n
 |.ay,n,h=>⟨rfl,aab _⟩|.int _,n,h=>⟨rfl,aab _⟩|.str _,n,h=>⟨rfl,aab _⟩|.tup xs,n+1,h=>by simp only[aU]at h;obtain⟨a,b⟩:=sR xs h;exact⟨a,by simp only[dep];omega⟩
 |.tup xs,0,h=>by simp[aU]at h|.bl _,n,h=>by simp[aU]at h|.lst _,n,h=>by simp[aU]at h|.dZ,n,h=>by simp[aU]at h|.ref _,n,h=>by simp[aU]at h|.aX _,n,h=>by simp[aU]at h|.fn _ _,n,h=>by simp[aU]at h
theorem sR:∀(ds:List D) {n:Nat},jA n ds=true->bt ds=true/\da ds<=n
 | [],n,h=>⟨rfl,aab _⟩|d::ds,n,h=>by simp only[jA,Zr]at h;obtain⟨a,b⟩:=jL d h.1;obtain⟨c,e⟩:=sR ds h.2;exact⟨by simp[bt,a,c],by simp only[da];omega⟩
end
mutual
theorem fJ:∀(d e:D) {n m:Nat},aU n d=true->aU m e=true->(aH d e=true ↔ d=e)
 |.ay,e,n,m,h,k=>by cases e<;>simp_all[aU,aH]|.int _,e,n,m,h,k=>by cases e<;>simp_all[aU,aH]|.str _,e,n,m,h,k=>by cases e<;>simp_all[aU,aH]
 |.tup xs,e,n+1,m,h,k=>by
  cases e with
  |tup ys =>
   cases m with
   |zero=>simp[aU]at k
   |succ m =>
    simp only[aU]at h k;simp only[aH,D.tup.injEq];exact x6 xs ys h k
  |_=>simp_all[aU,aH]
 |.tup xs,e,0,m,h,k=>by simp[aU]at h|.bl _,e,n,m,h,k=>by simp[aU]at h|.lst _,e,n,m,h,k=>by simp[aU]at h|.dZ,e,n,m,h,k=>by simp[aU]at h|.ref _,e,n,m,h,k=>by simp[aU]at h|.aX _,e,n,m,h,k=>by simp[aU]at h|.fn _ _,e,n,m,h,k=>by simp[aU]at h
theorem x6:∀(ds es:List D) {n m:Nat},jA n ds=true->jA m es=true->(gA ds es=true ↔ ds=es)
 | [],es,n,m,h,k=>by cases es<;>simp[gA]|d::ds,[],n,m,h,k=>by simp[gA]|d::ds,e::es,n,m,h,k=>by simp only[jA,Zr]at h k;simp only[gA,Zr,List.cons.injEq,fJ d e h.1 k.1,x6 ds es h.2 k.2]
end
end DK
namespace L3
noncomputable def bh:List D->D->Option D
 |k::v::r,key=>if aH k key=true then some v else bh r key|_,_=>none
noncomputable def bA:List D->D->D->List D
 |k::v::r,key,val=>if aH k key=true then k::val::r else k::v::bA r key val|_,key,val=>[key,val]
noncomputable def tq:List D->D->Nat->Bool
 |k::_::_,key,0=>aH k key|_::_::r,key,i+1=>tq r key i|_,_,_=>false
end L3
namespace DK
open PyProof.Rows L2 L3 SeqAt
inductive Ent (K:KW)(H:Hp)(ι:Ix):List D->List aaf->Prop
 |nil:Ent K H ι [] []
 |cons {k v:D} {kv vv:V} {r:List D} {e:aaf} {es:List aaf}:aU 6 k=true->e.hash=hD K.w k->Rel K H ι k kv->RelV kv e.key->Rel K H ι v vv->RelV vv e.val->Ent K H ι r es->Ent K H ι (k::v::r) (e::es)
theorem Ent.of {K H ι}:∀{es:List aaf} {xs:List D} {vs:List V},Vals vs (pK es)->jB K.w xs es->aj K H ι xs vs->Ent K H ι xs es
 | [],xs,vs,rv,h,r=>by cases h;exact .nil
 |e::es,xs,vs,rv,h,r=>by
  cases h with
  |cons h1 h2 h3 =>
   simp only[aj]at r;obtain⟨a,j,rfl,f,b,k,rfl,i,c⟩:=r;cases rv with
   |cons r1 rv=>cases rv with
    |cons r2 rv=>exact .cons h1 h2 f r1 i r2 (Ent.of rv h3 c)
theorem Ent.out {K H ι}:∀{es:List aaf} {xs:List D},Ent K H ι xs es->jB K.w xs es /\ ∃vs,Vals vs (pK es)/\aj K H ι xs vs
 | [],xs,h=>by cases h;exact⟨.nil,[],.nil,by simp[aj]⟩
 |e::es,xs,h=>by
  cases h with
  | @cons k v kv vv r _ _ h1 h2 h3 h4 h5 h6 h7 =>
   obtain⟨a,vs,b,c⟩:=h7.out;refine⟨.cons h1 h2 a,kv::vv::vs,.cons h4 (.cons h6 b),?_⟩;simp only[aj];exact⟨kv,_,rfl,h3,vv,_,rfl,h5,c⟩
theorem Ent.at {K H ι}:∀{es:List aaf} {xs:List D} {i:Nat} {e:aaf},Ent K H ι xs es->es[i]? = some e->∃k kv,aU 6 k=true/\(cG xs)[i]? = some k/\e.hash=hD K.w k/\Rel K H ι k kv/\RelV kv e.key /\ ∀key,tq xs key i=aH k key
 | [],xs,i,e,h,q=>by simp at q
 |e0::es,xs,i,e,h,q=>by
  cases h with
  |cons h1 h2 h3 h4 h5 h6 h7 =>
   cases i with
   |zero=>simp at q;subst q;exact⟨_,_,h1,rfl,h2,h3,h4,λ_=>rfl⟩
   |succ i =>
    obtain⟨k,kv,a,b,c,d,j,f⟩:=h7.at (i:=i) (by simpa using q);exact⟨k,kv,a,by simpa[cG]using b,c,d,j,λkey=>f key⟩
theorem Ent.len {K H ι}:∀{es:List aaf} {xs:List D},Ent K H ι xs es->(cG xs).length=es.length
 | [],xs,h=>by cases h;rfl
 |e::es,xs,h=>by
  cases h with
  |cons h1 h2 h3 h4 h5 h6 h7=>simp[cG,h7.len]
theorem Ent.none_ {K H ι}:∀{es:List aaf} {xs:List D} {key:D},Ent K H ι xs es->(∀i,i<es.length->tq xs key i=false)->bh xs key=none /\ ∀v,bA xs key v=xs ++ [key,v]
 | [],xs,key,h,q=>by cases h;exact⟨rfl,λ_=>rfl⟩
 |e::es,xs,key,h,q=>by
  cases h with
  |cons h1 h2 h3 h4 h5 h6 h7 =>
   have c:=q 0 (by simp);simp only[tq]at c;obtain⟨a,b⟩:=h7.none_ (key:=key) λi f=>by have:=q (i+1) (by simpa using f);simpa[tq]using this
   exact⟨by simp[bh,c,a],λv=>by simp[bA,c,b]⟩
theorem Ent.uj {K H ι}{key:D}:∀{es:List aaf} {xs:List D} {i:Nat},Ent K H ι xs es->i<es.length->tq xs key i=true->(∀j,j<es.length->tq xs key j=true->j=i) ->
  ∃e v vv,es[i]? = some e/\bh xs key=some v/\Rel K H ι v vv/\RelV vv e.val/\cG (bA xs key v)=cG xs /\
   ∀(w:D) (wv:V) (u:Value),Rel K H ι w wv->RelV wv u->Ent K H ι (bA xs key w) (es.modify i λe=>{ e with val:=u })/\cG (bA xs key w)=cG xs
 | [],xs,i,h,hi,q,un=>by simp at hi
 |e0::es,xs,i,h,hi,q,un=>by
  cases h with
  | @cons k v kv vv r _ _ h1 h2 h3 h4 h5 h6 h7 =>
   cases i with
   |zero =>
    simp only[tq]at q;refine⟨e0,v,vv,rfl,by simp[bh,q],h5,h6,by simp[bA,q,cG],λw wv u l s=>⟨?_,by simp[bA,q,cG]⟩⟩;simp only[bA,q,if_true,List.modify_zero_cons];exact .cons h1 h2 h3 h4 l s h7
   |succ i =>
    have o:aH k key=false:=by
     cases hk:aH k key with
     |false=>rfl|true=>exact absurd (un 0 (by simp) (by simpa[tq]using hk)) (by omega)
    obtain⟨e,x,y,a,b,c,d,f,g⟩:=h7.uj (i:=i) (by simpa using hi) (by simpa[tq]using q) λj hj z=>by have:=un (j+1) (by simpa using hj) (by simpa[tq]using z);omega
    refine⟨e,x,y,by simpa using a,by simp[bh,o,b],c,d,by simp[bA,o,cG,f],λw wv u l s=>?_⟩;obtain⟨g1,g2⟩:=g w wv u l s;simp only[bA,o,ZJ,if_false,List.modify_succ_cons];exact⟨.cons h1 h2 h3 h4 h5 h6 g1,by simp[cG,g2]⟩
theorem Ent.push {K H ι}{k v:D}{l o:V}{e:aaf}(c:aU 6 k=true)(f:e.hash=hD K.w k)(r:Rel K H ι k l)(j:RelV l e.key)(i:Rel K H ι v o)(q:RelV o e.val):
  ∀{es:List aaf} {xs:List D},Ent K H ι xs es->Ent K H ι (xs ++ [k,v]) (es ++ [e])/\cG (xs ++ [k,v])=cG xs ++ [k]
 | [],xs,h=>by cases h;exact⟨.cons c f r j i q .nil,rfl⟩
 |e0::es,xs,h=>by
  cases h with
  |cons a1 a2 a3 a4 a5 a6 a7 =>
   obtain⟨a,b⟩:=Ent.push c f r j i q a7;exact⟨.cons a1 a2 a3 a4 a5 a6 a,by simp[cG,b]⟩
section
variable {X:Cx}{a8:List (Addr×Obj)}{σ:L2.St}{H:Hp}{ι:Ix}{s:Zo}
theorem BZ (I:Inv X a8 σ H s){A:ZY}{d e:D}{x y:V}{u v:Value}(fd:flat d=true)(j:flat e=true)(rd:Rel X.kw H ι d x)(l:Rel X.kw H ι e y)(i:RelV x u)(k:RelV y v)(hu:A.units+dep d<cLine):EqAt A s u v (aH d e):=by refine pU (vp I d e (A:=A) fd j rd l i k hu) (λc=>?_) (λb t a=>Rel.xP rd (by rw[a]at i;exact i));subst c;have f:=i.inj k;subst f;have h:=Rel.inj I d e fd j rd l;subst h;exact jH d fd
theorem kQ (I:Inv X a8 σ H s){A:ZY}(hu:A.units+8<cLine){xs:List D}{es:List aaf}(en:Ent X.kw H ι xs es)(nd:(cG xs).Nodup){key:D}{x:V}{u:Value}(C:aU 6 key=true)(r:Rel X.kw H ι key x)(B:RelV x u):
  F8 A s u (hD X.w key) es.toArray (tq xs key) where
 eq:=λi e he hh=>by obtain⟨k,o,a,b,c,d,f,g⟩:=en.at (i:=i) (by simpa using he);rw[g key];obtain⟨f1,f2⟩:=jL k a;exact BZ I f1 (jL key C).1 d r f B (by omega)
 hs:=λi e he ht=>by obtain⟨k,o,a,b,c,d,f,g⟩:=en.at (i:=i) (by simpa using he);rw[g key]at ht;rw[c,(fJ k key a C).mp ht]
 qk:=rB key I C (by omega) r B
 qe:=λe he=>by obtain⟨i,l⟩:=ady.mp (by simpa using he);obtain⟨k,o,a,b,c,d,f,g⟩:=en.at l;exact rB k I a (by omega) d f
 rf:=λe he ek=>by obtain⟨i,l⟩:=ady.mp (by simpa using he);obtain⟨k,o,a,b,c,d,f,g⟩:=en.at l;rw[ek]at f;have:=f.inj B;subst this;rw[c,Rel.inj I k key (jL k a).1 (jL key C).1 d r]
 un:=λi j l hj ti tj=>by
  obtain⟨e,he⟩:∃e,es[i]? = some e:=⟨_,Zn (by simpa using l)⟩
  obtain⟨e',WX⟩:∃e,es[j]? = some e:=⟨_,Zn (by simpa using hj)⟩
  obtain⟨k,o,a,b,c,d,f,g⟩:=en.at he;obtain⟨k',WY,a',b',c',d',f',g'⟩:=en.at WX;rw[g key]at ti;rw[g' key]at tj;rw[(fJ k key a C).mp ti]at b;rw[(fJ k' key a' C).mp tj]at b';exact(aer (Zq.mp b).1 nd).mp (b.trans b'.symm)
 st:=λy tk e0 i e he h=>by
  subst e0;obtain⟨k,o,a,b,c,d,f,g⟩:=en.at (i:=i) (by simpa using he);rw[g key];have kx:key = .str y:=by
   cases key with
   |str z=>simp only[Rel]at r;subst r;obtain⟨t,q⟩:=B;cases q;rfl
   |ay=>simp only[Rel]at r;subst r;cases B|int z=>simp only[Rel]at r;subst r;obtain⟨t,q⟩:=B;cases q
   |tup z=>simp only[Rel]at r;obtain⟨_,_,rfl,_⟩:=r;cases B
   |_=>simp[aU]at C
  subst kx;cases k with
  |str z =>
   simp only[Rel]at d;subst d;obtain⟨t,q⟩:=f;rw[q];simp only[Value.isStr,aH]
  |ay=>simp only[Rel]at d;subst d;rw[f]at h;cases h|int z=>simp only[Rel]at d;subst d;obtain⟨t,q⟩:=f;rw[q]at h;cases h
  |tup z=>simp only[Rel]at d;obtain⟨_,_,rfl,_⟩:=d;rw[show e.key=_ from f]at h;cases h
  |_=>simp[aU]at a
end
section
variable {X:Cx}{a8:List (Addr×Obj)}{σ:L2.St}{H:Hp}{ι:Ix}{s:Zo}{A:ZY}{E:Value->Zo->Prop}{a:Addr}{xs:List D}{es:List aaf}{c:Nat}{key:D}{x:V}{u:Value}
theorem B0 (I:Inv X a8 σ H s)(b:H a=some (dO a es c)):s.heap.get? a=some { cls:=.type "dict",data:=.dict es.toArray (es.length-c) }:=
 (show dW X.prog X.w H s.heap a (dO a es c) from I.aS a _ b).1
theorem uk (I:Inv X a8 σ H s)(b:H a=some (dO a es c)):∃ep,s.heap.get? a=some { cls:=.type "dict",data:=.dict es.toArray ep }:=⟨_,B0 I b⟩
theorem zU (I:Inv X a8 σ H s)(b:H a=some (dO a es c)):s.TypeIs (.ref a) "dict":=let⟨_,h⟩:=uk I b;⟨_,h,rfl⟩
theorem sT (I:Inv X a8 σ H s)(hu:A.units+8<cLine)(J:H a=some (dO a es c))(en:Ent X.kw H ι xs es)(nd:(cG xs).Nodup)(C:aU 6 key=true)(r:Rel X.kw H ι key x)(B:RelV x u){Q:Option Value->Zo->Prop}
   (L:bh xs key=none->∀tk,Q none { s with toks:=tk }) (M:∀v,bh xs key=some v->∀tk vv z,Rel X.kw H ι v vv->RelV vv z->Q (some z) { s with toks:=tk }):wpAny (model X.prog X.w) A (aeE a u) Q E s:=by
 obtain⟨ep,h⟩:=uk I J;unfold aeE;refine aaa (Zm (pY key I C r B (by omega) λtk=>Zm (rA (s:={ s with toks:=tk }) h rfl (kQ (I.tok tk) hu en nd C r B) (λz=>?_) (λi b f=>?_))))
 . exact Zp (L (en.none_ λi b=>z i (by simpa using b)).1 tk)
 . have K:=kQ (I.tok tk) hu en nd C r B (A:=A)
   obtain⟨e,v,vv,y,q,k,l,_⟩:=en.uj (key:=key) (by simpa using b) f λj o z=>(K.un i j b (by simpa using o) f z).symm;refine Zm (aeq (s:={ s with toks:=tk }) h rfl ?_);have:es.toArray[i]? = some e:=by simpa using y
   rw[this];exact Zp (M v q tk vv _ k l)
theorem B1 (I:Inv X a8 σ H s)(K:H a=some (dO a es c))(en:Ent X.kw H ι xs es)(nd:(cG xs).Nodup)(B:aU 6 key=true)(r:Rel X.kw H ι key x)(C:RelV x u){v:D}(J:bh xs key=some v):
   ∃vv z,Rel X.kw H ι v vv/\RelV vv z /\ ∀{A:ZY} {E:Value->Zo->Prop} {Q:Option Value->Zo->Prop},A.units+8<cLine->(∀tk,Q (some z) { s with toks:=tk })->wpAny (model X.prog X.w) A (aeE a u) Q E s:=by
 obtain⟨ep,ho⟩:=uk I K;have hex:∃i,i<es.length/\tq xs key i=true:=by
   refine aeA λno=>?_;have:=(en.none_ (key:=key) λi b=>by
    cases h:tq xs key i with
    |false=>rfl|true=>exact absurd ⟨i,b,h⟩ no).1
   rw[J]at this;cases this
 obtain⟨i,b,f⟩:=hex;have un:∀j,j<es.length->tq xs key j=true->j=i:=λj o z=>by obtain⟨k,kv,a1,y,_,_,_,g⟩:=en.at (Zn b);obtain⟨k',WY,a2,l,_,_,_,g'⟩:=en.at (Zn o);rw[g]at f;rw[g']at z;rw[(fJ k key a1 B).mp f]at y;rw[(fJ k' key a2 B).mp z]at l;exact(aer (Zq.mp l).1 nd).mp (l.trans y.symm)
 obtain⟨e,v',vv,h1,h2,h3,h4,_⟩:=en.uj (key:=key) b f un;rw[J]at h2;cases h2;refine⟨vv,e.val,h3,h4,fun {A E Q} hu q=>?_⟩;unfold aeE;refine aaa (Zm (pY key I B r C (by omega) λtk=>Zm (rA (s:={ s with toks:=tk }) ho rfl (kQ (I.tok tk) hu en nd B r C) (λz=>?_) (λj o tj=>?_))))
 . have:=z i (by simpa using b);rw[f]at this;cases this
 . have:=un j (by simpa using o) tj
   subst this;refine Zm (aeq (s:={ s with toks:=tk }) ho rfl ?_);have:es.toArray[j]? = some e:=by simpa using h1
   rw[this];exact Zp (q tk)
theorem sU (I:Inv X a8 σ H s)(hu:A.units+8<cLine)(N:H a=some (dO a es c))(O:c<=es.length)(hz:es.length<=ZM)(en:Ent X.kw H ι xs es)(nd:(cG xs).Nodup)(B:aU 6 key=true)(r:Rel X.kw H ι key x)(C:RelV x u){v:D}{J:V}{z:Value}(L:Rel X.kw H ι v J)(M:RelV J z){Q:Unit->Zo->Prop}
   (h:∀tk h' dC,Ent X.kw H ι (bA xs key v) dC->(cG (bA xs key v)).Nodup->dC.length<=es.length+1->c<=dC.length->h'.get? a=some { cls:=.type "dict",data:=.dict dC.toArray (dC.length-c) }->abD a s.heap h'->Q () { s with heap:=h',toks:=tk }):
   wpAny (model X.prog X.w) A (dictSet a u z) Q E s:=by
 have f:=B0 I N;unfold dictSet;refine aaa (Zm (pY key I B r C (by omega) λtk=>?_));unfold dictSetHashed;refine aaa (Zm (rA (s:={ s with toks:=tk }) f rfl (kQ (I.tok tk) hu en nd B r C) (λy=>?_) (λi b ht=>?_)))
 . obtain⟨_,Rx⟩:=en.none_ (key:=key) λi b=>y i (by simpa using b)
   obtain⟨e1,e2⟩:=Ent.push (e:=⟨hD X.w key,u,z⟩) B rfl r C L M en;refine Zm (abf (wpAny_updateDictKeys (hz:=by simpa using hz) (s:={ s with toks:=tk }) f rfl ?_));refine h tk _ (es ++ [⟨hD X.w key,u,z⟩]) (by rw[Rx];exact e1) ?_ (by simp) (by simp;omega) ?_ (aa0 ..)
   . rw[Rx,e2,abr]
     refine⟨nd,by simp,λk LL k' x8=>?_⟩;simp at x8;subst x8;rintro rfl;obtain⟨i,b,e⟩:=aaW.mp LL;have l:i<es.length:=by rw[<- en.len];exact b
     obtain⟨k,kv,a1,o,_,_,_,g⟩:=en.at (Zn l);rw[Zn b,e]at o;cases o;have:=y i (by simpa using l);rw[g,(fJ _ _ B B).mpr rfl]at this;cases this
   . have q:=aaC (h:=s.heap) (agQ (·.push ⟨hD X.w key,u,z⟩)) f rfl
     rw[q];simp[agQ];omega
 . have K:=kQ (I.tok tk) hu en nd B r C (A:=A)
   obtain⟨e,v0,YS,h1,h2,h3,h4,_,h5⟩:=en.uj (key:=key) (by simpa using b) ht λj hj y=>(K.un i j b (by simpa using hj) ht y).symm;obtain⟨h6,h7⟩:=h5 v J z L M;refine Zm (abf (Zm (wpAny_updateDict (s:={ s with toks:=tk }) f rfl ?_)));refine wpAny_point ?_;refine h tk _ (es.modify i λe=>{ e with val:=z }) h6 (by rw[h7];exact nd) (by simp) (by simpa using O) ?_ (aa0 ..)
   have q:=aaC (h:=s.heap) (Obj.mapDict (·.modify i λe=>{ e with val:=z })) f rfl
   rw[q];simp[Obj.mapDict]
end
end DK
namespace L3
open PyProof.Rows L2 SeqAt DK
noncomputable def av (b a:D)(g:G):Option (D×G):=match b with
 |.aX n=>(g[n]?).bind λxs=>if aU 6 a=true then(bh xs a).map λd=>(d,g)else none|b=>d9 b a g
section
variable {X:Cx}
theorem Iv (hu:X.A.units+64<cLine):mh X (dH X.kw av):=by
 intro value slice a8 s σ H x y v u Q I o i q h;obtain⟨ι,g,d1,f,d,g',G0,e,k,q,p⟩:=q;cases d1 with
 |aX n =>
  simp only[av]at q;obtain⟨xs,hx,q⟩:=bind_some q;split at q
  . rename_i hk
    simp only[Rel]at e;obtain⟨a,rfl,ha⟩:=e;cases o;obtain⟨es,vs,c,l,sW,ie,rv,hh,nd,sy,sz,rl⟩:=G0.xI hx ha;have en:=Ent.of rv hh rl;cases hv:bh xs f with
    |none=>rw[hv]at q;cases q
    |some dv =>
     rw[hv]at q;cases q;obtain⟨j,z,h1,r,h3⟩:=B1 I l en nd hk k i hv;have b:=zU I l;refine ach (x:=z) b ada.lookup ?_ h;unfold ac2;refine aaa (Zm (acj b (by decide) ?_));refine Zm (aaw (name:=abl "__getitem__") b ada (aai ada b entry_dict_getitem ?_ (args_dict_getitem _ _)));show wpAny _ _ (aeE a u >>= _) _ _ s;refine Zm (h3 (by rw[in1_units];omega) λtk=>?_);exact Zp ⟨z,rfl,Zp ⟨rfl,j,H,I.tok tk,r,p H ι j Ext.refl G0 h1⟩⟩
  . cases q
 |_=>exact H_ value slice a8 s σ H x y v u Q I o i ⟨ι,g,_,f,d,g',G0,e,k,q,p⟩ h
theorem Ma {a b:Expr}{f e:FE}{c:Pos}(hu:X.A.units+64<cLine)(i:DE X a f)(j:DE X b e)(k:nH b:=by exact λ_ _=>rfl):DE X (.Subscript a b c) (ak av f e):=.of (
 PE.imp (Fu (Iv hu) i.un j.un k) λσ H Q h=>pN h)
end
noncomputable def F9 (a:D)(xs:List D):Option Bool:=if(flat a&&bt xs&&decide (da xs<=50))=true then some (xs.any λy=>aH y a)else none
noncomputable def oC (b a:D)(g:G):Option Bool:=match a with
 |.aX n=>(g[n]?).bind λxs=>if aU 6 b=true then some (bh xs b).isSome else none|a=>(bb a g).bind (F9 b)
noncomputable def lM (c a:D)(g:G):Option (D×G):=(oC c a g).map λb=>(.bl b,g)
noncomputable def rC (c a:D)(g:G):Option (D×G):=(oC c a g).map λb=>(.bl (!b),g)
theorem B2 {c a:D}{g:G}{b:Bool}(h:oC c a g=some b):(∃n,a = .aX n) \/ ∃xs,bb a g=some xs/\F9 c xs=some b:=by
 cases a with
 |aX n=>exact .inl ⟨n,rfl⟩|_=>simp only[oC]at h;exact .inr (bind_some h)
section
variable {X:Cx}
theorem sX:∀{xs:List D} {i:Nat} {d:D},bt xs=true->xs[i]? = some d->flat d=true/\dep d<=da xs
 | [],i,d,h,e=>by simp at e|x::xs,0,d,h,e=>by simp at e;subst e;simp only[bt,Zr]at h;exact⟨h.1,by simp only[da];omega⟩|x::xs,i+1,d,h,e=>by simp only[bt,Zr]at h;obtain⟨a,b⟩:=sX (i:=i) h.2 (by simpa using e);exact⟨a,by simp only[da];omega⟩
theorem vO {a8:List (Addr×Obj)}{σ:L2.St}{H:Hp}{s:Zo}{ι:Ix}(I:Inv X a8 σ H s){A:ZY}{key:D}{x:V}{u:Value}(B:flat key=true)(r:Rel X.kw H ι key x)(C:RelV x u){n:Nat}(hu:A.units+n<cLine):
   ∀{xs:List D} {vs:List V} {us:List Value},bt xs=true->da xs<=n->aj X.kw H ι xs vs->Vals vs us->∃e:Value->Bool,(∀y,y∈us->EqAt A s y u (e y))/\us.any e=xs.any (λy=>aH y key):=by
 classical
 intro xs vs us j hn rl l;refine⟨λy=>decide (∃d v,Rel X.kw H ι d v/\RelV v y/\flat d=true/\aH d key=true),λy hy=>?_,?_⟩
 . obtain⟨i,hi,e⟩:=aaW.mp hy
   have WZ:i<vs.length:=by rw[l.length];exact hi
   have F_:i<xs.length:=by rw[rl.length];exact WZ
   obtain⟨v,h1,f⟩:=rl.get (Zn F_);obtain⟨z,q,o⟩:=l.get h1;rw[Zn hi,e]at q;cases q;obtain⟨f1,f2⟩:=sX j (Zn F_);have k:=BZ I f1 B f r o C (A:=A) (by omega);have:decide (∃d v,Rel X.kw H ι d v/\RelV v y/\flat d=true/\aH d key=true)=aH xs[i] key:=by
    cases hq:aH xs[i] key with
    |true=>exact decide_eq_true ⟨_,_,f,o,f1,hq⟩
    |false =>
     refine decide_eq_false ?_;rintro⟨d,v',a,b,c,h⟩;have:=b.inj o;subst this;rw[Rel.inj I d _ c f1 a f,hq]at h;cases h
   show EqAt A s y u (decide _);rw[this];exact k
 . induction xs generalizing vs us with
   |nil=>simp only[aj]at rl;subst rl;cases l;rfl
   |cons d ds ih =>
    simp only[aj]at rl;obtain⟨v,vr,rfl,f,hr⟩:=rl;cases l with
    |cons r0 rr =>
     simp only[bt,Zr]at j;simp only[da]at hn;rw[aaA,aaA,ih j.2 (by omega) hr rr];congr 1;cases hq:aH d key with
     |true=>exact decide_eq_true ⟨_,_,f,r0,j.1,hq⟩
     |false =>
      refine decide_eq_false ?_;rintro⟨d',v',a,b,c,h⟩;have:=b.inj r0;subst this;rw[Rel.inj I d' _ c j.1 a f,hq]at h;cases h
theorem x9 (B:Bool)(hu:X.A.units+64<cLine):bK X (aaB (if B then .NotIn else .In)) (dH X.kw λd1 d2 g=>(oC d1 d2 g).map λb=>(.bl (if B then !b else b),g)):=by
 intro a8 s σ H x y v u Q I rx ry q;obtain⟨ι,g,d1,d2,d,g',G0,r1,r2,q,p⟩:=q;obtain⟨b,h,q⟩:=Zv.mp q;cases q;have fin:∀f,EP X a8 σ Q (.bool (if B then !b else b)) { s with toks:=f }:=λf=>⟨.bl _,H,I.tok f,rfl,p H ι _ Ext.refl G0 (by simp[Rel])⟩
 rcases B2 h with⟨n,rfl⟩|⟨xs,hx,h⟩
 . simp only[oC]at h
   obtain⟨xs,hx,h⟩:=bind_some h;split at h
   . rename_i hk
     cases h;simp only[Rel]at r2;obtain⟨a,rfl,ha⟩:=r2;cases ry;obtain⟨es,vs,c,hH,sW,ie,rv,hh,nd,sy,sz,rl⟩:=G0.xI hx ha;have en:=Ent.of rv hh rl;have hT:=zU I hH;have core:∀{Q':Bool->Zo->Prop},(∀f,Q' (bh xs d1).isSome { s with toks:=f })->wpAny (model X.prog X.w) X.A (contains (.ref a) v) Q' X.xe s:=fun {Q'} fin=>by
       unfold contains;refine aaa (Zm (aeY hT aed.lookup ?_));refine aaD (λz=>by rw[aeP]at z;cases z) (λ_=>?_);refine Zm (wpAny_callSpecialUnlessNone?_slot (name:=abl "__contains__") hT aed (aai aed hT entry_dict_contains ?_ (args_dict_contains _ _)));show wpAny _ _ (aeE a v >>= _) _ _ s;refine Zm (sT I (by rw[in1_units];omega) hH en nd hk r1 rx (λhn f=>?_) (λw hs f vv z _ _=>?_))
       . rw[hn]at fin
         show wpAny _ _ (Builtin.Dict.pendingKey? a v >>= _) _ _ _;exact Zm (wpAny_pendingKey_other sy (Zp ⟨_,rfl,abH (fin f)⟩))
       . rw[hs]at fin
         show wpAny _ _ (ret (.bool true)) _ _ _;exact Zp ⟨_,rfl,abH (fin f)⟩
     cases B with
     |false=>exact(show wpAny _ _ (do return aet (<- contains (.ref a) v)) _ _ s from Zm (core λf=>Zp (fin f)))
     |true=>exact(show wpAny _ _ (do return aet (!(<- contains (.ref a) v))) _ _ s from Zm (core λf=>Zp (fin f)))
   . cases h
 . unfold F9 at h
   split at h
   . rename_i z
     simp only[Zr,decide_eq_true_eq]at z;cases h;obtain⟨a,vs,rfl,k,hr⟩:=j4 G0 r2 hx;cases ry;rcases k with k|k
     . obtain⟨au,r,l,_⟩:=I.list k
       obtain⟨e,j,o⟩:=vO I (A:=X.A.in1) z.1.1 r1 rx (n:=50) (by rw[in1_units];omega) z.1.2 z.2 hr r;have fin:=fin s.toks;rw[<- o]at fin;cases B with
       |false=>exact in_listAt e l.isList (λy i=>j y (by simpa using i)) (by simpa using fin)|true=>exact notIn_listAt e l.isList (λy i=>j y (by simpa using i)) (by simpa using fin)
     . obtain⟨au,r,l,_⟩:=I.tuple k
       obtain⟨e,j,o⟩:=vO I (A:=X.A.in1) z.1.1 r1 rx (n:=50) (by rw[in1_units];omega) z.1.2 z.2 hr r;have fin:=fin s.toks;rw[<- o]at fin;cases B with
       |false=>exact in_tupleAt e l (λy i=>j y (by simpa using i)) (by simpa using fin)|true=>exact notIn_tupleAt e l (λy i=>j y (by simpa using i)) (by simpa using fin)
   . cases h
theorem Mb (hu:X.A.units+64<cLine):bK X (aaB .In) (dH X.kw lM):=x9 false hu
theorem B3 (hu:X.A.units+64<cLine):bK X (aaB .NotIn) (dH X.kw rC):=x9 true hu
end
section
variable {X:Cx}{a8:List (Addr×Obj)}{σ:L2.St}{H:Hp}{ι:Ix}{s:Zo}{g:G}{a:Addr}{n:Nat}{xs:List D}{es:List aaf}{c:Nat}
theorem vP (I:Inv X a8 σ H s)(r:H a=some (dO a es c)){j:List aaf}{h':Heap}{tk:Nat}(l:h'.get? a=some { cls:=.type "dict",data:=.dict j.toArray (j.length-c) })(y:abD a s.heap h'):
  Inv X a8 σ (upd H a (dO a j c)) { s with heap:=h',toks:=tk }:=by
 refine I.write (x:=a) (e:=a) (o:=dO a j c) (t':=tk) (by rw[r];exact True.intro) (.inl rfl) (λb u f q=>?_) ⟨_,l⟩ ⟨l,⟨_,l⟩,λi h q k=>k _ q⟩;rw[y.2 b f];exact q
theorem vQ (G0:aw X.kw H ι g)(o:d5 ι n a true)(l:ι.kd n=c+1)(k:H a=some (dO a es c)){j:List D}{i:List aaf}(en:Ent X.kw H ι j i)(nd:(cG j).Nodup)(q:(a == ace)=false)(r:c<=i.length)(sz:i.length<=ZM):
  aw X.kw (upd H a (dO a i c)) ι (g.set n j):=by
 obtain⟨h,e,f,b⟩:=en.out;exact G0.KY o k (by rw[l];exact .d c i e r f h nd q sz) b
end
noncomputable def oD (xs:List D):Bool:=aA (xs.length / 2+1)
noncomputable def kq (o i v:D)(g:G):Option G:=match o with
 |.aX n=>(g[n]?).bind λxs=>if(aU 6 i&&oD xs)=true then some (g.set n (bA xs i v))else none|o=>putD o i v g
inductive Ga (K:KW)(o i v:V)(H:Hp)(Q:Hp->Prop):Prop
 |mk (ι:Ix) (g:G) (d1 d2 d3:D) (g':G) (h0:aw K H ι g) (h1:Rel K H ι d1 o) (h2:Rel K H ι d2 i) (h3:Rel K H ι d3 v) (h4:kq d1 d2 d3 g=some g') (h5:∀H' ι',Ext H ι H' ι'->aw K H' ι' g'->Q H'):Ga K o i v H Q
theorem x_ {K H ι}{xs:List D}{es:List aaf}(en:Ent K H ι xs es):xs.length=2*es.length:=by
 induction en with
 |nil=>rfl|cons _ _ _ _ _ _ _ ih=>simp[ih];omega
section
variable {X:Cx}
theorem Iw (hu:X.A.units+64<cLine):DB X (Ga X.kw):=by
 intro a8 s σ H o i v ov iv u Q I ro ri rv q;obtain⟨ι,g,d1,d2,d3,g',G0,l,y,r3,q,p⟩:=q;cases d1 with
 |aX n =>
  simp only[kq]at q;obtain⟨xs,e,q⟩:=bind_some q;split at q
  . rename_i x
    simp only[Zr]at x;cases q;simp only[Rel]at l;obtain⟨a,rfl,b⟩:=l;cases ro;obtain⟨es,vs,c,f,sW,ie,Mc,hh,nd,sy,sz,rl⟩:=G0.xI e b;have z:=Ent.of Mc hh rl;have h:=zU I f;have hz:=aA.le x.2;rw[x_ z]at hz;unfold af8;refine aaa (Zm (acj h (by decide) ?_));refine Zm (aaw (name:=abl "__setitem__") h slot_dict_setitem (aai slot_dict_setitem h entry_dict_setitem ?_ (args_dict_setitem _ _ _)));show wpAny _ _ (Builtin.Dict.notOrdered "__setitem__" ⟨[.ref a,iv,u],[]⟩ >>= _) _ _ s;refine Zm (afo h ?_);show wpAny _ _ (dictSet a iv u >>= _) _ _ s;refine Zm (sU I (by rw[in1_units];omega) f ie sz z nd x.1 y ri r3 rv λtk h' dC e1 e2 e3 e0 e4 e5=>Zp ⟨.none,rfl,Zp ?_⟩);exact⟨_,vP I f e4 e5,p _ ι (Ext.put b f) (vQ G0 b sW f e1 e2 sy e0 (by omega))⟩
  . cases q
 |ref n =>
  refine set_list a8 s σ H o i v ov iv u Q I ro ri rv ?_;simp only[kq,putD]at q;cases d2 with
  |int k =>
    simp only[Rel]at l y;obtain⟨a,rfl,b⟩:=l;subst y;dsimp only at q;cases e:g[n]? with
    |none=>rw[e]at q;cases q
    |some xs =>
     rw[e]at q;dsimp only at q;cases hj:kC xs.length k with
     |none=>rw[hj]at q;cases q
     |some j =>
      rw[hj]at q;cases q;obtain⟨vs,r,hr⟩:=G0.at e b;exact⟨a,vs,k,j,rfl,rfl,r,by rw[<- hr.length];exact hj,p _ ι (Ext.put b r) (G0.put b r (aj.set r3 j hr))⟩
  |_=>cases q
 |_=>cases q
noncomputable def iq (c b:FE):FG:=λv σ g=>(c σ g).bind λr=>(b σ r.2).bind λq=>(kq r.1 q.1 v q.2).map λa=>(σ,a)
theorem Iy {o i:Expr}{E C:FE}{B:Pos}(hu:X.A.units+64<cLine)(I:DE X o E)(K:DE X i C)
  (J:∀v,acF (.Subscript o i B) X.env v=(do
   let ov <- ab3 [v] (eval o X.env);let iv <- ab3 [v,ov] (eval i X.env)
   afe B
   ab3 [v,ov,iv] (af8 ov iv v)
   release [v,ov,iv] []):=by intro _;rfl):DG X (.Subscript o i B) (iq E C):=.of (PG.imp (JX I.un K.un (Iw hu) J) λv σ H Q h=>by
 obtain⟨ι,σd,g,d,cj,z,G0,S0,r,h,p⟩:=h;obtain⟨⟨s,g1⟩,h1,h⟩:=bind_some h;obtain⟨⟨d2,g2⟩,f,h⟩:=bind_some h;refine tD.bind G0 S0 h1 λH1 ι1 v1 c y j u=>?_;refine tD.bind y j f λH2 l v2 a G2 S2 r2=>?_;obtain⟨g3,q,h⟩:=Zv.mp h;cases h;exact⟨l,g2,s,d2,d,z,G2,Rel.ext a _ u,r2,Rel.ext (c.trans a) _ r,q,λe k b x=>p e k σ ((c.trans a).trans b) x (S2.ext b)⟩)
end
inductive Ry (K:KW)(ig:D->Bool)(m:D->List D->G->Option (D×G))(x:V)(xs:List V)(H:Hp)(Q:VK):Prop
 |mk (ι:Ix) (g:G) (d:D) (ds:List D) (d':D) (g':G) (h0:aw K H ι g) (h1:Rel K H ι d x) (h2:aj K H ι ds xs) (h3:ig d=true) (h4:m d ds g=some (d',g')) (h5:fF K H ι d' g' Q):Ry K ig m x xs H Q
structure MR (X:Cx)(T:String)(name:Str)(id:String)(ig:D->Bool)(m:D->List D->G->Option (D×G)):Prop where
 pa:PlainAttrs T
 slot:Slot T name id
 ty:typeOf (.builtin id)=pure (.type "method_descriptor")
 is:∀{a8:List (Addr×Obj)} {σ:L2.St} {H:Hp} {s:Zo} {ι:Ix} {g:G} {d:D} {x:V} {v:Value},Inv X a8 σ H s->aw X.kw H ι g->Rel X.kw H ι d x->RelV x v->ig d=true->s.TypeIs v T /\ ∀a,v = .ref a->∃ob,s.heap.get? a=some ob/\ob.dict=none
 run:Kt X id (Ry X.kw ig m)
noncomputable def iu (a:D->Bool)(m:D->List D->G->Option (D×G))(b:FE)(fr:FA):FE:=λσ g=>(b σ g).bind λr=>if a r.1=true then(fr σ r.2).bind λq=>m r.1 q.1 q.2 else none
section
variable {X:Cx}{T:String}{name:Str}{id:String}{ig:D->Bool}{m:D->List D->G->Option (D×G)}{o e:Expr}{es:List Expr}{fo:FE}{fr:FA}{apos c_:Pos}
theorem Md (R:MR X T name id ig m)(B:DE X o fo)(J:DA X (e::es) fr)(A:adl o name X.env (eval o X.env)=eval o X.env:=by rfl)
   (C:((abp c_ (ZO (e::es) X.env)).all (λx=>!x.1)&&(backToKw c_ (agn [] X.env)).all (λx=>x.1.isSome)
    && decide ((e::es).length+([]:List adW).length+(if([]:List adW).isEmpty then 0 else 1)<30))=true:=by rfl)
   (K:(apos.endLine == c_.line)=true:=by rfl) (L:ZO (e::es) X.env=(false,eval e X.env)::ZO es X.env:=by rfl) (E:(abp c_ (ZO es X.env)).any (·.1)=false:=by rfl):
   DE X (.Call (.Attribute o name apos) (e::es) [] c_) (iu ig m fo fr):=.of (by
 intro a8 s σ H Q I h;obtain⟨ι,σd,g,d,g',G0,S0,h,p⟩:=h;obtain⟨⟨d1,g1⟩,h1,h⟩:=bind_some h;dsimp only at h;split at h
 . rename_i z
   obtain⟨⟨ds,g2⟩,h2,h⟩:=bind_some h;refine ae5 A C K rfl (aW (B.un a8 s σ H (λx H1=>∃a,Ext H ι H1 a/\aw X.kw H1 a g1/\bH X.kw H1 a σd σ/\Rel X.kw H1 a d1 x) I (tD.bind G0 S0 h1 λH1 a v q j l i=>⟨a,q,j,l,i⟩)) λv s1 ⟨x,H1,I1,rx,a,q,j,l,i⟩=>?_);obtain⟨t1,t2⟩:=R.is I1 j i rx z;refine⟨T,id,R.pa,R.slot,R.ty,t1,t2,?_⟩;have y:=J.un c_ a8 s1 σ H1 _ I1 (ib.bind j l h2 λc b f k r S2 u=>(⟨b,k,r,u⟩:(λ(f:List V) (c:Hp)=>∃b,Ext H1 a c b/\aw X.kw c b g2/\aj X.kw c b ds f) f c));rw[L]at y ⊢
   refine ade (by show(false||(abp c_ (ZO es X.env)).any (·.1))=false;rw[E]<;>rfl) (afs ?_)
   refine aW y λus s2 ⟨f,c,I2,u,b,k,r,rs⟩=>?_;exact R.run a8 s2 σ c x f v us Q I2 rx u ⟨b,g2,d1,ds,d,g',r,Rel.ext k _ i,rs,z,h,p.mono (q.trans k)⟩
 . cases h)
theorem Iz (R:MR X T name id ig m)(C:DE X o fo)(A:adl o name X.env (eval o X.env)=eval o X.env:=by rfl)(B:(apos.endLine == c_.line)=true:=by rfl):
   DE X (.Call (.Attribute o name apos) [] [] c_) (iu ig m fo ag):=.of (by
 intro a8 s σ H Q I h;obtain⟨ι,q,g,d,u,G0,S0,h,p⟩:=h;obtain⟨⟨j,g1⟩,z,h⟩:=bind_some h;dsimp only at h;split at h
 . rename_i i
   obtain⟨⟨ds,g2⟩,r,h⟩:=bind_some h;cases r;refine wpAny_Call_method0_late A B (aW (C.un a8 s σ H (λx H1=>∃a,Ext H ι H1 a/\aw X.kw H1 a g1/\bH X.kw H1 a q σ/\Rel X.kw H1 a j x) I (tD.bind G0 S0 z λH1 a v e c f b=>⟨a,e,c,f,b⟩)) λv s1 ⟨x,H1,k,l,a,e,c,f,b⟩=>?_);obtain⟨t1,y⟩:=R.is k c b l i;refine⟨T,id,R.pa,R.slot,R.ty,t1,y,ade rfl (PySem.evalArgs_none ?_)⟩;exact R.run a8 s1 σ H1 x [] v [] Q k l .nil ⟨a,g1,j,[],d,u,c,b,by simp[aj],i,h,p.mono e⟩
 . cases h)
end
noncomputable def iI:D->Bool
 |.aX _=>true|_=>false
theorem vR {X:Cx}{a8:List (Addr×Obj)}{σ:L2.St}{H:Hp}{s:Zo}{ι:Ix}{g:G}{d:D}{x:V}{v:Value}(I:Inv X a8 σ H s)(G0:aw X.kw H ι g)(r:Rel X.kw H ι d x)(u:RelV x v)(h:iI d=true):
  s.TypeIs v "dict" /\ ∀a,v = .ref a->∃ob,s.heap.get? a=some ob/\ob.dict=none:=by
 cases d with
 |aX n =>
  simp only[Rel]at r;obtain⟨a,rfl,i⟩:=r;cases u;have j:n<g.length:=by rw[<- G0.len];exact(Zq.mp i.1).1
  obtain⟨l,o,c,k,_⟩:=G0.xI (Zn j) i;obtain⟨q,f⟩:=uk I k;refine⟨⟨_,f,rfl⟩,λb e=>?_⟩;cases e;exact⟨_,f,rfl⟩
 |_=>cases h
noncomputable def i0 (d:D)(ds:List D)(g:G):Option (D×G):=match d,ds with
 |.aX n,[k]=>(g[n]?).bind λxs=>if aU 6 k=true then some ((bh xs k).getD .ay,g)else none|.aX n,[k,x]=>(g[n]?).bind λxs=>if aU 6 k=true then some ((bh xs k).getD x,g)else none|_,_=>none
theorem vals1 {x:V}{us:List Value}(r:Vals [x] us):∃u,us = [u]/\RelV x u:=by
 cases r with
 |cons a b=>cases b;exact⟨_,rfl,a⟩
theorem Me {X:Cx}(hu:X.A.units+64<cLine):MR X "dict" "get" "dict.get" iI i0 where
 pa:=PySem.F.plainAttrs_dict
 slot:=adz
 ty:=PySem.F.type_dict_get
 is:=vR
 run:=by
  intro a8 s σ H x xs v us Q I rx rs q;obtain⟨ι,g,d,ds,d',g',G0,r1,rl,hT,q,p⟩:=q;have Fw:=(vR I G0 r1 rx hT).1;cases d with
  |aX n =>
   simp only[Rel]at r1;obtain⟨a,rfl,ha⟩:=r1;cases rx;have core:∀{k dflt:D} {i:List D} {l dv:V} {r du:Value} {Q':Fin->Zo->Prop},g[n]? = some i->aU 6 k=true->Rel X.kw H ι k l->RelV l r->Rel X.kw H ι dflt dv->RelV dv du->fF X.kw H ι ((bh i k).getD dflt) g Q ->
      (∀v o,EP X a8 σ Q v o->Q' (.done (.ret v)) o)->wpAny (model X.prog X.w) X.A.in1 (do
       if let some v <- aeE a r then return <- ret v
       match <- Builtin.Dict.missed a r with
       |some v=>ret v|none=>ret du) Q' X.xe s:=by
    intro k dflt i l dv r du Q' f e j Mf rd W2 p hQ;obtain⟨es,vs,c,hH,sW,ie,rv,hh,nd,sy,sz,rl⟩:=G0.xI f ha;have en:=Ent.of rv hh rl;refine Zm (sT I (by rw[in1_units];omega) hH en nd e j Mf (λhn tk=>?_) (λw hs tk vv z b rz=>?_))
    . rw[hn]at p
      exact Zm (wpAny_missed_other sy (Zp (hQ _ _ ⟨_,H,I.tok tk,W2,p H ι _ Ext.refl G0 rd⟩)))
    . rw[hs]at p
      exact Zp (hQ _ _ ⟨_,H,I.tok tk,rz,p H ι _ Ext.refl G0 b⟩)
   match ds,q,rl with
   | [k],q,rl =>
    simp only[i0]at q;obtain⟨i,f,q⟩:=bind_some q;split at q
    . rename_i e
      cases q;simp only[aj]at rl;obtain⟨l,_,rfl,j,rfl⟩:=rl;obtain⟨u,rfl,ru⟩:=vals1 rs;exact aai adz Fw afa (core (dflt:=.ay) (dv:=.ay) (du:=.none) f e j ru (by simp[Rel]) rfl p λv o h=>⟨v,rfl,h⟩) (PySem.F.args_dict_get_2 _ _)
    . cases q
   | [k,y],q,rl =>
    simp only[i0]at q;obtain⟨i,f,q⟩:=bind_some q;split at q
    . rename_i e
      cases q;simp only[aj]at rl;obtain⟨l,_,rfl,j,yv,_,rfl,ry,rfl⟩:=rl;obtain⟨u,w',rfl,ru,b⟩:=vals2 rs;exact aai adz Fw afa (core (dflt:=y) f e j ru ry b p λv o h=>⟨v,rfl,h⟩) (PySem.F.args_dict_get_3 _ _ _)
    . cases q
   | [],q,rl=>cases q|_::_::_::_,q,rl=>cases q
  |_=>cases hT
noncomputable def pZ:FE:=λ_ g=>some (.aX g.length,g ++ [[]])
section
variable {X:Cx}
theorem IA {o:Pos}:DE X (.Dict [] [] o) pZ:=.of (by
 intro a8 s σ H Q I h;obtain⟨ι,c,g,d,i,G0,l,h,p⟩:=h;cases h;have hf:H s.heap.objs.size=none:=I.aS.fresh (Zu _);have a:∀h:Heap,(h.push { cls:=.type "dict",data:=.dict #[] }).get? h.objs.size=some { cls:=.type "dict",data:=.dict #[] }:=λh=>ZC _ rfl;refine wpAny_Dict_empty ⟨.ref s.heap.objs.size,upd H s.heap.objs.size (dO s.heap.objs.size [] 0),I.laid (t':=s.toks) (λb u e=>Zs _ e) (Zu _) ?_,rfl,p _ _ _ (Ext.iF (b:=1) hf) (G0.iF hf (.d 0 [] [] (aab _) .nil .nil (by simp[cG]) (beq_eq_false_iff_ne.mpr (abi (Z1 (big I)))) (aab _)) (by simp[aj])) ?_⟩
 . exact⟨a _,⟨_,a _⟩,λj f q k=>k _ q⟩
 . simp only[Rel]
   exact⟨_,rfl,d5.new G0.len⟩)
end
noncomputable def putAll (n:Nat):List (D×D)->G->Option G
 | [],g=>some g|p::r,g=>(kq (.aX n) p.1 p.2 g).bind λa=>putAll n r a
end L3
namespace L3
open PyProof.Rows L2
noncomputable def sN:Bool->String
 |true=>"list"|false=>"tuple"
noncomputable def iN:Bool->String
 |true=>"list_iterator"|false=>"tuple_iterator"
def fB (b:Bool)(h:Heap)(a:Addr)(xs:Array Value):Prop:=∃o,h.get? a=some o/\o.cls = .type (sN b) /\ ∃n,o.data = .seq xs n
def j5 (b:Bool)(h:Heap)(j a:Addr)(i:Nat):Prop:=∃o,h.get? j=some o/\o.cls = .type (iN b)/\o.data = .fields #[.ref a,.int i 0]
theorem j5.at {b:Bool}{h h':Heap}{j a i}(x:j5 b h j a i)(k:∀o,h.get? j=some o->h'.get? j=some o):j5 b h' j a i:=let⟨o,ho,r⟩:=x;⟨o,k o ho,r⟩
noncomputable def i8 (K:ZF):Bool->Hp->Addr->List V->Prop
 |true=>dw K|false=>eK K
section
variable {prog:ZW}{w:World}{A:ZY}{E:Value->Zo->Prop}{s:Zo}
theorem zV {c:Bool}{b l:Addr}{i:Nat}{items}{x:Value}{Q:Value->Zo->Prop}(a:j5 c s.heap b l i)(e:fB c s.heap l items)(h:items[i]? = some x)
   (f:∀h',j5 c h' b l (i+1)->abD b s.heap h'->Q x { s with heap:=h' }):wpAny (model prog w) A (aaZ (.ref b)) Q E s:=by
 cases c
 . exact tY a e h f
 . exact wpAny_nextOf_list_item a e h f
theorem B4 {c:Bool}{b l:Addr}{i:Nat}{items}{Q:Value->Zo->Prop}(hh:A.handled=none)(a:j5 c s.heap b l i)(h:fB c s.heap l items)(j:items[i]? = none)
   (f:∀h' e,ae6 b s.heap h'->(∃o,h'.get? e=some o/\o.cls = .type "StopIteration")->E (.ref e) { s with heap:=h' }):wpAny (model prog w) A (aaZ (.ref b)) Q E s:=by
 cases c
 . exact vH hh a h j f
 . exact afm hh a h j f
theorem p_ {a:Bool}{l:Addr}{items}{Q:Value->Zo->Prop}(b:fB a s.heap l items)
   (c:Q (.ref s.heap.objs.size) { s with heap:=s.heap.push { cls:=.type (iN a),data:=.fields #[.ref l,.int 0 0] } }):wpAny (model prog w) A (aff (.ref l)) Q E s:=by
 cases a
 . exact wpAny_pyIter_tuple b c
 . exact ac9 b c
end
section
variable {X:Cx}{a8:List (Addr×Obj)}{σ:L2.St}{H:Hp}{s:Zo}{a:Addr}{xs ys:List V}
theorem Ew {b:Bool}(I:L2.Inv X a8 σ H s)(h:i8 X.K b H a xs):∃au:List Value,Vals xs au/\fB b s.heap a au.toArray/\xs.length<=ZM:=by
 cases b
 . exact I.tuple h
 . obtain⟨au,r,p,z⟩:=I.list h
   exact⟨au,r,p.isList,z⟩
theorem vS {b:Bool}(I:L2.Inv X a8 σ H s)(h:i8 X.K b H a xs)(h':i8 X.K b H a ys):xs=ys:=by
 cases b
 . exact I.mK h h'
 . exact I.lj h h'
end
theorem B5 {X:Cx}{a8:List (Addr×Obj)}{σ:L2.St}{H:Hp}{s:Zo}{a c:Addr}{xs:List V}{e:Bool}(I:L2.Inv X a8 σ H s)(f:fD X a8 H c)(b:i8 X.K e H a xs):a≠c:=by
 cases e
 . exact Pf I f b
 . exact L9 I f b
abbrev eQ (h:Heap)(T:Addr)(xs:List Value):Prop:=h.get? T=some { cls:=.type "tuple",data:=.seq xs.toArray }
structure Src where
 κ:Bool
 j:Addr
 a:Addr
noncomputable def fK (z tu:Addr)(rs:List Src):List Addr:=z::tu::rs.map (·.j)
structure ZD (z ti tu:Addr)(rs:List Src):Prop where
 n2:tu≠z
 tm:ti ∉ fK z tu rs
 jn:(rs.map (·.j)).Nodup
 jz:∀r∈rs,r.j≠z/\r.j≠tu
 am:∀r∈rs,r.a ∉ fK z tu rs
 le:rs.length<=8
 ne:rs ≠ []
section
variable {prog:ZW}{w:World}{A:ZY}{E:Value->Zo->Prop}{s:Zo}{z ti tu:Addr}{rs:List Src}{i:Nat}{os:List Value}{Q:Value->Zo->Prop}{xs:Src->Array Value}
theorem fB.c9 {b:Bool}{h h':Heap}{a:Addr}{items}{cs:List Addr}(x:fB b h a items)(k:c9 cs h h')(n:a ∉ cs):fB b h' a items:=let⟨o,ho,r⟩:=x;⟨o,k _ _ n ho,r⟩
structure ZL (h0:Heap)(z ti tu:Addr)(rs:List Src)(i:Nat)(os:List Value)(xs:Src->Array Value)(k:Nat)(h:Heap)(us:List Value):Prop where
 kl:k<=rs.length
 ul:us.length=k
 uv:∀(m:Nat) (r:Src),m<k->rs[m]? = some r->∃u,(xs r)[i]? = some u/\us[m]? = some u
 hz:IsZip h z ti tu .ellipsis
 ht:eQ h tu (us++os.drop k)
 it:∀(m:Nat) (r:Src),rs[m]? = some r->j5 r.κ h r.j r.a (if m<k then i+1 else i)
 st:c9 (fK z tu rs) h0 h
 sz:h.objs.size=h0.objs.size
theorem B6 (hh:A.handled=none)(D:ZD z ti tu rs)(hz:IsZip s.heap z ti tu .none)(H:eQ s.heap ti (rs.map λr=>.ref r.j))(J:eQ s.heap tu os)(M:os.length=rs.length)
   (B:∀r∈rs,j5 r.κ s.heap r.j r.a i) (C:∀r∈rs,fB r.κ s.heap r.a (xs r))
   (K:∀(us:List Value) (h':Heap),us.length=rs.length->(∀(m:Nat) (r:Src),rs[m]? = some r->∃u,(xs r)[i]? = some u/\us[m]? = some u)->IsZip h' z ti tu (ab5 s.heap.objs.size)->eQ h' tu us->(∀r∈rs,j5 r.κ h' r.j r.a (i+1))->eQ h' s.heap.objs.size us->c9 (fK z tu rs) s.heap h'->Q (.ref s.heap.objs.size) { s with heap:=h' })
   (I:(∃r∈rs,(xs r)[i]? = none)->∀h' e,c9 (fK z tu rs) s.heap h'->(∃o,h'.get? e=some o/\o.cls = .type "StopIteration")->E (.ref e) { s with heap:=h' }):
   wpAny (model prog w) A (aa9.«zip.__next__» ⟨[.ref z],[]⟩) (λfin s'=>∃v,fin = .done (.ret v)/\Q v s') E s:=by
 have mz:z∈fK z tu rs:=by simp[fK]
 have mu:tu∈fK z tu rs:=by simp[fK]
 have mj:∀r∈rs,r.j∈fK z tu rs:=λr f=>by simp only[fK,Zx];exact .inr (.inr (aay f))
 have YT:=D.le;have hs:ZM=16777216:=abC;change wpAny _ _ (field (.ref z) 2 >>= λ_=>_) _ _ _;refine Zm (abd hz rfl (x:=.bool false) rfl ?_);change wpAny _ _ (field (.ref z) 3 >>= λ_=>_) _ _ _;refine Zm (abd hz rfl (x:=.ref ti) rfl ?_);refine Zm (ab4 H rfl ?_);refine acO (by simp[D.ne]) ?_;change wpAny _ _ (ac6 (.ref z) >>= λ_=>_) _ _ _;refine Zm ?_;unfold ac6;refine Zm (abd hz rfl (x:=.none) rfl (Zp ?_));simp only[if_true];refine Zm (abf (Zm (abd hz rfl (x:=.ref tu) rfl (Zm (acY hz (by simp) λb1 z1 c1=>Zm ?_)))));have y1:IsZip b1 z ti tu .ellipsis:=z1;have ez:∀{b:Heap} {e:Addr} {oe:Obj},IsZip b z ti tu .ellipsis->b.get? e=some oe->oe.cls = .type "StopIteration"->e≠z:=λyb q1 q2 x=>by subst x;rw[yb]at q1;cases q1;exact absurd (show aav "zip" = aav "StopIteration" from q2) (by decide)
 refine acb _ (λrest b s'=>∃k us h',rest=((rs.map λr=>abt r.j).zipIdx).drop k/\b=(none,())/\s'={ s with heap:=h' }/\ZL s.heap z ti tu rs i os xs k h' us) _ ?_ ?_ _ _ ?_
 . rintro x rest b s' ⟨k,us,h,f,rfl,rfl,L⟩
   have hk:k<rs.length:=by refine Nat.lt_of_not_le λhc=>?_;rw[afb (by simpa using hc)]at f;cases f
   obtain⟨r,ya⟩:∃r,rs[k]? = some r:=⟨_,Zn hk⟩
   have hm:=ZP ya;rw[aak (by simpa using hk)]at f;injection f with hx Pl
   have hx:x=(.ref r.j,k):=by rw[hx];obtain⟨_,e⟩:=Zq.mp ya;simp[e]
   subst hx;have i1:=L.it k r ya;rw[if_neg (aaS k)]at i1;have s1:=(C r hm).c9 L.st (D.am r hm);refine Zm (wpAny_onRaise ?_);change wpAny _ _ (aaZ (.ref r.j) >>= λ_=>_) _ _ _;cases hv:(xs r)[i]? with
   |none =>
     refine Zm (B4 hh i1 s1 hv λb2 e c2 he=>?_);obtain⟨oe,q1,q2⟩:=he;have y2:IsZip b2 z ti tu .ellipsis:=c2 _ _ (D.jz r hm).1.symm L.hz;refine acY y2 (by simp) λb3 _ y=>I ⟨r,hm,hv⟩ b3 e ?_ ⟨oe,(y.2 _ (ez y2 q1 q2)).trans q1,q2⟩;exact(L.st.tr λc o n e=>c2 c o (λq=>n (q ▸ mj r hm)) e).tr (c9.of y mz)
   |some u =>
     refine Zm (zV i1 s1 hv λb2 u2 c2=>Zp ?_);have w2:eQ b2 tu (us++os.drop k):=(c2.2 _ (D.jz r hm).2.symm).trans L.ht;have ol:k<os.length:=by omega
     have ul:=L.ul;have len:(us++os.drop k).length=rs.length:=by rw[ZH,adm,ul];omega
     refine Zm (ab4 w2 rfl (Zm (aeZ w2 rfl ?_ (by simp only[Zw];omega) (by simp only[Array.size_setIfInBounds,Zw];omega))));refine Zm (wpAny_letGo (Zp ?_))
     have y:abD tu b2 (b2.update tu (abE (·.setIfInBounds k u))):=aa0 ..
     have w3:eQ (b2.update tu (abE (·.setIfInBounds k u))) tu ((us ++ [u])++os.drop (k+1)):=by
       show(b2.update tu _).get? tu=_;rw[aaC _ w2 rfl];have:(us++os.drop k).set k u=(us ++ [u])++os.drop (k+1):=by rw[acv _ _ (by omega),ul,acs,aak ol,aec,Z3];rfl
       have ln:((us ++ [u])++os.drop (k+1)).length=(us++os.drop k).length:=by rw[<- this,aeW]
       simp only[abE,List.setIfInBounds_toArray,this];rw[if_pos (by rw[Zw,Zw,ln,beq_self_eq_true])]
     refine⟨k+1,us ++ [u],_,Pl,rfl,rfl,hk,by simp[ul],λm r' kE l=>?_,?_,w3,λm r' l=>?_,?_,?_⟩
     . by_cases e:m=k
       . subst e
         rw[ya]at l;cases l;exact⟨u,hv,by rw[ZX (by omega),ul,acs];rfl⟩
       . obtain⟨v,h1,h2⟩:=L.uv m r' (by omega) l
         exact⟨v,h1,by rw[ZI (by omega)];exact h2⟩
     . exact(y.2 _ D.n2.symm).trans ((c2.2 _ (D.jz r hm).1.symm).trans L.hz)
     . have pI:=ZP l
       by_cases e:m=k
       . subst e
         rw[ya]at l;cases l;rw[if_pos (ab_ m)];exact u2.at λo e=>(y.2 _ (D.jz r hm).2).trans e
       . have:=L.it m r' l
         have nj:r'.j≠r.j:=λq=>by
          have h1:(rs.map (·.j))[m]? = some r'.j:=by rw[ZE,l];rfl
          have h2:(rs.map (·.j))[k]? = some r'.j:=by rw[ZE,ya,q];rfl
          exact e ((aer (by simpa using (Zq.mp l).1) D.jn).mp (h1.trans h2.symm))
         rw[show(if m<k+1 then i+1 else i)=if m<k then i+1 else i by
          by_cases e2:m<k
          . rw[if_pos e2,if_pos (by omega)]
          . rw[if_neg e2,if_neg (by omega)]]
         exact this.at λo e=>(y.2 _ (D.jz r' pI).2).trans ((c2.2 _ nj).trans e)
     . exact(L.st.tr (c9.of c2 (mj r hm))).tr (c9.of y mu)
     . rw[y.1,c2.1,L.sz]
 . rintro b s' ⟨k,us,h,f,rfl,rfl,L⟩
   have hk:k=rs.length:=by have:=congrArg ae4 f;simp at this;have:=L.kl;omega
   subst hk;have ul:=L.ul;have w1:eQ h tu us:=by have:=L.ht;rw[afb (by omega),aaL]at this;exact this
   refine Zm (ab4 w1 rfl (Zm (wpAny_newTuple ?_ (by simp;omega))));change wpAny _ _ (acZ (.ref z) (.ref h.objs.size) >>= λ_=>_) _ _ _;refine Zm ?_;unfold acZ;have y6:IsZip (h.push { cls:=.type "tuple",data:=.seq us.toArray }) z ti tu .ellipsis:=Zs _ L.hz;refine Zm (acY y6 (by simp) λb7 z7 c7=>?_);have y7:IsZip b7 z ti tu (ab5 h.objs.size):=z7;refine acY y7 (by simp) λb8 z8 c8=>Zp ⟨_,rfl,?_⟩;have y8:IsZip b8 z ti tu (ab5 h.objs.size):=z8;have Rz:z<h.objs.size:=ZG L.hz;have up:∀c o,c≠z->h.get? c=some o->b8.get? c=some o:=λc o n e=>(c8.2 c n).trans ((c7.2 c n).trans (Zs _ e));have T8:eQ b8 h.objs.size us:=(c8.2 _ (adF Rz)).trans ((c7.2 _ (adF Rz)).trans (ZC _ rfl));change Q (.ref h.objs.size) _;have sz:=L.sz;rw[sz]at y8 T8 ⊢;refine K us b8 ul (λm r f=>L.uv m r (Zq.mp f).1 f) y8 (up _ _ D.n2 w1) (λr f=>?_) T8 λc o n e=>up c o (λq=>n (q ▸ mz)) (L.st c o n e);obtain⟨m,hm⟩:=abc f;have:=L.it m r hm;rw[if_pos (Zq.mp hm).1]at this;exact this.at λo e=>up _ o (D.jz r f).1 e
 . refine⟨0,[],b1,rfl,rfl,rfl,aab _,rfl,λ_ _ h=>absurd h (acP _),y1,?_,λm r f=>?_,c9.of c1 mz,c1.1⟩
   . exact(c1.2 _ D.n2).trans J
   . have hm:=ZP f
     rw[if_neg (acP _)];exact(B r hm).at λo e=>(c1.2 _ (D.jz r hm).1).trans e
theorem B7 {Q:Option Value->Zo->Prop}(hh:A.handled=none)(D:ZD z ti tu rs)(hz:IsZip s.heap z ti tu .none)(J:eQ s.heap ti (rs.map λr=>.ref r.j))(K:eQ s.heap tu os)(I:os.length=rs.length)
  (B:∀r∈rs,j5 r.κ s.heap r.j r.a i) (C:∀r∈rs,fB r.κ s.heap r.a (xs r))
  (L:∀(us:List Value) (h':Heap),us.length=rs.length->(∀(m:Nat) (r:Src),rs[m]? = some r->∃u,(xs r)[i]? = some u/\us[m]? = some u)->IsZip h' z ti tu (ab5 s.heap.objs.size)->eQ h' tu us->(∀r∈rs,j5 r.κ h' r.j r.a (i+1))->eQ h' s.heap.objs.size us->c9 (fK z tu rs) s.heap h'->Q (some (.ref s.heap.objs.size)) { s with heap:=h' })
  (H:(∃r∈rs,(xs r)[i]? = none)->∀h',c9 (fK z tu rs) s.heap h'->Q none { s with heap:=h' }):wpAny (model prog w) A (acT (.ref z)) Q E s:=by
 have ty:s.TypeIs (.ref z) "zip":=⟨_,hz,rfl⟩
 unfold acT;refine Zm (afF (aaw (name:=abl "__next__") ty F.slot_zip_next (aai F.slot_zip_next ty F.entry_zip_next (B6 hh D hz J K I B C (λus h' q1 q c f q5 x h=>Zp (L us h' q1 q c f q5 x h)) λhx h' e k he=>?_) (F.args_zip_next_1 _))));obtain⟨o,y,l⟩:=he;exact Zm (adn (T:="StopIteration") (b:=true) ⟨o,y,l⟩ isSubtype_stop (Zp (H hx _ k)))
end
noncomputable abbrev gG (q:Bool×Addr):Obj:={ cls:=.type (iN q.1),data:=.fields #[.ref q.2,.int 0 0] }
noncomputable def qa (h:Heap):List (Bool×Addr)->Heap
 | []=>h|q::r=>qa (h.push (gG q)) r
noncomputable def vT (h:Heap):List (Bool×Addr)->List Addr
 | []=>[]|q::r=>h.objs.size::vT (h.push (gG q)) r
noncomputable abbrev Gb (h:Heap)(l:List (Bool×Addr)):Heap:=(qa h l).push { cls:=.type "tuple",data:=.seq ((vT h l).map abt).toArray }
noncomputable abbrev Gf (h:Heap)(l:List (Bool×Addr)):Heap:=(Gb h l).push { cls:=.type "tuple",data:=.seq (l.map λ_=>aa_).toArray }
noncomputable abbrev Gg (h:Heap)(l:List (Bool×Addr)):Heap:=(Gf h l).push { cls:=.type "zip",data:=.fields #[.none,.bool false,.bool false,.ref (qa h l).objs.size,.ref (Gb h l).objs.size] }
theorem fB.push {b:Bool}{h:Heap}{a:Addr}{items}(x:fB b h a items)(o:Obj):fB b (h.push o) a items:=let⟨u,hu,r⟩:=x;⟨u,Zs _ hu,r⟩
abbrev zW (l:List (Bool×Addr)):Prop:=Meets (aa9.«zip.__new__» ⟨.type "zip" :: l.map λq=>.ref q.2,[]⟩) (λ_ R s=>(∀q∈l,∃xs,fB q.1 s.heap q.2 xs)/\R (.ok (.ret (.ref (Gf s.heap l).objs.size))) { s with heap:=Gg s.heap l })
theorem IB (p q:Bool×Addr):zW [p,q]:=.of_wp λprog w A R s h=>by
 obtain⟨a,g,d,b,os⟩:=s;obtain⟨t,h⟩:=h;have sub:=sub_zip;obtain⟨xs,t1⟩:=t p (by simp);obtain⟨ys,e⟩:=t q (by simp);have c:fB p.1 (ad2 ⟨a,g,d,b,os⟩) p.2 xs:=t1;have tB:fB q.1 (ad2 ⟨a.push (gG p),g,d,b,os⟩) q.2 ys:=e.push _;show wpAny _ _ (aa9.«zip.__new__» ⟨[.type "zip",.ref p.2,.ref q.2],[]⟩) _ _ _;clear t
 wp_walk using p_ c,p_ tB
 exact⟨_,rfl,h⟩
set_option maxHeartbeats 1000000 in
theorem IC (p q r:Bool×Addr):zW [p,q,r]:=.of_wp λprog w A R s h=>by
 obtain⟨a,g,d,b,os⟩:=s;obtain⟨t,h⟩:=h;have sub:=sub_zip;obtain⟨xs,t1⟩:=t p (by simp);obtain⟨ys,e⟩:=t q (by simp);obtain⟨zs,t3⟩:=t r (by simp);have c:fB p.1 (ad2 ⟨a,g,d,b,os⟩) p.2 xs:=t1;have tB:fB q.1 (ad2 ⟨a.push (gG p),g,d,b,os⟩) q.2 ys:=e.push _;have tC:fB r.1 (ad2 ⟨(a.push (gG p)).push (gG q),g,d,b,os⟩) r.2 zs:=(t3.push _).push _;show wpAny _ _ (aa9.«zip.__new__» ⟨[.type "zip",.ref p.2,.ref q.2,.ref r.2],[]⟩) _ _ _;clear t
 wp_walk using p_ c,p_ tB,p_ tC
 exact⟨_,rfl,h⟩
theorem zX {c:Addr}{o:Obj}:∀{l:List (Bool×Addr)} {h:Heap},h.get? c=some o->(qa h l).get? c=some o
 | [],_,e=>e|_::l,_,e=>zX (l:=l) (Zs _ e)
theorem Gh:∀{l:List (Bool×Addr)} {h:Heap},(qa h l).objs.size=h.objs.size+l.length
 | [],_=>rfl|q::l,h=>by have:=Gh (l:=l) (h:=h.push (gG q));rw[abe]at this;rw[aaz,qa,this];omega
theorem zY:∀{l:List (Bool×Addr)} {h:Heap} {m:Nat} {q:Bool×Addr},l[m]? = some q->(vT h l)[m]? = some (h.objs.size+m)/\(qa h l).get? (h.objs.size+m)=some (gG q)
 | [],_,_,_,e=>by simp at e|p::l,h,0,q,e=>by simp at e;subst e;exact⟨rfl,zX (l:=l) (ZC _ rfl)⟩|p::l,h,m+1,q,e=>by have:=zY (l:=l) (h:=h.push (gG p)) (m:=m) (q:=q) (by simpa using e);rw[abe,show h.objs.size+1+m=h.objs.size+(m+1) by omega]at this;exact⟨by simpa[vT]using this.1,this.2⟩
theorem yc:∀{l:List (Bool×Addr)} {h:Heap},(vT h l).length=l.length
 | [],_=>rfl|q::l,h=>by simp[vT,yc (l:=l)]
noncomputable def cO (n:Nat)(l:List (Bool×Addr)):List Src:=l.zipIdx.map λp=>⟨p.1.1,n+p.2,p.1.2⟩
theorem kR {n m:Nat}{l:List (Bool×Addr)}:(cO n l)[m]? = l[m]?.map λq=>⟨q.1,n+m,q.2⟩:=by unfold cO;rw[ZE,afx];cases l[m]?<;>simp
theorem gB {n:Nat}{l:List (Bool×Addr)}:(cO n l).length=l.length:=by simp[cO]
theorem lN {n:Nat}{l:List (Bool×Addr)}{r:Src}(h:r∈cO n l):∃m q,l[m]? = some q/\r=⟨q.1,n+m,q.2⟩:=by obtain⟨m,e⟩:=abc h;rw[kR]at e;obtain⟨q,a,rfl⟩:=Zv.mp e;exact⟨m,q,a,rfl⟩
theorem Mh {h:Heap}{l:List (Bool×Addr)}:(vT h l).map abt=(cO h.objs.size l).map λr=>.ref r.j:=by
 refine acm λm=>?_;rw[ZE,ZE,kR];cases e:l[m]? with
 |none=>rw[aaO (by rw[yc];exact ab2.mp e)];rfl|some q=>rw[(zY e).1];rfl
theorem sZ {prog:ZW}{w:World}{A:ZY}{E:Value->Zo->Prop}{s:Zo}{l:List (Bool×Addr)}{Q:Value->Zo->Prop}(mk:zW l)(C:checkTypeCall "zip" ⟨l.map λq=>.ref q.2,[]⟩=pure ())(B:aeM "zip.__new__" ⟨.type "zip" :: l.map λq=>.ref q.2,[]⟩=pure ())(H:∀o,afi "object.__init__" ⟨o::l.map λq=>.ref q.2,[]⟩)(t:∀q∈l,∃xs,fB q.1 s.heap q.2 xs)
  (h:∀h',IsZip h' (s.heap.objs.size+l.length+2) (s.heap.objs.size+l.length) (s.heap.objs.size+l.length+1) .none->eQ h' (s.heap.objs.size+l.length) ((cO s.heap.objs.size l).map λr=>.ref r.j)->eQ h' (s.heap.objs.size+l.length+1) (l.map λ_=>aa_) ->
   (∀r∈cO s.heap.objs.size l,j5 r.κ h' r.j r.a 0)->(∀c o,s.heap.get? c=some o->h'.get? c=some o)->Q (.ref (s.heap.objs.size+l.length+2)) { s with heap:=h' }):
  wpAny (model prog w) A (call (.type "zip") (l.map λq=>.ref q.2)) Q E s:=by
 refine callType_new F.called_zip (by decide) C B H F.entry_zip_new mk ⟨t,?_⟩;have b:(qa s.heap l).objs.size=s.heap.objs.size+l.length:=Gh;have f:(Gb s.heap l).objs.size=s.heap.objs.size+l.length+1:=by rw[abe,b]
 have y:(Gf s.heap l).objs.size=s.heap.objs.size+l.length+2:=by rw[abe,f]
 have up:∀{h:Heap} {o o':Obj} {c:Addr},h.get? c=some o->(h.push o').get? c=some o:=λe=>Zs _ e;have i:(Gg s.heap l).get? (Gf s.heap l).objs.size=some _:=ZC _ rfl;have u:(Gg s.heap l).get? (Gb s.heap l).objs.size=some _:=up (ZC _ rfl);have k:(Gg s.heap l).get? (qa s.heap l).objs.size=some _:=up (up (ZC _ rfl));show _/\_;rw[b,f,y]at i;rw[f]at u;rw[b,Mh]at k;rw[y];refine⟨⟨_,i,rfl⟩,h _ i k u (λr z=>?_) λc o x=>up (up (up (zX x)))⟩;obtain⟨m,q,hq,rfl⟩:=lN z;exact⟨_,up (up (up (zY hq).2)),rfl,rfl⟩
noncomputable def Mi (K : ZF) (l : List (Bool × Addr)): It :=
 ⟨λi H => ∀ q ∈ l, ∃ xs x, i8 K q.1 H q.2 xs /\ xs[i]? = some x,
  λi H x a => ∃ T vs, x = .ref T /\ H T = none /\ a = upd H T (.tup vs) /\ vs.length = l.length /\ ∀ (m : Nat) (q : Bool × Addr), l[m]? = some q -> ∀ xs, i8 K q.1 H q.2 xs -> ∃ v, xs[i]? = some v /\ vs[m]? = some v,
  λi H => (∀ q ∈ l, ∃ xs, i8 K q.1 H q.2 xs) /\ ∃ q ∈ l, ∃ xs, i8 K q.1 H q.2 xs /\ xs.length <= i⟩
theorem yd {P:Nat->V->Prop}:∀(us:List Value) (k:Nat),(∀(m:Nat) (u:Value),us[m]? = some u->∃v,P (k+m) v/\RelV v u)->∃vs,Vals vs us /\ ∀(m:Nat) (v:V),vs[m]? = some v->P (k+m) v
 | [],_,_=>⟨[],.nil,λm v h=>by simp at h⟩
 |u::us,k,h=>by
  obtain⟨v,p,r⟩:=h 0 u rfl;obtain⟨vs,rs,a⟩:=yd (P:=P) us (k+1) λm u e=>by have:=h (m+1) u (by simpa using e);rwa[show k+(m+1)=k+1+m by omega]at this
  refine⟨v::vs,.cons r rs,λm w e=>?_⟩;cases m with
  |zero=>simp at e;subst e;exact p|succ m=>have:=a m w (by simpa using e);rwa[show k+1+m=k+(m+1) by omega]at this
structure ZT (h:Heap)(z ti tu:Addr)(n0:Nat)(l:List (Bool×Addr))(i:Nat):Prop where
 hz:IsZip h z ti tu .none
 iR:eQ h ti ((cO n0 l).map λr=>.ref r.j)
 sY:∃os:List Value,eQ h tu os/\os.length=l.length
 it:∀r∈cO n0 l,j5 r.κ h r.j r.a i
noncomputable def jM (z b tu:Addr)(a:Nat)(l:List (Bool×Addr)):List Addr:=b::fK z tu (cO a l)
theorem B8 {a:Nat}{l:List (Bool×Addr)}:(cO a l).map (·.j)=(ZN l.length).map (a + ·):=by
 refine acm λm=>?_;rw[ZE,ZE,kR];by_cases h:m<l.length
 . rw[Zn h,abN h];rfl
 . rw[aaO (by omega),aaO (by simp;omega)];rfl
theorem B9 {P:ZW}{w:World}{K:ZF}{B:List Expr}{kt:Nat}{J:Pos}(A:Nat)(l:List (Bool×Addr))(L:l.length<=8)(C:l ≠ []):
   Turn P w K (.Tuple B kt J) (Mi K l) (jM (A+l.length+2) (A+l.length) (A+l.length+1) A l) (A+l.length+2) (λi h=>ZT h (A+l.length+2) (A+l.length) (A+l.length+1) A l i):=by
 generalize Mj:A+l.length+2=z;generalize YU:A+l.length+1=tu;generalize YV:A+l.length=ti;have a1:(tu:Nat)≠z:=by omega
 have a2:(ti:Nat)≠z:=by omega
 have a3:(ti:Nat)≠tu:=by omega
 have RA:∀r∈cO A l,r.j≠ti/\r.j≠z/\r.j≠tu:=λr f=>by
   obtain⟨m,q,hq,rfl⟩:=lN f;have:=(Zq.mp hq).1;have b1:(A+m:Nat)≠ti:=by omega
   have b2:(A+m:Nat)≠z:=by omega
   have b3:(A+m:Nat)≠tu:=by omega
   exact⟨b1,b2,b3⟩
 have memC:∀{c},c∈fK z tu (cO A l)->c=z\/c=tu \/ ∃r∈cO A l,c=r.j:=fun {c} h=>by
   simp only[fK,Zx,ZK]at h;rcases h with h|h|⟨r,f,h⟩
   . exact .inl h
   . exact .inr (.inl h)
   . exact .inr (.inr ⟨r,f,h.symm⟩)
 have zd:(∀r∈cO A l,r.a ∉ fK z tu (cO A l))->ZD z ti tu (cO A l):=λam=>by
   refine⟨a1,λh=>?_,?_,λr f=>(RA r f).2,am,by rw[gB];exact L,λh=>C (abL.mp (by rw[<- gB (n:=A),h];rfl))⟩
   . rcases memC h with h|h|⟨r,f,h⟩
     . exact a2 h
     . exact a3 h
     . exact(RA r f).1 h.symm
   . rw[B8,List.Nodup,agk]
     exact adq.imp λh e=>h (Nat.add_left_cancel e)
 have own:∀{i h},ZT h z ti tu A l i->∀b∈jM z ti tu A l,∃o,h.get? b=some o /\ ∀v,o.data ≠ .cell v:=fun {i h} st c x=>by
   obtain⟨os,h3,_⟩:=st.sY;simp only[jM,Zx]at x;rcases x with rfl|x
   . exact⟨_,st.iR,λv z=>by cases z⟩
   . rcases memC x with rfl|rfl|⟨r,f,rfl⟩
     . exact⟨_,st.hz,λv z=>by cases z⟩
     . exact⟨_,h3,λv z=>by cases z⟩
     . obtain⟨o,g,_,d⟩:=st.it r f
       exact⟨_,g,λv z=>by rw[d]at z;cases z⟩
 have mz:z∈jM z ti tu A l:=by simp[jM,fK]
 have mt:ti∈jM z ti tu A l:=by simp[jM]
 have mu:tu∈jM z ti tu A l:=by simp[jM,fK]
 have mj:∀r∈cO A l,r.j∈jM z ti tu A l:=λr f=>by simp only[jM,fK,Zx];exact .inr (.inr (.inr (aay f)))
 refine⟨mz,λi h st=>own st,λi h h' st k=>?_,?_,?_,λ_ _ _ _ _ st h=>wpAny_pyIter_zip st.hz h⟩
 . obtain⟨os,h3,h4⟩:=st.sY
   exact⟨k z mz _ st.hz,k ti mt _ st.iR,⟨os,k tu mu _ h3,h4⟩,λr f=>(st.it r f).at λo e=>k _ (mj r f) o e⟩
 . intro X hP hw hK x i a8 s σ H E I hf st hg
   subst hP hw hK;obtain⟨os,h3,h4⟩:=st.sY;have ex:∀r∈cO A l,∃(y:List V) (au:List Value) (v:V) (u:Value),i8 X.K r.κ H r.a y/\fB r.κ s.heap r.a au.toArray/\y[i]? = some v/\au[i]? = some u/\RelV v u:=λr f=>by obtain⟨m,q,hq,rfl⟩:=lN f;obtain⟨y,v,h1,h2⟩:=hg q (ZP hq);obtain⟨au,rv,p,_⟩:=Ew I h1;obtain⟨u,hu,ru⟩:=rv.get h2;exact⟨y,au,v,u,h1,p,h2,hu,ru⟩
   have D:=zd λr f h=>by obtain⟨y,_,_,_,h1,_⟩:=ex r f;exact B5 I (hf _ (Zz _ h)) h1 rfl
   classical
   let xs:Src->Array Value:=λr=>if h:r∈cO A l then(ads (aa4 (ex r h))).toArray else #[];have mB:∀r∈cO A l,∃(y:List V) (v:V) (u:Value),i8 X.K r.κ H r.a y/\fB r.κ s.heap r.a (xs r)/\y[i]? = some v/\(xs r)[i]? = some u/\RelV v u:=λr f=>by obtain⟨v,u,a,b,c,d,e⟩:=aa4 (aa4 (ex r f));have e1:xs r=(ads (aa4 (ex r f))).toArray:=dif_pos f;rw[<- e1]at b;exact⟨_,v,u,a,b,c,by rw[e1];simpa using d,e⟩
   refine B7 (xs:=xs) (os:=os) (I.ok.hd x) D st.hz st.iR h3 (by rw[h4,gB]) st.it (λr f=>let⟨_,_,_,_,p,_⟩:=mB r f;p) (λus h' ul uv g1 g2 g3 g5 g6=>?_) λ⟨r,f,e⟩=>by obtain⟨_,_,u,_,_,_,e2,_⟩:=mB r f;rw[e]at e2;cases e2
   refine⟨_,rfl,wpAny_letOwnedTupleGo_zip g1 λvo g7 g8=>?_⟩;obtain⟨ws,ab,pw⟩:=yd (P:=λm v=>∀q,l[m]? = some q->∀y,i8 X.K q.1 H q.2 y->y[i]? = some v) us 0 λm u hm=>by
     have hl:m<l.length:=by rw[<- gB (n:=A),<- ul];exact(Zq.mp hm).1
     have hq:l[m]? = some l[m]:=Zn hl;have f:(cO A l)[m]? = some ⟨l[m].1,A+m,l[m].2⟩:=by rw[kR,hq];rfl
     obtain⟨u',h1,h2⟩:=uv m _ f;rw[hm]at h2;cases h2;obtain⟨y,v,u2,p1,_,p3,p4,p5⟩:=mB _ (ZP f);rw[h1]at p4;cases p4;refine⟨v,λq e ys hy=>?_,p5⟩;rw[aa3,hq]at e;cases e;rw[vS I hy p1];exact p3
   have wl:ws.length=l.length:=by rw[ab.length,ul,gB]
   have I1:L2.Inv X a8 σ (upd H s.heap.objs.size (.tup ws)) { s with heap:=s.heap.push { cls:=.type "tuple",data:=.seq us.toArray } }:=
     I.laid (t':=s.toks) (o:=.tup ws) (λb o q=>Zs _ q) (Zu _) (show dW X.prog X.w _ _ _ (.tup ws) from⟨by rw[wl,abC];omega,us,ab,eR.new _ _⟩)
   have lt:∀c∈jM z ti tu A l,c≠s.heap.objs.size:=λc x=>by obtain⟨o,h,_⟩:=own st c x;exact Z1 (ZG h)
   have I2:L2.Inv X a8 σ (upd H s.heap.objs.size (.tup ws)) { s with heap:=vo }:=rj (t':=s.toks) (s:={ s with heap:=s.heap.push { cls:=.type "tuple",data:=.seq us.toArray } }) (ch:=jM z ti tu A l) I1 (λc o x e=>by
     have Fi:c ∉ fK z tu (cO A l):=λq=>x (Zz _ q);have h6:h'.get? c=some o:=by
       by_cases RB:c=s.heap.objs.size
       . subst RB
         have e':(s.heap.push { cls:=.type "tuple",data:=.seq us.toArray }).get? s.heap.objs.size=some o:=e;rw[ZC _ rfl]at e';rw[<- e'];exact g5
       . exact g6 c o Fi ((agg s.heap c _ RB).symm.trans e)
     exact(g8.2 c λq=>x (q ▸ mz)).trans h6) (λc x=>by obtain⟨f0,f1,f2,f3,f4,f5⟩:=hf c x;exact⟨by rw[aC (lt c x)];exact f0,f1,f2,f3,f4,f5⟩)
   refine⟨.ref s.heap.objs.size,_,I2,rfl,⟨_,ws,rfl,I.fresh,rfl,wl,λm q hq ys hy=>?_⟩,⟨g7,?_,⟨us,?_,by rw[ul,gB]⟩,λr f=>?_⟩,λc x=>?_⟩
   . have hm:m<ws.length:=by rw[wl];exact(Zq.mp hq).1
     have:=pw m ws[m] (Zn hm) q (by rw[aa3];exact hq) ys hy;exact⟨_,this,Zn hm⟩
   . exact(g8.2 _ a2).trans (g6 ti _ D.tm st.iR)
   . exact(g8.2 _ D.n2).trans g2
   . exact(g3 r f).at λo e=>(g8.2 _ (D.jz r f).1).trans e
   . rw[aC (lt c x)];exact(hf c x).1
 . intro X hP hw hK x i a8 s σ H E I hf st hg
   subst hP hw hK;obtain⟨os,h3,h4⟩:=st.sY;obtain⟨mQ,q0,W3,ys,hy,hle⟩:=hg;have ex:∀r∈cO A l,∃(y:List V) (au:List Value),i8 X.K r.κ H r.a y/\fB r.κ s.heap r.a au.toArray/\au.length=y.length:=λr f=>by obtain⟨m,q,hq,rfl⟩:=lN f;obtain⟨y,h1⟩:=mQ q (ZP hq);obtain⟨au,rv,p,_⟩:=Ew I h1;exact⟨y,au,h1,p,rv.length.symm⟩
   have D:=zd λr f h=>by obtain⟨y,_,h1,_⟩:=ex r f;exact B5 I (hf _ (Zz _ h)) h1 rfl
   classical
   let xs:Src->Array Value:=λr=>if h:r∈cO A l then(ads (aa4 (ex r h))).toArray else #[];have mB:∀r∈cO A l,∃(y:List V),i8 X.K r.κ H r.a y/\fB r.κ s.heap r.a (xs r)/\(xs r).size=y.length:=λr f=>by obtain⟨a,b,c⟩:=aa4 (aa4 (ex r f));have e1:xs r=(ads (aa4 (ex r f))).toArray:=dif_pos f;rw[<- e1]at b;exact⟨_,a,b,by rw[e1,Zw];exact c⟩
   obtain⟨m0,W4⟩:=abc W3;have RC:(cO A l)[m0]? = some ⟨q0.1,A+m0,q0.2⟩:=by rw[kR,W4];rfl
   have W5:=ZP RC;obtain⟨YW,p1,p2,p3⟩:=mB _ W5;have Pm:(xs ⟨q0.1,A+m0,q0.2⟩)[i]? = none:=by rw[vS I hy p1]at hle;exact adf (by omega)
   refine B7 (xs:=xs) (os:=os) (I.ok.hd x) D st.hz st.iR h3 (by rw[h4,gB]) st.it (λr f=>let⟨_,_,p,_⟩:=mB r f;p) (λus h' ul uv g1 g2 g3 g5 g6=>?_) λ_ h' g=>⟨rfl,rj (t':=s.toks) (ch:=fK z tu (cO A l)) I (λc o x e=>g c o x e) λc x=>hf c (Zz _ x)⟩
   obtain⟨u,h1,_⟩:=uv m0 _ RC;rw[Pm]at h1;cases h1
theorem ID (a b c:Value):checkTypeCall "zip" ⟨[a,b,c],[]⟩=pure ():=by kernel_rfl
theorem IE (a b c:Value):aeM "zip.__new__" ⟨[.type "zip",a,b,c],[]⟩=pure ():=by kernel_rfl
theorem IF (o a b c:Value):afi "object.__init__" ⟨[o,a,b,c],[]⟩:=by unfold afi;rw[signature?_of (id:="object.__init__") (n:=['_','_','t','i','n','i','_','_']) (o:=['t','c','e','j','b','o']) (by kernel_rfl) F.owner_object];kernel_rfl
noncomputable def rD:D->Option (Bool×List D)
 |.lst xs=>some (true,xs)|.tup xs=>some (false,xs)|_=>none
noncomputable def nT:List D->Option (List (Bool×List D))
 | []=>some []|d::ds=>(rD d).bind λq=>(nT ds).map λr=>q::r
noncomputable def jN (a:List (List D))(L:Nat):List D:=(ZN L).map λi=>.tup (a.map λxs=>xs.getD i .ay)
noncomputable def qb (fr:FA):FI:=λσ g=>(fr σ g).bind λr=>(nT r.1).bind λa=>match a with
 | []=>none|q::t=>if((t.length == 1||t.length == 2)&&t.all λp=>p.2.length == q.2.length)=true then some (jN ((q::t).map (·.2)) q.2.length,r.2)else none
theorem zZ {K:KW}{H ι d x j xs}(r:Rel K H ι d x)(h:rD d=some (j,xs)){i f}(e:i7 H ι i f):∃a vs,x = .ref a/\i8 K.fr j i a vs/\aj K i f xs vs:=by
 cases d with
 |lst ys =>
  cases h;simp only[Rel]at r;obtain⟨a,vs,rfl,c,b⟩:=r;exact⟨a,vs,rfl,(c.d7 e).sq,aj.d7 e _ b⟩
 |tup ys =>
  cases h;simp only[Rel]at r;obtain⟨a,vs,rfl,c,b⟩:=r;exact⟨a,vs,rfl,(c.d7 e).sq,aj.d7 e _ b⟩
 |_=>cases h
theorem ye {K:KW}{H ι}:∀{ds:List D} {vs:List V} {qs:List (Bool×List D)},aj K H ι ds vs->nT ds=some qs->∃l:List (Bool×Addr),vs=l.map (λq=>V.ref q.2)/\l.length=qs.length /\ ∀(m:Nat) (q:Bool×Addr),l[m]? = some q->∃d xs,qs[m]? = some (q.1,xs)/\Rel K H ι d (.ref q.2)/\rD d=some (q.1,xs)
 | [],vs,qs,r,h=>by simp only[aj]at r;subst r;cases h;exact⟨[],rfl,rfl,λm q h=>by simp at h⟩
 |d::ds,vs,qs,r,h=>by
  simp only[aj]at r;obtain⟨v,us,rfl,b,i⟩:=r;obtain⟨⟨κ,xs⟩,c,h⟩:=bind_some h;obtain⟨k,f,rfl⟩:=Zv.mp h;obtain⟨l,rfl,j,p⟩:=ye i f;obtain⟨a,_,rfl,_⟩:=zZ b c Ext.refl.d7;refine⟨(κ,a)::l,rfl,by simp[j],λm q e=>?_⟩;cases m with
  |zero=>simp at e;subst e;exact⟨d,xs,rfl,b,c⟩|succ m=>simpa using p m q (by simpa using e)
theorem s_:∀{l:List (Bool×Addr)} {us:List Value},Vals (l.map λq=>V.ref q.2) us->us=l.map λq=>abt q.2
 | [],_,.nil=>rfl|q::l,_,.cons r t=>by cases r;rw[s_ t];rfl
theorem yf {K:KW}{H ι}:∀{ds:List D} {vs:List V},ds.length=vs.length->(∀(m:Nat) (d:D),ds[m]? = some d->∃v,vs[m]? = some v/\Rel K H ι d v)->aj K H ι ds vs
 | [],[],_,_=>by simp only[aj]| [],_::_,h,_=>by simp at h|_::_,[],h,_=>by simp at h|d::ds,v::vs,hl,h=>by simp only[aj];obtain⟨w,e,r⟩:=h 0 d rfl;simp at e;subst e;exact⟨v,vs,rfl,r,yf (by simpa using hl) λm d e=>by simpa using h (m+1) d (by simpa using e)⟩
theorem Ex {prog:ZW}{w:World}{A:ZY}{E:Value->Zo->Prop}{s:Zo}{Q:Value->Zo->Prop}:∀{l:List (Bool×Addr)},l.length=2\/l.length=3->(∀q∈l,∃xs,fB q.1 s.heap q.2 xs) ->
  (∀h',IsZip h' (s.heap.objs.size+l.length+2) (s.heap.objs.size+l.length) (s.heap.objs.size+l.length+1) .none->eQ h' (s.heap.objs.size+l.length) ((cO s.heap.objs.size l).map λr=>.ref r.j)->eQ h' (s.heap.objs.size+l.length+1) (l.map λ_=>aa_) ->
   (∀r∈cO s.heap.objs.size l,j5 r.κ h' r.j r.a 0)->(∀c o,s.heap.get? c=some o->h'.get? c=some o)->Q (.ref (s.heap.objs.size+l.length+2)) { s with heap:=h' })->wpAny (model prog w) A (call (.type "zip") (l.map λq=>.ref q.2)) Q E s
 | [],h,_,_=>by simp at h| [_],h,_,_=>by simp at h| [p,q],_,t,h=>sZ (IB p q) (F.typeCall_zip_2 _ _) (F.newCall_zip_2 _ _) (λo=>F.args_object_init_3 o _ _) t h| [p,q,r],_,t,h=>sZ (IC p q r) (ID _ _ _) (IE _ _ _) (λo=>IF o _ _ _) t h|_::_::_::_::_,h,_,_=>by simp only[aaz]at h;omega
theorem jD.jN {K:KW}{H ι}{l:List (Bool×Addr)}{A:List (Bool×List D)}{L:Nat}(B:l.length=A.length)(E:l ≠ [])(C:∀q∈A,q.2.length=L)
   (p:∀(m:Nat) (q:Bool×Addr),l[m]? = some q->∃d xs,A[m]? = some (q.1,xs)/\Rel K H ι d (.ref q.2)/\rD d=some (q.1,xs)):jD K (Mi K.fr l) H ι (jN (A.map (·.2)) L):=λi H1 ι1 g1 e1 G1=>by
 have key:∀(m:Nat) (q:Bool×Addr),l[m]? = some q->∃xs vs,A[m]? = some (q.1,xs)/\xs.length=L/\i8 K.fr q.1 H1 q.2 vs/\aj K H1 ι1 xs vs:=λm q e=>by obtain⟨d,xs,f,o,b⟩:=p m q e;obtain⟨a,vs,e2,c,k⟩:=zZ o b e1;cases e2;exact⟨xs,vs,f,C _ (ZP f),c,k⟩
 refine⟨λu=>⟨λq z=>?_,?_⟩,λd hd=>?_⟩
 . obtain⟨m,hm⟩:=abc z
   obtain⟨_,vs,_,_,h,_⟩:=key m q hm;exact⟨vs,h⟩
 . have h0:0<l.length:=adT.mpr E
   obtain⟨xs,vs,_,o,b,c⟩:=key 0 _ (Zn h0);refine⟨_,Z6 h0,vs,b,?_⟩;rw[<- c.length,o];simpa[L3.jN]using u
 . unfold L3.jN at hd
   rw[ZE]at hd;obtain⟨j,hj,rfl⟩:=Zv.mp hd;have u:i<L:=by simpa using (Zq.mp hj).1
   rw[abN u]at hj;cases hj;have Mk:∀(m:Nat) (q:Bool×Addr),l[m]? = some q->∃xs vs v,A[m]? = some (q.1,xs)/\i8 K.fr q.1 H1 q.2 vs/\vs[i]? = some v/\Rel K H1 ι1 (xs.getD i .ay) v:=λm q e=>by
     obtain⟨xs,vs,f,o,b,c⟩:=key m q e;have hx:xs[i]? = some (xs.getD i .ay):=by rw[ZQ,Zn (by omega)];rfl
     obtain⟨v,k,s⟩:=c.get hx;exact⟨xs,vs,v,f,b,k,s⟩
   refine⟨λq z=>?_,λx H2 y=>?_⟩
   . obtain⟨m,hm⟩:=abc z
     obtain⟨_,vs,v,_,b,c,_⟩:=Mk m q hm;exact⟨vs,v,b,c⟩
   . obtain⟨T,ws,rfl,r,rfl,hw,hy⟩:=y
     refine⟨Ext.lay r,G1.lay r,?_⟩;simp only[Rel];refine⟨T,ws,rfl,.inl ⟨.inl aP,G1.fresh r⟩,aj.ext (Ext.lay r) _ (yf (by simp[hw,B]) λm d hd=>?_)⟩;rw[abx,ZE]at hd;obtain⟨q',bL,rfl⟩:=Zv.mp hd;have hm:m<l.length:=by rw[B];exact(Zq.mp bL).1
     obtain⟨xs,vs,v,f,b,c,k⟩:=Mk m _ (Zn hm);obtain⟨v',s,h7⟩:=hy m _ (Zn hm) vs b;rw[c]at s;cases s;rw[bL]at f;cases f;exact⟨_,h7,k⟩
theorem IG {X:Cx}{e:Expr}{es:List Expr}{fr:FA}{p A E:Pos}{B:List Expr}{kt:Nat}(J:Gl X "zip")(C:X.mg "zip" = none)(L:DA X (e::es) fr)
  (M:ZO (e::es) X.env=(false,eval e X.env)::ZO es X.env) (K:(abp A (ZO es X.env)).any (·.1)=false):
  DI X (.Tuple B kt E) (.Call (.Name "zip" p) (e::es) [] A) (qb fr):=.of (by
 intro a8 s σ H R I h;obtain⟨ι,σd,g,ds,g',G0,S0,h,q⟩:=h;obtain⟨⟨as,g1⟩,h1,h⟩:=bind_some h;obtain⟨qs,h2,h⟩:=bind_some h;cases qs with
 |nil=>cases h
 |cons q0 t =>
  dsimp only at h;split at h
  . rename_i f
    cases h;simp only[Zr,aac,beq_iff_eq,aaX]at f;refine Call_ (iL I J C PyProof.Rows.boot_zip (aa6 (aW (L.un A a8 s σ H (λu H1=>∃b,Ext H ι H1 b/\aw X.kw H1 b g'/\aj X.kw H1 b as u) I (ib.bind G0 S0 h1 λH1 b v o x S1 r=>⟨b,o,x,r⟩)) λus s1 ⟨u,H1,j,r,b,o,x,rd⟩=>?_) M K));obtain⟨l,rfl,hl,hp⟩:=ye rd h2;obtain rfl:=s_ r;have k:l.length=2\/l.length=3:=by rw[hl,aaz];omega
    have l0:l ≠ []:=λz=>by rw[z]at k;simp at k
    refine Ex k (λq i=>?_) λh' y z2 z3 z4 hk=>?_
    . obtain⟨m,C⟩:=abc i
      obtain⟨d,xs,_,h3,h4⟩:=hp m q C;obtain⟨a,u,e2,h5,_⟩:=zZ h3 h4 Ext.refl.d7;cases e2;obtain⟨au,_,p,_⟩:=Ew j h5;exact⟨_,p⟩
    . refine wpAny_pyIter_zip y ?_
      refine⟨s1.heap.objs.size+l.length+2,jM _ _ _ _ l,_,_,H1,rfl,j.kept (t':=s1.toks) hk,B9 s1.heap.objs.size l (by omega) l0,⟨y,z2,⟨_,z3,by simp⟩,z4⟩,λc f=>?_,q H1 b _ o x (.jN hl l0 (λq i=>?_) hp)⟩
      . have le:s1.heap.objs.size<=c:=by
          simp only[jM,fK,B8,Zx,ZK,aap]at f;rcases f with rfl|rfl|rfl|⟨m,_,rfl⟩
          . exact abR _ _
          . exact Z4 (abR _ l.length) (abR _ 2)
          . exact Z4 (abR _ l.length) (abR _ 1)
          . exact abR _ _
        exact j.mL le (j.aS.fresh le)
      . rcases Zx.mp i with rfl|i
        . rfl
        . exact f.2 q i
  . cases h)
theorem vU {fr:FA}{σ:Sg}{g:G}:qb fr σ g=(fr σ g).bind λr=>(nT r.1).bind λqs=>match qs with
 | []=>none|q::t=>if((t.length == 1||t.length == 2)&&t.all λp=>p.2.length == q.2.length)=true then some (jN ((q::t).map (·.2)) q.2.length,r.2)else none:=rfl
noncomputable def um (b a:D)(g:G):Option (D×G):=match b,a with
 |.lst xs,.int k=>if(!xs.isEmpty&&decide (0<=k)&&fz k&&aA (xs.length*k.toNat))=true then some (.ref g.length,g ++ [(ZA k.toNat xs).flatten])else none|b,a=>bJ b a g
section
variable {X:Cx}
theorem IH:bK X (aaH .Mult) (dH X.kw um):=by
 intro a8 s σ H x y v u Q I j l q;obtain⟨ι,g,r,d2,d,g',G0,c,f,q,p⟩:=q;unfold um at q;split at q
 . rename_i xs k
   split at q
   . rename_i z
     simp only[Zr,decide_eq_true_eq,Z8]at z;cases q;simp only[Rel]at c f;subst f;obtain⟨a,vs,rfl,hq,b⟩:=c;have o:=fz.and z.1.2;have i:=aA.le z.2;rw[abC]at i;refine x4 a8 s σ H _ _ v u Q I j l ⟨a,k,vs,rfl,rfl,hq.sq,?_,z.1.1.2,o.2,by rw[<- b.length];exact i,λpp h=>?_⟩
     . intro e
       subst e;have:=b.length;simp at this;subst this;simp at z
     . refine p _ _ _ (Ext.push h) (G0.push h (b.rep _)) ?_
       simp only[Rel];exact⟨pp,rfl,d5.new G0.len⟩
   . cases q
 . exact vx a8 s σ H x y v u Q I j l ⟨ι,g,r,d2,d,g',G0,c,f,q,p⟩
end
@[simp] theorem RE {xs:List D}{k:Int}{g:G}:um (.lst xs) (.int k) g=if(!xs.isEmpty&&decide (0<=k)&&fz k&&aA (xs.length*k.toNat))=true then some (.ref g.length,g ++ [(ZA k.toNat xs).flatten])else none:=rfl
mutual
noncomputable def j6:D->Bool
 |.tup xs=>fL xs|.lst xs=>fL xs|.fn _ _=>false|_=>true
noncomputable def fL:List D->Bool
 | []=>true|d::ds=>j6 d&&fL ds
end
abbrev Am:=Addr->Option Obj
noncomputable def dP (m:Am)(H:Hp):Hp:=λb=>match m b with|some o=>some (oK b o)|none=>H b
noncomputable def cS (m:Am)(H:Hp):Hp:=λb=>match m b with|some _=>none|none=>H b
section
variable {m:Am}{H H':Hp}{b:Addr}{o:Obj}{P:ZW}{w:World}{h h':Heap}{fs:List Addr}{ι ι':Ix}{K:KW}{g:G}
theorem iS (q:m b=some o):dP m H b=some (oK b o):=by unfold dP;rw[q]
theorem cp (q:m b=none):dP m H b=H b:=by unfold dP;rw[q]
theorem iU (q:m b=some o):cS m H b=none:=by unfold cS;rw[q]
theorem bR (q:m b=none):cS m H b=H b:=by unfold cS;rw[q]
theorem jr (q:H b=none):cS m H b=none:=by
 cases z:m b with
 |none=>rw[bR z];exact q|some o=>exact iU z
theorem B_ (x:dY P w H h)(i:∀b o,m b=some o->h.get? b=some o/\H b=none):dY P w (dP m H) h:=λb u e=>by
 cases q:m b with
 |some o =>
  rw[iS q]at e;cases e;exact⟨(i b o q).1,⟨o,(i b o q).1⟩,λf a p k=>k _ p⟩
 |none =>
  rw[cp q]at e;have keep:∀c v,H c=some v->dP m H c=some v:=λc v r=>by
   cases z:m c with
   |none=>rw[cp z];exact r|some o=>rw[(i c o z).2]at r;cases r
  exact(x b u e).c9 (λc v _ r=>r) (λc r=>keep c _ r) (λc xs r=>keep c _ r) λc q r=>keep c _ r
theorem Ca (x:dY P w H h)(a:∀b o,m b=some o->H b=some (oK b o)):dY P w (cS m H) h:=λb u e=>by
 cases q:m b with
 |some o=>rw[iU q]at e;cases e
 |none =>
  rw[bR q]at e;have keep:∀c v,(∀o,v≠oK c o)->H c=some v->cS m H c=some v:=λc v n r=>by
   cases z:m c with
   |none=>rw[bR z];exact r|some o=>rw[a c o z]at r;exact absurd (aam r).symm (n o)
  exact(x b u e).c9 (λc v _ r=>r) (λc r=>keep c _ (λ_ z=>by cases z) r) (λc xs r=>keep c _ (λ_ z=>by cases z) r) λc q r=>keep c _ (λ_ z=>by cases z) r
theorem rE (a:∀b o,m b=some o->H b=some (oK b o)){u:HO}(e:H b=some u)(n:∀o,u≠oK b o):m b=none:=by
 cases z:m b with
 |none=>rfl|some o=>rw[a b o z]at e;exact absurd (aam e).symm (n o)
theorem Mm (u:Un fs [] (cS m H) H' h h')(i:∀b o,m b=some o->h.get? b=some o/\H b=some (oK b o)):Un fs [] H (dP m H') h h':=by
 have f:∀b,H b=none->m b=none:=λb n=>by
  cases z:m b with
  |none=>rfl|some o=>rw[(i b o z).2]at n;cases n
 have st:∀b v,(∀o,v≠oK b o)->H b=some v->(∀z:cS m H b=some v,H' b=some v)->dP m H' b=some v:=λb v n e k=>by have z:=rE (λb o q=>(i b o q).2) e n;rw[cp z];exact k (by rw[bR z];exact e)
 refine⟨λb o q n c a=>u.keep b o q (jr n) c a,λb o q n c a=>u.slot b o q (jr n) c a,λb o q n a=>?_,λb o q a=>u.there b o q a,
  λb xs q=>st b _ (λ_ z=>by cases z) q λz=>u.kh b xs z,λb o v q=>st b _ (λ_ z=>by cases z) q λz=>u.jt b o v z,λb v t q=>st b _ (λ_ z=>by rw[z]at t;cases t) q λz=>u.ju b v t z⟩
 rw[cp (f b n)];exact u.free b o q (jr n) a
theorem Mn (u:Un fs [] (dP m H) H' h h')(i:∀b o,m b=some o->h.get? b=some o/\H b=none)(j:∀b o,m b=some o->H' b=some (oK b o))(ok:dY P w H' h'):Un fs [] H (cS m H') h h':=by
 have got:∀b o,m b=some o->h'.get? b=some o:=λb o q=>(ok b _ (j b o q)).1;have f:∀b v,H b=some v->m b=none:=λb v e=>by
   cases z:m b with
   |none=>rfl|some o=>rw[(i b o z).2]at e;cases e
 have st:∀b v,H b=some v->(∀z:dP m H b=some v,H' b=some v)->cS m H' b=some v:=λb v e k=>by rw[bR (f b v e)];exact k (by rw[cp (f b v e)];exact e)
 refine⟨λb o q n c a=>?_,λb o q n c a=>?_,λb o q n a=>?_,λb o q a=>u.there b o q a,λb xs q=>st b _ q λz=>u.kh b xs z,λb o v q=>st b _ q λz=>u.jt b o v z,λb v t q=>st b _ q λz=>u.ju b v t z⟩
 . cases z:m b with
   |none=>exact u.keep b o q (by rw[cp z];exact n) c a
   |some o' =>
    have:=(i b o' z).1;rw[q]at this;cases this;exact got b o z
 . cases z:m b with
   |none=>exact u.slot b o q (by rw[cp z];exact n) c a
   |some o' =>
    have:=(i b o' z).1;rw[q]at this;cases this;exact⟨o.slots,got b o z⟩
 . cases z:m b with
   |none=>rw[bR z];exact u.free b o q (by rw[cp z];exact n) a|some o'=>exact iU z
mutual
theorem Rel.vV (j:∀b o,m b=some o->H b=some (oK b o)):∀(d:D) {v:V},j6 d=true->Rel K H ι d v->Rel K (cS m H) ι d v
 |.ay,v,_,h=>by simpa[Rel]using h|.bl _,v,_,h=>by simpa[Rel]using h|.int _,v,_,h=>by simpa[Rel]using h|.str _,v,_,h=>by simpa[Rel]using h
 |.tup xs,v,z,h=>by
  simp only[Rel]at h ⊢;obtain⟨a,i,f,c,e⟩:=h;refine⟨a,i,f,?_,aj.vV j xs z e⟩;rcases c with⟨h|⟨u,h⟩,n⟩|h
  . exact .inl ⟨.inl (by rw[bR (rE j h λ_ z=>by cases z)];exact h),n⟩
  . exact .inl ⟨.inr ⟨u,by rw[bR (rE j h λ_ z=>by cases z)];exact h⟩,n⟩
  . exact .inr h
 |.lst xs,v,z,h=>by
  simp only[Rel]at h ⊢;obtain⟨a,i,f,c,e⟩:=h;refine⟨a,i,f,?_,aj.vV j xs z e⟩;rcases c with⟨h|⟨u,h⟩,n⟩|h
  . exact .inl ⟨.inl (by rw[bR (rE j h λ_ z=>by cases z)];exact h),n⟩
  . exact .inl ⟨.inr ⟨u,by rw[bR (rE j h λ_ z=>by cases z)];exact h⟩,n⟩
  . exact .inr h
 |.dZ,v,_,h=>by simp only[Rel]at h ⊢;obtain⟨a,f,c,e⟩:=h;exact⟨a,f,by rw[bR (rE j c λ_ z=>by cases z)];exact c,e⟩
 |.ref n,v,_,h=>by simpa[Rel]using h|.aX n,v,_,h=>by simpa[Rel]using h|.fn x ds,v,z,h=>by cases z
theorem aj.vV (i:∀b o,m b=some o->H b=some (oK b o)):∀(ds:List D) {vs:List V},fL ds=true->aj K H ι ds vs->aj K (cS m H) ι ds vs
 | [],vs,_,h=>by simpa[aj]using h|d::ds,vs,z,h=>by simp only[aj]at h ⊢;simp only[fL,Zr]at z;obtain⟨v,e,f,c,a⟩:=h;exact⟨v,e,f,Rel.vV i d z.1 c,aj.vV i ds z.2 a⟩
end
theorem Ext.jV (f:∀b o,m b=some o->H b=none):Ext H ι (dP m H) ι:=by
 have c:∀a v,H a=some v->m a=none:=λa v e=>by
  cases z:m a with
  |none=>rfl|some o=>rw[f a o z]at e;cases e
 refine⟨λa o q _=>by rw[cp (c a o q)];exact q,λa q=>?_,⟨[],by simp,λ_ q=>by simp at q⟩,rfl,λ_ _=>rfl⟩;cases e:H a with
 |none=>exact absurd e q|some v=>rw[cp (c a v e),e];simp
theorem aw.empty (G0:aw K H ι g)(f:∀b,H b≠none->H' b≠none\/b ∉ ι.ix++ι.hd)(j:∀q∈K.lx.tb,H' q.1=H q.1):aw K H' (Ix.none ι) []:=
 ⟨abB,rfl,λb e=>⟨by simp[Ix.none],by
  have a:b∈ι.ix++ι.hd:=e;rcases Zy.mp a with m|m
  . exact(f b (G0.jV m)).elim id λz=>absurd a z
  . exact(f b (G0.cH b m).2).elim id λz=>absurd a z⟩,λi xs q=>by simp at q,λq c=>⟨by rw[j q c];exact(G0.tb q c).1,by simp[Ix.none]⟩⟩
theorem II (G0:aw K H ι g)(f:∀b o,m b=some o->H b=some (oK b o)/\b ∉ ι.ix)(e:Ext (cS m H) (Ix.none ι) H' ι'):Ext H ι (dP m H') ι/\aw K (dP m H') ι g /\ ∀a∈ι.ix,H' a=H a:=by
 have sm:∀a o,m a=none->H a=some o->H' a=some o:=λa o z q=>e.same a o (by rw[bR z];exact q) (by simp[Ix.none]);have E0:Ext H ι (dP m H') ι:=by
  refine⟨λa o q _=>?_,λa q=>?_,⟨[],by simp,λ_ q=>by simp at q⟩,rfl,λ_ _=>rfl⟩
  . cases z:m a with
    |none=>rw[cp z];exact sm a o z q|some o'=>rw[iS z];rw[(f a o' z).1]at q;exact q
  . cases z:m a with
    |some o'=>rw[iS z];simp
    |none =>
     rw[cp z];exact e.there a (by rw[bR z];exact q)
 have same:∀a∈ι.ix,H' a=H a/\m a=none:=λa c=>by
  have z:m a=none:=by
    cases z:m a with
    |none=>rfl|some o=>exact absurd c (f a o z).2
  obtain⟨o,ev,_⟩:=G0.lst c;exact⟨by rw[ev];exact sm a o z ev,z⟩
 exact⟨E0,G0.ext E0 λa c=>by rw[cp (same a c).2];exact(same a c).1,λa c=>(same a c).1⟩
theorem IJ (G0:aw K H ι g)(i:∀b o,m b=some o->H b=none)(e:Ext (dP m H) (Ix.none ι) H' ι'):Ext H ι (cS m H') ι/\aw K (cS m H') ι g/\(∀a∈ι.ix,H' a=H a) /\ ∀b o,m b=some o->H' b=some (oK b o):=by
 have f:∀a v,H a=some v->m a=none:=λa v e=>by
  cases z:m a with
  |none=>rfl|some o=>rw[i a o z]at e;cases e
 have sm:∀a o,H a=some o->H' a=some o:=λa o q=>e.same a o (by rw[cp (f a o q)];exact q) (by simp[Ix.none]);have E0:Ext H ι (cS m H') ι:=by
  refine⟨λa o q _=>by rw[bR (f a o q)];exact sm a o q,λa q=>?_,⟨[],by simp,λ_ q=>by simp at q⟩,rfl,λ_ _=>rfl⟩;cases z:H a with
  |none=>exact absurd z q|some v=>rw[bR (f a v z),sm a v z];simp
 have same:∀a∈ι.ix,H' a=H a/\m a=none:=λa c=>by obtain⟨o,ev,_⟩:=G0.lst c;exact⟨by rw[ev];exact sm a o ev,f a o ev⟩
 exact⟨E0,G0.ext E0 λa c=>by rw[bR (same a c).2];exact(same a c).1,λa c=>(same a c).1,λb o z=>e.same b _ (iS z) (by simp[Ix.none])⟩
end
noncomputable def dk (fn:Fn):Fn:=λds g=>if fL ds=true then(eU fn ds g).bind λr=>if j6 r.1=true then some r else none else none
theorem qc {fn:Fn}{ds g d g'}(h:dk fn ds g=some (d,g')):fL ds=true/\aN 0 ds=true/\(∃gx,fn ds []=some (d,gx))/\bQ 0 d=true/\j6 d=true/\g'=g:=by
 unfold dk at h;split at h
 . rename_i z
   obtain⟨⟨j,g1⟩,f,h⟩:=bind_some h;split at h
   . rename_i i
     cases h;obtain⟨a,b,c,e⟩:=iG f;exact⟨z,a,b,c,i,e⟩
   . cases h
 . cases h
noncomputable def gy (fn:Fn):Fn:=λds g=>(eU fn ds g).bind λr=>if j6 r.1=true then some r else none
theorem z9 {fn:Fn}{ds g d g'}(h:gy fn ds g=some (d,g')):aN 0 ds=true/\(∃gx,fn ds []=some (d,gx))/\bQ 0 d=true/\j6 d=true/\g'=g:=by
 unfold gy at h;obtain⟨⟨j,g1⟩,i,h⟩:=bind_some h;split at h
 . rename_i f
   cases h;obtain⟨a,b,c,e⟩:=iG i;exact⟨a,b,c,f,e⟩
 . cases h
structure uo (l:dR):Prop where
 kind:l.sc.kind = .function
 co:l.sc.isCoroutine=false
 gen:l.sc.isGenerator=false
 Gi:∀y∈l.sc.names,y.2 ≠ .cell
 fr:∀x,l.sc.names.lookup x=some .free->x∈l.fv
 fv:∀x∈l.fv,l.sc.names.lookup x=some .free
 ps:∀x∈l.ps,l.sc.names.lookup x=some .local
 nd:(l.fv++l.ps).Nodup
 bind:∀(cl:List (Str×Addr)) (pm dy fE:Value) (us:List Value),us.length=l.ps.length->adV (afp "<lambda>" l.qual l.ar l.bd l.sc cl pm dy fE) ⟨us,[]⟩=pure (l.ps.zip us)
noncomputable def nU (lx:Lx)(P:ZW)(w:World)(K:ZF)(mg:Str->Option Value)(base:Heap)(l:dR)(a:List (Str×Addr))(f:Addr)(b:Value)(A:ZY)(outer:List Env)(s:Zo)(H:Hp):Cx where
 prog:=P
 w:=w
 K:=K
 mg:=mg
 base:=base
 A:=A.deeper (adN l.qual l.sc s.heap.objs.size f b a)
 N:=l.fv++l.ps
 s₀:=s
 H₀:=H
 env:=adN l.qual l.sc s.heap.objs.size f b a
 outer:=outer
 stack:=adN l.qual l.sc s.heap.objs.size f b a::outer
 ex:=[]
 calm:=true
 fn:=λ_=>false
 pn:=[]
 lx:=lx
 xe:=λ_ _=>False
theorem cK.mem {H:Hp}{ι:Ix}:∀{cl:List (Str×Addr)} {vs:List V},cK H ι cl vs->∀c∈cl.map (·.2),∃o u,Xo H ι c (oK c o)/\o.data = .cell (some u)
 |_,_,.nil,c,h=>by simp at h
 |_,_,.cons (c:=c0) (o:=o) (u:=u) x d r t,c,h=>by
  rcases Zx.mp h with rfl|h
  . exact⟨o,u,x,d⟩
  . exact t.mem c h
theorem cK.get {H:Hp}{ι:Ix}:∀{cl:List (Str×Addr)} {vs:List V},cK H ι cl vs->∀{i:Nat} {v:V},vs[i]? = some v->∃y c o u,cl[i]? = some (y,c)/\Xo H ι c (oK c o)/\o.data = .cell (some u)/\RelV v u
 |_,_,.nil,_,_,h=>by simp at h|_,_,.cons (y:=y) (c:=c) (o:=o) (u:=u) x d r t,0,v,h=>by simp at h;subst h;exact⟨y,c,o,u,rfl,x,d,r⟩|_,_,.cons x d r t,i+1,v,h=>by obtain⟨y,c,o,u,b,a⟩:=t.get (i:=i) (by simpa using h);exact⟨y,c,o,u,by simpa using b,a⟩
theorem cK.len {H:Hp}{ι:Ix}:∀{cl:List (Str×Addr)} {vs:List V},cK H ι cl vs->cl.length=vs.length
 |_,_,.nil=>rfl|_,_,.cons x d r t=>by simp[t.len]
theorem eV {a:Type}:∀{cl:List (Str×a)} {y:Str} {c:a},(cl.map (·.1)).Nodup->(y,c)∈cl->cl.lookup y=some c
 | [],_,_,_,h=>by simp at h
 | (z,e)::cl,y,c,nd,h=>by
  rw[Z9];rw[aaE,aaU]at nd;rcases Zx.mp h with h|h
  . cases h;simp
  . rw[show(y == z)=false from beq_eq_false_iff_ne.mpr λe=>nd.1 (by rw[<- e];exact aay (f:=(·.1)) h)]
    exact eV nd.2 h
theorem m7:∀{cl:List (Str×Addr)} {x y:Str} {c:Addr},(cl.map (·.2)).Nodup->(x,c)∈cl->(y,c)∈cl->x=y
 | [],_,_,_,_,h,_=>by simp at h
 | (z,e)::cl,x,y,c,nd,h1,h2=>by
  rw[aaE,aaU]at nd;rcases Zx.mp h1 with a|a<;>rcases Zx.mp h2 with b|b
  . cases a;cases b;rfl
  . cases a;exact absurd (aay (f:=(·.2)) b) nd.1
  . cases b;exact absurd (aay (f:=(·.2)) a) nd.1
  . exact m7 nd.2 a b
theorem rF {ps:List Str}{us:List Value}{i:Nat}{x:Str}{u:Value}(nd:ps.Nodup)(c:us.length=ps.length)(a:ps[i]? = some x)(b:us[i]? = some u):(ps.zip us).reverse.lookup x=some u:=by refine eV ?_ (ado.mpr (ZP (i:=i) (acQ.mpr ⟨a,b⟩)));rw[List.map_reverse,(List.reverse_perm _).nodup_iff,List.map_fst_zip (by omega)];exact nd
noncomputable def bS (a:List (Str×Addr))(h:Heap):Am:=λb=>if b∈a.map (·.2)then h.get? b else none
theorem g_ {c:List (Str×Addr)}{h:Heap}{b:Addr}{o:Obj}(e:bS c h b=some o):b∈c.map (·.2)/\h.get? b=some o:=by
 unfold bS at e;split at e
 . rename_i a;exact⟨a,e⟩
 . cases e
theorem vW {a:List (Str×Addr)}{h:Heap}{b:Addr}{o:Obj}(c:b∈a.map (·.2))(e:h.get? b=some o):bS a h b=some o:=by unfold bS;rw[if_pos c];exact e
section
variable {P:ZW}{K:KW}{base:Heap}{l:dR}{A:ZY}{outer:List Env}{s:Zo}{H:Hp}{ι:Ix}{cl:List (Str×Addr)}{gm vs:List V}{us:List Value}{f:Addr}{cd:Value}
theorem cK.m (c:cK H ι cl gm)(ok:dY P K.w H s.heap):∀b o,bS cl s.heap b=some o->s.heap.get? b=some o/\H b=some (oK b o)/\b ∉ ι.ix:=λb o q=>by obtain⟨a,e⟩:=g_ q;obtain⟨o',u,x,_⟩:=c.mem b a;have this:s.heap.get? b=some o':=(ok b _ x.1).1;rw[e]at this;cases this;exact⟨e,x.1,x.2.1⟩
theorem IK (S:uo l)(M:A.handled=none)(C:oN P K.w K.fr K.mg base A outer s H)(I:cl.map (·.1)=l.fv)(L:(cl.map (·.2)).Nodup)(J:cK H ι cl gm)(N:vs.length=l.ps.length)(r:Vals vs us){B:Heap}{tk:Tok}
   (O:B.Ns s.heap.objs.size λy=>(l.ps.zip us).reverse.lookup y) (E:∀b o,s.heap.get? b=some o->B.get? b=some o):
   Inv (nU K.lx P K.w K.fr K.mg base l cl f cd A outer s (cS (bS cl s.heap) H)) [] ((gm++vs).map some) (cS (bS cl s.heap) H) { s with heap:=B,toks:=tk }:=by
 have RF:(cl.map (·.1)).Nodup:=by rw[I];exact(abr.mp S.nd).1
 have cm:=J.m C.aS
 have mC:∀x c,cl.lookup x=some c->c∈cl.map (·.2):=λx c e=>aay (f:=(·.2)) (Z5 e)
 have RG:∀c∈cl.map (·.2),∃o u,s.heap.get? c=some o/\o.data = .cell (some u):=λc hc=>by obtain⟨o,u,x,d⟩:=J.mem c hc;exact⟨o,u,(C.aS c _ x.1).1,d⟩
 have RH:gm.length=l.fv.length:=by rw[<- J.len,<- I,Z2]
 have pC:∀b:Addr,b ∉ (nU K.lx P K.w K.fr K.mg base l cl f cd A outer s (cS (bS cl s.heap) H)).ex:=λb z=>absurd (show b∈([]:List Addr) from z) (by simp);refine⟨⟨C.mod,S.kind,rfl,rfl,Zu _,λy z c B j=>?_,λy k=>?_,λy c hf _=>(aaT hf).elim,λ_=>M,afr C.frames,.inr ⟨rfl,rfl⟩,λb z=>absurd z (pC b),λb o e=>⟨(C.bs b o e).1,jr (C.bs b o e).2⟩,C.mI,λb _ _=>pC b,λb z=>absurd z (pC b),C.gS,λb hb=>jr (C.pv b hb)⟩,
   rfl,C.bare,Un.kept E,⟨_,O,λi y v B j h3=>?_⟩,λy c h=>?_,jr (C.aS.fresh (Zu _)),λy c h=>?_,λp hp=>absurd (show p∈([]:List (Addr×Obj)) from hp) (by simp),(Ca C.aS λb o q=>(cm b o q).2.1).kept E,?_⟩
 . exact m7 L (Z5 B) (Z5 j)
 . have k:l.sc.names.lookup y=some .cell\/l.sc.names.lookup y=some .free:=k
   rcases k with k|k
   . exact absurd rfl (S.Gi _ (Z5 k))
   . have:=S.fr y k
     rw[<- I]at this;obtain⟨⟨y',c⟩,hm,rfl⟩:=ZK.mp this;exact⟨c,eV RF hm⟩
 . have B:(l.fv++l.ps)[i]? = some y:=B
   have j:((gm++vs).map some)[i]? = some (some v):=j;rw[ZE]at j;have j:(gm++vs)[i]? = some v:=by
     cases e:(gm++vs)[i]? with
     |none=>rw[e]at j;cases j|some a=>rw[e]at j;cases j;rfl
   by_cases hi:i<gm.length
   . rw[ZI hi]at j
     rw[ZI (by omega)]at B;obtain⟨y',c,o,u,e1,x,d,rv⟩:=J.get j;have ey:y'=y:=by
      have:(cl.map (·.1))[i]? = some y':=by rw[ZE,e1];rfl
      rw[I,B]at this;cases this;rfl
     subst ey;refine⟨u,rv,.inr ⟨.inr (S.fv y' (ZP B)),c,eV RF (ZP e1),o,E _ _ (C.aS c _ x.1).1,d⟩⟩
   . rw[ZX (by omega)]at j
     rw[ZX (by omega),<- RH]at B;obtain⟨u,hu,rv⟩:=r.get j;refine⟨u,rv,.inl ⟨S.ps y (ZP B),rF (abr.mp S.nd).2.1 (by rw[<- r.length];exact N) B hu⟩⟩
 . obtain⟨o,u,e,d⟩:=RG c (mC y c h)
   exact⟨some u,o,E _ _ e,d⟩
 . obtain⟨o,u,e,d⟩:=RG c (mC y c h)
   exact iU (vW (mC y c h) e)
 . show((gm++vs).map some).length=(l.fv++l.ps).length
   rw[Z2,ZH,ZH];omega
end
structure qd (P:ZW)(K:KW)(base:Heap)(k:Nat)(x:Str)(fn:Fn):Prop where
 run:∀(A:ZY) (outer:List Env) (s:Zo) (H:Hp) (ι:Ix) (a:Addr) (gm vs:List V) (us:List Value) (Q:VK) (ds es:List D) (d:D) (g g':G),dn k A->oN P K.w K.fr K.mg base A outer s H->Bs K H ι x a gm->Vals vs us->aw K H ι g->aj K H ι ds gm->aj K H ι es vs ->
  dk fn (ds++es) g=some (d,g')->fF K H ι d g' Q->acK (model P K.w) A (.call (.ref a) ⟨us,[]⟩) (CR gX outer P K.w H s Q E0) s
noncomputable def bO (nf n:Nat)(f:FE):Fn:=λds g=>if ds.length=nf+n then f (ds.map some) g else none
theorem Ey {P:ZW}{K:KW}{base:Heap}{k:Nat}{x:Str}{fn:Fn}(i:∀ds g,fn ds g=none):qd P K base k x fn:=⟨λA outer s H ι a c f us Q ds b d g e _ _ _ _ _ _ _ h _=>by obtain⟨_,_,⟨gx,h⟩,_⟩:=qc h;rw[i]at h;cases h⟩
theorem Mp {P:ZW}{K:KW}{base:Heap}{k:Nat}{x:Str}{l:dR}{f:FE}(S:uo l)(E:K.lx.lm x=some l)
   (B:∀(cl:List (Str×Addr)) (a:Addr) (cd:Value) (A:ZY) (outer:List Env) (s:Zo) (H:Hp),dn k (A.deeper (adN l.qual l.sc s.heap.objs.size a cd cl))->DE (nU K.lx P K.w K.fr K.mg base l cl a cd A outer s H) l.bd f):
   qd P K base (k+1) x (bO l.fv.length l.ps.length f):=by
 refine⟨λA outer s H ι a gm vs us Q ds es d g g' hr j C rv G0 rd re h p=>?_⟩;obtain⟨l',c,fE,pm,cl,gH,hf,hc,hn,hd2,hv⟩:=C;rw[E]at gH;cases gH;obtain⟨z1,z2,⟨gx,hx⟩,z3,z4,rfl⟩:=qc h;unfold bO at hx;split at hx
 . rename_i hlen
   have RH:gm.length=l.fv.length:=by rw[<- hv.len,<- hn,Z2]
   have RJ:vs.length=l.ps.length:=by have h1:=rd.length;have h2:=re.length;rw[ZH]at hlen;omega
   have W7:us.length=l.ps.length:=by rw[<- rv.length];exact RJ
   have KX:K.fr.In s.heap:=j.mod.kz.keeps λb o e=>(j.bs b o e).1;have lim:s.heap.NoLimit:=j.mod.nolimit.keeps λb o e=>(j.bs b o e).1;have ho:=(j.aS a _ hf.1).1;have i5:s.heap.CodeRec (.ref c) l.qual:=j.aS c _ hc.1;have cm:=hv.m j.aS;refine PySem.W.kla_callFunE hr.depth ho rfl S.co S.gen rfl i5 ?_;rw[S.bind cl pm (.ref c) fE us W7];refine Zp (wpAny_newFunctionEnv S.Gi (λy hy=>S.ps y.1 (adG hy).1) (λh1 sC Cb=>⟨lim.fresh _ Cb,?_⟩) S.kind);show acK _ _ (.expr l.bd (adN l.qual l.sc s.heap.objs.size a (.ref c) cl)) _ _;have hk:∀b o,s.heap.get? b=some o->h1.get? b=some o:=λb o e=>Cb.extBut b o (Z1 (ZG e)) (Zs _ e);have I:Inv (nU K.lx P K.w K.fr K.mg base l cl a (.ref c) A outer s (cS (bS cl s.heap) H)) [] ((gm++vs).map some) (cS (bS cl s.heap) H) { s with heap:=h1,toks:=s.toks+(l.ps.zip us).length }:=IK S hr.hd j hn hd2 hv RJ rv sC hk;have rl:aj K (cS (bS cl s.heap) H) (Ix.none ι) (ds++es) (gm++vs):=aj.vV (λb o q=>(cm b o q).2.1) _ z1 (aj.toN _ z2 (rd.append re));have Ge:aw K (cS (bS cl s.heap) H) (Ix.none ι) []:=G0.empty (λb n=>by
    cases q:bS cl s.heap b with
    |none=>exact .inl (by rw[bR q];exact n)
    |some o =>
     obtain⟨o',u,x,_⟩:=hv.mem b (g_ q).1;exact .inr λz=>(Zy.mp z).elim x.2.1 (x.2.2 rfl)) λq hq=>bR (by
     cases z:bS cl s.heap q.1 with
     |none=>rfl|some o=>have:=(cm q.1 o z).2.1;rw[(G0.tb q hq).1]at this;cases this)
   have rs:bH K (cS (bS cl s.heap) H) (Ix.none ι) ((ds++es).map some) ((gm++vs).map some):=by
    refine⟨by rw[Z2,Z2];exact rl.length,λi dd q=>?_⟩;rw[ZE]at q;cases e:(ds++es)[i]? with
    |none=>rw[e]at q;cases q
    |some YX =>
     rw[e]at q;cases q;obtain⟨v,e1,e2⟩:=rl.get e;exact⟨v,by rw[ZE,e1];rfl,e2⟩
   refine PySem.W.kla_codeExpr (adB ((B cl a (.ref c) A outer s _ (hr.deeper _)).un [] _ _ _ (λv H'=>∃ι',Ext (cS (bS cl s.heap) H) (Ix.none ι) H' ι'/\Rel K H' ι' d v) I ⟨Ix.none ι,_,[],d,gx,Ge,rs,hx,λH' ι' v e _ r=>⟨ι',e,r⟩⟩) (λu s' hs=>?_) λe s' z=>z.elim);obtain⟨v,H',J,W8,ι',e,r'⟩:=hs;obtain⟨ab,G1,same⟩:=II G0 (λb o q=>(cm b o q).2) e;have jb:Un (jW outer) [] (cS (bS cl s.heap) H) H' s.heap s'.heap:=J.base;have W9:=Mm jb λb o q=>⟨(cm b o q).1,(cm b o q).2.1⟩
   have back:∀b o,bS cl s.heap b=some o->s'.heap.get? b=some o/\H' b=none:=λb o q=>by
    have n:cS (bS cl s.heap) H b=none:=iU q;refine⟨?_,jb.free b o (cm b o q).1 n (by simp)⟩;have nf:b ∉ jW outer:=λz=>by have:=j.pv b z;rw[(cm b o q).2.1]at this;cases this
    exact jb.keep b o (cm b o q).1 n nf (by simp)
   refine⟨v,dP (bS cl s.heap) H',J.os,J.bare,W9,B_ J.aS back,W8,p _ ι v ab G1 ?_⟩;refine Rel.ext (Ext.jV λb o q=>(back b o q).2) d (Rel.pV e.cH (λb B=>?_) d z3 r');obtain⟨o,ev,Mq⟩:=G0.lst B;exact⟨o,by rw[same b B];exact ev,Mq⟩
 . cases hx
noncomputable def lP (sc:Scope):List Str:=((sc.names.filter (·.2 == .free)).map (·.1)).reverse
theorem lQ {c:Str->Addr}{f:Str×aby->List (Str×Addr)->Sem (ForInStep (List (Str×Addr)))}:∀(L:List (Str×aby)) (cs:List (Str×Addr)),(∀x r,(x,aar)∈L->f (x,.free) r=pure (.yield ((x,c x)::r))) ->
  (∀x k r,(k == aar)=false->f (x,k) r=pure (.yield r))->forIn L cs f=pure ((((L.filter (·.2 == .free)).map (·.1)).reverse.map λx=>(x,c x))++cs)
 | [],cs,_,_=>by simp
 | (nm,kd)::L,cs,h1,h2=>by
  rw[adL];cases hk:kd == aar with
  |true =>
   have e:kd = .free:=eq_of_beq hk;subst e;rw[h1 nm cs ZU,pure_bind];show forIn L _ f=_;rw[lQ L _ (λx r a=>h1 x r (Zz _ a)) h2];simp
  |false =>
   rw[h2 nm kd cs hk,pure_bind];show forIn L _ f=_;rw[lQ L _ (λx r a=>h1 x r (Zz _ a)) h2];simp[hk]
theorem t6 {sc:Scope}{env:Env}{c:Str->Addr}(h:∀x,(x,aar)∈sc.names->env.cells.lookup x=some (c x)):aey sc env=pure ((lP sc).map λx=>(x,c x)):=by
 unfold aey lP;refine(congrArg (λz=>z >>= _) (lQ (c:=c) sc.names [] (λx r b=>?_) λx k r a=>?_)).trans ?_
 . simp[cellOf,h x b]
 . simp[a]
 . rw[pure_bind,aaL]
structure uq (X:Cx)(p:Pos)(x:Str)(l:dR):Prop where
 lm:X.lx.lm x=some l
 S:uo l
 RK:l.fv=lP l.sc
 df:l.ar.defaults = []
 kd:l.ar.kw_defaults = []
 tab:∃cc P,X.env.code = .ref cc/\aha X.base cc P/\(P,p,l.qual)∈X.lx.tb
 qual:X.env.qual ++ "<lambda>" = l.qual
 cells:∀y∈l.fv,X.env.scope.names.lookup y=some .cell
 al:∀y,X.fn y=true
inductive yg (X:Cx)(σ:L2.St):List (Str×Addr)->List V->Prop
 |nil:yg X σ [] []
 |cons {y:Str} {c:Addr} {v:V} {cl:List (Str×Addr)} {vs:List V} {i:Nat} (e:X.env.cells.lookup y=some c) (k:X.env.scope.names.lookup y=some .cell) (hN:X.N[i]? = some y) (hσ:σ[i]? = some (some v)) (t:yg X σ cl vs):yg X σ ((y,c)::cl) (v::vs)
inductive Ez (X:Cx)(H:Hp)(ι:Ix)(σ:L2.St):D->V->Prop
 |val {d:D} {v:V} (r:Rel X.kw H ι d v):Ez X H ι σ d v
 |lam {x:Str} {ds:List D} {l:dR} {a c:Addr} {fE pm:Value} {cl:List (Str×Addr)} {vs:List V} (hl:X.lx.lm x=some l) (hf:Xo H ι a (oK a (adK "<lambda>" l.qual l.ar l.bd l.sc cl pm c fE))) (hc:Xo H ι c (.hZ l.qual)) (hn:cl.map (·.1)=l.fv) (hd:(cl.map (·.2)).Nodup) (hv:yg X σ cl vs) (r:aj X.kw H ι ds vs):Ez X H ι σ (.fn x ds) (.ref a)
inductive m8 (X:Cx)(H:Hp)(ι:Ix)(σ:L2.St):List D->List V->Prop
 |nil:m8 X H ι σ [] []
 |cons {d:D} {v:V} {ds:List D} {vs:List V} (r:Ez X H ι σ d v) (t:m8 X H ι σ ds vs):m8 X H ι σ (d::ds) (v::vs)
theorem m8.len {X:Cx}{H ι σ}:∀{ds vs},m8 X H ι σ ds vs->ds.length=vs.length
 |_,_,.nil=>rfl|_,_,.cons r t=>by simp[t.len]
inductive tQ (X:Cx)(f:FA)(σ:L2.St)(H:Hp)(Q:List V->Hp->Prop):Prop
 |mk (ι:Ix) (σd:Sg) (g:G) (ds:List D) (g':G) (h0:aw X.kw H ι g) (h1:bH X.kw H ι σd σ) (h2:f σd g=some (ds,g')) (h3:∀H' ι' vs,Ext H ι H' ι'->aw X.kw H' ι' g'->m8 X H' ι' σ ds vs->Q vs H'):tQ X f σ H Q
structure vX (X:Cx)(es:List Expr)(f:FA):Prop where of ::
 un:PA X es (tQ X f)
section
variable {X:Cx}{e:Expr}{es:List Expr}{fa:FE}{fr:FA}
theorem IL:vX X [] ag:=.of (PA.imp mN λσ H Q h=>by obtain⟨ι,b,g,d,a,G0,c,h,p⟩:=h;cases h;exact p H ι _ Ext.refl G0 .nil)
theorem EA (B:DE X e fa)(C:vX X es fr)(A:ZO (e::es) X.env=(false,eval e X.env)::ZO es X.env):vX X (e::es) (aa fa fr):=.of (
 PA.imp (kB B.un C.un A) λσ H Q h=>by obtain⟨ι,b,g,d,g',G0,s,h,p⟩:=h;obtain⟨⟨d1,g1⟩,r,h⟩:=bind_some h;obtain⟨⟨z,g2⟩,c,h⟩:=bind_some h;cases h;refine tD.bind G0 s r λH1 o v j l f k=>?_;refine⟨o,b,g1,z,g2,l,f,c,λq i u a x y=>?_⟩;exact p q i _ (j.trans a) x (.cons (.val (Rel.ext a _ k)) y))
noncomputable def rG:List Nat->Sg->Option (List D)
 | [],_=>some []
 |i::is,σ=>match σ[i]? with
  |some (some d)=>(rG is σ).map (d :: ·)|_=>none
noncomputable def lR (x:Str)(is:List Nat):FE:=λσ g=>(rG is σ).map λds=>(.fn x ds,g)
def Cc (N:List Str)(is:List Nat)(ys:List Str):Prop:=is.length=ys.length /\ ∀(j:Nat) i y,is[j]? = some i->ys[j]? = some y->N[i]? = some y
theorem Cd {X:Cx}{H:Hp}{ι:Ix}{A:Sg}{σ:L2.St}(B:bH X.kw H ι A σ){c:Str->Addr}:∀{is:List Nat} {ys:List Str} {ds:List D},Cc X.N is ys->(∀y∈ys,X.env.cells.lookup y=some (c y))->(∀y∈ys,X.env.scope.names.lookup y=some .cell)->rG is A=some ds ->
  ∃vs,yg X σ (ys.map λy=>(y,c y)) vs/\aj X.kw H ι ds vs
 | [],[],ds,_,_,_,h=>by cases h;exact⟨[],.nil,by simp[aj]⟩| [],_::_,_,q,_,_,_=>by have:=q.1;simp at this|_::_,[],_,q,_,_,_=>by have:=q.1;simp at this
 |i::is,y::ys,ds,q,hc,hk,h=>by
  unfold rG at h;split at h
  . rename_i d hd
    obtain⟨x,l,rfl⟩:=Zv.mp h;obtain⟨vs,s,r⟩:=Cd B (is:=is) (ys:=ys) ⟨by have:=q.1;simpa using this,λj k f a b=>q.2 (j+1) k f (by simpa using a) (by simpa using b)⟩ (λz e=>hc z (Zz _ e)) (λz e=>hk z (Zz _ e)) l;obtain⟨v,u,o⟩:=B.2 i d hd;refine⟨v::vs,.cons (hc y ZU) (hk y ZU) (q.2 0 i y rfl rfl) u s,?_⟩;simp only[aj];exact⟨v,vs,rfl,o,r⟩
  . cases h
theorem Mr {p:Pos}{x:Str}{l:dR}(L:uq X p x l){a8:List (Addr×Obj)}{σ:L2.St}{s:Zo}{H:Hp}{ι:Ix}{g:G}(I:Inv X a8 σ H s)(G0:aw X.kw H ι g){Q:Value->Zo->Prop}
   (q:∀a c fE pm s' H',Inv X a8 σ H' s'->Ext H ι H' ι->aw X.kw H' ι g->Xo H' ι a (oK a (adK "<lambda>" l.qual l.ar l.bd l.sc (l.fv.map λy=>(y,(X.env.cells.lookup y).getD 0)) pm c fE))->Xo H' ι c (.hZ l.qual)->Q (.ref a) s'):
   wpAny (model X.prog X.w) X.A (eval (.Lambda l.ar l.bd l.sc p) X.env) Q X.xe s:=by
 obtain⟨cc,P,Gj,W_,Ms⟩:=L.tab;obtain⟨hP,YZ⟩:=G0.tb _ Ms;have hP:H P=some (.cw p l.qual):=hP;have ie:aey l.sc X.env=pure (l.fv.map λy=>(y,(X.env.cells.lookup y).getD 0)):=by
   rw[L.RK];refine t6 (c:=λy=>(X.env.cells.lookup y).getD 0) λy hy=>?_;have:y∈l.fv:=by rw[L.RK];unfold lP;rw[ado];exact ZK.mpr ⟨(y,.free),aa5.mpr ⟨hy,rfl⟩,rfl⟩
   obtain⟨c,e⟩:=I.ok.has y (.inl (L.cells y this));rw[e];rfl
 obtain⟨ps,eP,ht,Pn⟩:=I.aS P _ hP;have hg:s.heap.Ns Z_ X.mg:=I.mod.glob.keeps I.bk;have C:aha s.heap cc P:=W_.keeps I.bk;obtain⟨bm,ob,B⟩:=I.mod.bm;have Xa:Z_≠P:=λz=>by obtain⟨o,es,ep,e,d,_⟩:=hg;rw[z,eP]at e;cases e;cases d
 have Xb:bm≠P:=λz=>by have:=I.bk _ _ B.obj;rw[z,eP]at this;cases this;have z2:aa_ = .type "module":=B.cls;cases z2
 have Xc:bm≠Z_:=λz=>by obtain⟨o,es,ep,e,d,_⟩:=hg;have:=I.bk _ _ B.obj;rw[z,e]at this;cases this;rw[B.data]at d;cases d
 have hb:s.heap.BuiltinsAt X.mg P:=⟨bm,ob,B.name,B.ne,Xc,Xb,I.bk _ _ B.obj,B.cls,B.dict,B.data⟩
 refine PySem.W.kla_eval (by rw[defaultsOf_eq,L.df,L.kd];rfl) ?_;rw[L.qual];rcases Pn with FY|⟨c,hf,hc⟩
 . refine PySem.W.kla_makeFunction (mg:=X.mg) ie I.ok.glob hg Gj C eP ht FY Xa hb λc' fE f tk hx Mt cX Ul Mu=>?_
   have j:H c'=none:=I.aS.fresh Mt;have Mv:s.heap.objs.size<=f.objs.size:=Z4 Mt (aco cX);have h:H f.objs.size=none:=I.aS.fresh Mv;have BI:f.objs.size≠c':=adF cX;have Y0:c'≠P:=λz=>by rw[z,hP]at j;cases j
   have Y1:f.objs.size≠P:=λz=>by rw[z,hP]at h;cases h
   have e1:Ext H ι (upd H c' (.hZ l.qual)) ι:=Ext.lay j;have z_:upd H c' (.hZ l.qual) f.objs.size=none:=by rw[aC BI];exact h
   have e2:=λo=>Ext.lay (ι:=ι) (o:=o) z_;have G1:aw X.kw (upd H c' (.hZ l.qual)) ι g:=G0.lay j;have qf:∀(o:Obj) b ob,b≠P->s.heap.get? b=some ob->(f.push o).get? b=some ob:=λo b ob n e=>Zs _ (hx b ob n e);have got:∀o:Obj,o.isFreed=false->(f.push o).get? f.objs.size=some o:=λo z=>ZC _ z;refine q _ c' fE ((X.mg "__name__").getD .none) _ (upd (upd H c' (.hZ l.qual)) f.objs.size (oK f.objs.size _)) (I.un (t':=tk) ⟨λb ob e n _ _=>qf _ b ob (λz=>by rw[z,hP]at n;cases n) e,λb ob e n _ _=>⟨ob.slots,qf _ b ob (λz=>by rw[z,hP]at n;cases n) e⟩,λb ob e n _=>?_,λb ob e _=>?_,λb xs e=>?_,λb ob u e=>?_,λb u _ e=>?_⟩ λb u e=>?_) (e1.trans (e2 _)) (G1.lay z_) ⟨aP,G1.fresh z_,λ_=>G1.gY z_⟩ ⟨by rw[aC (abi BI)];exact aP,G0.fresh j,λz=>(by cases z)⟩
   . have l1:=ZG e
     rw[aC (Z1 (ZZ l1 Mv)),aC (Z1 (ZZ l1 Mt))];exact n
   . by_cases z:b=P
     . rw[z];exact⟨_,Zs _ Mu⟩
     . exact⟨ob,qf _ b ob z e⟩
   . rw[aC (aK e h),aC (aK e j)];exact e
   . rw[aC (aK e h),aC (aK e j)];exact e
   . rw[aC (aK e h),aC (aK e j)];exact e
   . have lift:∀b u,H b=some u->upd (upd H c' (.hZ l.qual)) f.objs.size (oK f.objs.size (adK "<lambda>" l.qual l.ar l.bd l.sc (l.fv.map λy=>(y,(X.env.cells.lookup y).getD 0)) ((X.mg "__name__").getD .none) c' fE)) b=some u:=λb u e=>by
       rw[aC (aK e h),aC (aK e j)];exact e
     by_cases za:b=f.objs.size
     . subst za
       rw[aP]at e;cases e;exact⟨got _ rfl,⟨_,got _ rfl⟩,λh1 h2 p k=>k _ p⟩
     . rw[aC za]at e
       by_cases zc:b=c'
       . subst zc
         rw[aP]at e;cases e;exact Ul.push _
       . rw[aC zc]at e
         by_cases zp:b=P
         . subst zp
           rw[hP]at e;cases e;refine⟨_,Zs _ Mu,?_,.inr ⟨c',?_,?_⟩⟩
           . rw[afL];exact TriplesOk_snoc _ _ _ _ ht
           . rw[afL];exact codeAmong_snoc _ ht FY
           . rw[aC (abi BI)];exact aP
         . refine(I.aS b u e).c9 (λd v hd r=>qf _ d v ?_ r) (λd r=>lift d _ r) (λd xs r=>lift d _ r) λd r' r=>lift d _ r
           rcases hd with rfl|hd
           . exact zp
           . intro z;rw[z,hP]at hd;cases hd
 . refine PySem.W.kla_makeFunctionHit (mg:=X.mg) ie I.ok.glob hg Gj C eP ht hf hb λfE f tk hk i6=>?_
   have h:H f.objs.size=none:=I.aS.fresh i6;have kk:∀(o:Obj) b ob,s.heap.get? b=some ob->(f.push o).get? b=some ob:=λo b ob e=>Zs _ (hk b ob e);have got:∀o:Obj,o.isFreed=false->(f.push o).get? f.objs.size=some o:=λo z=>ZC _ z;have j:c ∉ ι.ix:=λz=>by
     obtain⟨o,ev,_⟩:=id (G0.lst z);rw[hc]at ev;cases ev;obtain⟨i,hi,e⟩:=aaW.mp z;have Xd:i<g.length:=by rw[<- G0.len];exact hi
     obtain⟨b,o,vs,hb,h1,ov,_⟩:=G0.at_ i _ (Zn Xd);rw[Zn hi,e]at hb;cases hb;rw[hc]at h1;cases h1;generalize ι.kd i=kk at ov;cases ov
   have e2:=λo=>Ext.lay (ι:=ι) (o:=o) h;refine q _ c fE _ _ (upd H f.objs.size (oK f.objs.size _)) (I.laid (t':=tk) (kk _) i6 ⟨got _ rfl,⟨_,got _ rfl⟩,λh1 h2 p k=>k _ p⟩) (e2 _) (G0.lay h) ⟨aP,G0.fresh h,λ_=>G0.gY h⟩ ⟨by rw[aC (aK hc h)];exact hc,j,λz=>(by cases z)⟩
end
theorem nodup_map_on {k o:Type}{f:k->o}:∀{l:List k},(∀x∈l,∀y∈l,f x=f y->x=y)->l.Nodup->(l.map f).Nodup
 | [],_,_=>abB|x::l,h,nd=>by rw[aaE,aaU];rw[aaU]at nd;refine⟨λz=>?_,nodup_map_on (λa i b j=>h a (Zz _ i) b (Zz _ j)) nd.2⟩;obtain⟨y,c,e⟩:=ZK.mp z;have:=h y (Zz _ c) x ZU e;rw[this]at c;exact nd.1 c
section
variable {X:Cx}{es:List Expr}{fr:FA}{p:Pos}{x:Str}{l:dR}{is:List Nat}
theorem IM (L:uq X p x l)(A:Cc X.N is l.fv)(B:vX X es fr):vX X (.Lambda l.ar l.bd l.sc p::es) (aa (lR x is) fr):=.of (by
 intro pos a8 s σ H Q I h;obtain⟨ι,σd,g,d,g',G0,S0,h,q⟩:=h;obtain⟨⟨d1,g1⟩,j,h⟩:=bind_some h;obtain⟨⟨d2,g2⟩,h2,h⟩:=bind_some h;cases h;unfold lR at j;obtain⟨ds,hc,j⟩:=Zv.mp j;cases j;have k:∀y∈l.fv,X.env.cells.lookup y=some ((X.env.cells.lookup y).getD 0):=λy u=>by obtain⟨c,e⟩:=I.ok.has y (.inl (L.cells y u));rw[e];rfl
 obtain⟨vc,r,rc⟩:=Cd S0 A k L.cells hc;show wpAny _ _ (spliced ((false,eval (.Lambda l.ar l.bd l.sc p) X.env)::abp pos (ZO es X.env))) _ _ s;refine ad7 (Mr L I G0 λa c fE pm s1 H1 I1 o G1 xf xc=>?_);refine aW (B.un pos a8 s1 σ H1 (λf b=>Q (.ref a::f) b) I1 ⟨ι,σd,g,d2,g2,G1,S0.ext o,h2,λb ι2 f i G2 rq=>?_⟩) λus s2 ⟨f,b,I2,r2,q2⟩=>⟨.ref a::f,b,I2,.cons rfl r2,q2⟩
 refine q b ι2 _ (o.trans i) G2 (.cons (.lam L.lm (xf.ext i) (xc.ext i) ?_ ?_ r (aj.ext (o.trans i) _ rc)) rq)
 . rw[abx];exact List.map_id _
 . rw[abx]
   refine nodup_map_on (λy u z hz e=>?_) (abr.mp L.S.nd).1;have e:(X.env.cells.lookup y).getD 0=(X.env.cells.lookup z).getD 0:=e;have h3:=k y u;rw[e]at h3;exact I.ok.inj y z _ h3 (k z hz))
noncomputable def dU (X:Cx):List (Str×Addr):=(X.env.cells.map (·.1)).filterMap λy=>(X.env.cells.lookup y).map λc=>(y,c)
theorem m_ {b:Addr}(h:b∈(dU X).map (·.2)):∃y,X.env.cells.lookup y=some b:=by obtain⟨⟨y,c⟩,hm,rfl⟩:=ZK.mp h;obtain⟨z,_,e⟩:=aa7.mp hm;obtain⟨i,a,f⟩:=Zv.mp e;cases f;exact⟨_,a⟩
theorem Ce {y:Str}{c:Addr}(e:X.env.cells.lookup y=some c):c∈(dU X).map (·.2):=
 ZK.mpr ⟨(y,c),aa7.mpr ⟨y,aay (f:=(·.1)) (Z5 e),by rw[e];rfl⟩,rfl⟩
section
variable {a8:List (Addr×Obj)}{σ:L2.St}{s:Zo}{H:Hp}{ι:Ix}{g:G}
theorem Aa (I:Inv X a8 σ H s):∀b o,bS (dU X) s.heap b=some o->s.heap.get? b=some o/\H b=none:=λb o q=>by obtain⟨c,e⟩:=g_ q;obtain⟨y,a⟩:=m_ c;exact⟨e,I.gu y b a⟩
theorem tf (I:Inv X a8 σ H s)(G0:aw X.kw H ι g):∀{cl:List (Str×Addr)} {vs:List V},yg X σ cl vs->cK (dP (bS (dU X) s.heap) H) ι cl vs
 |_,_,.nil=>.nil
 |_,_,.cons (y:=y) (c:=c) (v:=v) e k hN hσ t=>by
  obtain⟨mm,_,h⟩:=I.loc;obtain⟨u,r,f⟩:=h _ y v hN hσ (.inr (.inl k));rcases f with⟨a,_⟩|⟨_,c',e',o,ho,hd⟩
  . have a:X.env.scope.names.lookup y=some .local:=a
    rw[k]at a;cases a
  . rw[e]at e';cases e'
    have b:=I.gu y c e;exact .cons ⟨iS (vW (Ce e) ho),G0.fresh b,λ_=>G0.gY b⟩ hd r (tf I G0 t)
theorem vY (I:Inv X a8 σ H s)(G0:aw X.kw H ι g):∀{ds:List D} {vs:List V},m8 X H ι σ ds vs->aj X.kw (dP (bS (dU X) s.heap) H) ι ds vs
 |_,_,.nil=>by simp[aj]
 |_,_,.cons r t=>by
  have e:Ext H ι (dP (bS (dU X) s.heap) H) ι:=Ext.jV λb o q=>(Aa I b o q).2;simp only[aj];refine⟨_,_,rfl,?_,vY I G0 t⟩;cases r with
  |val r=>exact Rel.ext e _ r
  |lam hl hf hc hn hd hv r =>
   simp only[Rel];exact⟨_,_,rfl,.inr ⟨_,_,_,_,_,hl,hf.ext e,hc.ext e,hn,hd,tf I G0 hv⟩,aj.ext e _ r⟩
theorem IP (I:Inv X a8 σ H s)(i:∀y,X.fn y=true):oN X.prog X.w X.K X.mg X.base X.A X.stack s (dP (bS (dU X) s.heap) H):=by
 have a:=I.DN;have up:∀b o,bS (dU X) s.heap b=some o->X.s₀.heap.objs.size<=b:=λb o q=>by obtain⟨y,f⟩:=m_ (g_ q).1;exact I.ok.xl y b (i y) f
 refine⟨a.frames,a.mod,λb o e=>⟨(a.bs b o e).1,?_⟩,a.mI,a.gS,λb c=>?_,B_ a.aS (Aa I),a.bare⟩
 . rw[cp ?_]
   . exact(a.bs b o e).2
   . cases z:bS (dU X) s.heap b with
     |none=>rfl|some o'=>exact absurd (ZZ (ZG e) (Z4 I.ok.mI (up b o' z))) (aaS _)
 . rw[cp ?_]
   . exact a.pv b c
   . cases z:bS (dU X) s.heap b with
     |none=>rfl
     |some o' =>
      obtain⟨y,f⟩:=m_ (g_ z).1;rcases Zx.mp (I.pz b c)with e|c
      . exact absurd e (I.rY y b f)
      . obtain⟨_,o,h,_⟩:=I.ok.gS.mem c
        exact absurd (ZZ (ZG h) (up b o' z)) (aaS _)
end
theorem EB {k n:Nat}{f:Addr}{fd:aaM}{ps:List Str}{fn:Fn}{nm:Str}{p B:Pos}{e:Expr}(F:dS X.prog X.w X.kw X.mg X.base gX k f fd ps (j2 X.kw n fn))(E:dn k X.A)(P:X.mg nm=some (.ref f))(M:abn X.kw (.ref f)=true)(C:Binds X.kw fd ps [])(N:∀ds g r,fn ds g=some r->ds.length=n)(K:∀y,X.fn y=true)
  (R:vX X (e::es) fr) (O:Gl X nm) (L:(nm == ("__debug__":Str))=false) (S:ZO (e::es) X.env=(false,eval e X.env)::ZO es X.env) (J:(abp B (ZO es X.env)).any (·.1)=false):DE X (.Call (.Name nm p) (e::es) [] B) (ao (gy fn) fr):=.of (by
 intro a8 s σ H Q I h;obtain⟨ι,σd,g,d,g',G0,S0,h,q⟩:=h;obtain⟨⟨ds,g1⟩,h1,h⟩:=bind_some h;refine aa8 (nG I O P ?_ L);refine ad8 (h₀:=X.base) I.ok.mod.kz M (aW (R.un B a8 s σ H (λj H1=>∃a,Ext H ι H1 a/\aw X.kw H1 a g1/\m8 X H1 a σ ds j) I ⟨ι,σd,g,ds,g1,G0,S0,h1,λH1 a j e1 c rq=>⟨a,e1,c,rq⟩⟩) λus s1 ⟨j,H1,l,r,a,e1,c,rq⟩=>⟨l.mf,?_⟩) S J;obtain⟨z1,⟨gx,hx⟩,z3,z4,rfl⟩:=z9 h;have cm:=Aa l;have rl:=vY l c rq;have hl:j.length=n:=by rw[<- rq.len];exact N _ _ _ hx
 have Ge:aw X.kw (dP (bS (dU X) s1.heap) H1) (Ix.none a) []:=c.empty (λb nn=>.inl ((Ext.jV (ι:=a) λb o q=>(cm b o q).2).there b nn)) λq i=>by rw[(c.tb q i).1];exact(Ext.jV (ι:=a) λb o q=>(cm b o q).2).same _ _ (c.tb q i).1 (c.tb q i).2
 have sp:j2 X.kw n fn j (dP (bS (dU X) s1.heap) H1) (λv x=>∃z,Ext (dP (bS (dU X) s1.heap) H1) (Ix.none a) x z/\Rel X.kw x z d v) E0:=⟨hl,Ix.none a,[],ds,d,gx,Ge,aj.toN _ z1 rl,hx,λx z v e _ r=>⟨z,e,r⟩⟩
 have Xf:(us ++ []).length=ps.length:=by rw[aaL,<- r.length];exact F.len _ _ _ _ sp
 have Fx:=C s1 us l.mf Xf;rw[aaL]at Fx;refine afq (acp (F.run X.A X.stack s1 (dP (bS (dU X) s1.heap) H1) ⟨us,[]⟩ us j _ E0 E (IP l K) Fx r sp) λrr s' i=>?_);cases rr with
 |error e=>exact i.elim
 |ok fl =>
  cases fl with
  |next=>exact aba i|brk=>exact aba i|cont=>exact aba i
  |ret u =>
   obtain⟨v,x,os,bare,un,aS,rv,z,e,r'⟩:=i;obtain⟨E1,G2,same,sL⟩:=IJ c (λb o q=>(cm b o q).2) e;refine l.after ⟨v,cS (bS (dU X) s1.heap) x,os,bare,Mn un cm sL aS,Ca aS sL,rv,?_⟩;refine q _ a v (e1.trans E1) G2 (Rel.vV sL d z4 (Rel.pV e.cH (λb C=>?_) d z3 r'));obtain⟨o,ev,Mq⟩:=c.lst C;exact⟨o,by rw[same b C];exact ev,Mq⟩)
end
end L3
namespace RI
open PyProof.Rows L2 L3
structure G0 where
 T:Nat->Fn
 k:Nat
 fns:List (Str×Nat×Nat)
 j7:List Str
 vZ:List (Str×D)
 v3:List (Str×List (Str×D))
 Mx:List (Str×Nat)
structure Cs where
 N:List Str
 sc:Scope
 all:Bool
 mt:List Str
 own:List Str
 lam:Option (Pos×Str×dR)
inductive v_ (m:G0)(X:Cx)(x:Str)(i n:Nat):Prop
 |mk (f:Addr) (fd:aaM) (ps:List Str) (ok:dS X.prog X.w X.K X.mg X.base gX m.k f fd ps (j2 X.kw n (m.T i))) (hm:X.mg x=some (.ref f)) (kp:abn X.K (.ref f)=true) (b:Binds X.K fd ps []) (ln:∀ds g r,m.T i ds g=some r->ds.length=n):v_ m X x i n
structure Gd (m:G0)(c:Cs)(X:Cx):Prop where
 hN:X.N=c.N
 hs:X.env.scope=c.sc
 nd:c.N.Nodup
 xe:X.xe=λ_ _=>False
 cm:X.calm=true
 rm:dn m.k X.A
 al:c.all=true->∀x,X.fn x=true
 ow:∀x∈c.own,X.fn x=true
 fn:∀x i n,(x,i,n)∈m.fns->v_ m X x i n
 bl:∀x∈m.j7,X.mg x=none
 cn:∀x d,(x,d)∈m.vZ->∃v u,X.mg x=some u/\RelV v u /\ ∀K H ι,Rel K H ι d v
 dc:∀x t,(x,t)∈m.v3->∃a,X.mg x=some (.ref a)/\iH X.w X.kw a t
 lf:∀x i n,(x,i,n)∈m.fns->X.lx.lm x=none
 ll:∀x i,(x,i)∈m.Mx->(∃l,X.lx.lm x=some l)/\qd X.prog X.kw X.base m.k x (m.T i)
 lh:∀p x l,c.lam=some (p,x,l)->uq X p x l
noncomputable def jO:FT:=λ_ _=>none
noncomputable def qg:FA:=λ_ _=>none
noncomputable def cD:FS:=λ_ _=>none
noncomputable def qh:FI:=λ_ _=>none
noncomputable def qi:FG:=λ_ _ _=>none
section
variable {X:Cx}
theorem rH {e:Expr}:DT X e jO:=.of (λa8 s σ H Q I h=>by obtain⟨_,_,_,_,_,_,_,h,_⟩:=h;cases h)
theorem rJ {es:List Expr}:DA X es qg:=.of (λ_ a8 s σ H Q I h=>by obtain⟨_,_,_,_,_,_,_,h,_⟩:=h;cases h)
theorem cx {e:Stmt}:DS X e cD:=.of (λa8 s σ H Q I h=>by obtain⟨_,_,_,_,_,_,_,_,h,_⟩:=h;cases h)
theorem rK {tg e:Expr}:DI X tg e qh:=.of (λa8 s σ H Q I h=>by obtain⟨_,_,_,_,_,_,_,h,_⟩:=h;cases h)
theorem nW {e:Expr}:DG X e qi:=.of (λa8 s σ H v u Q I r h=>by obtain⟨_,_,_,_,_,_,_,_,_,h,_⟩:=h;cases h)
end
noncomputable def isStar (e:Expr):Bool:=acM e.ctorIdx 22
noncomputable def isSet (e:Expr):Bool:=acM e.ctorIdx 7
noncomputable def uu (e:Expr):Bool:=acM e.ctorIdx 26
noncomputable def ng (e:Expr):Bool:=acM e.ctorIdx 8||acM e.ctorIdx 9||acM e.ctorIdx 10
noncomputable def Po (e:Expr):Bool:=acM e.ctorIdx 24
noncomputable def qj (e:Expr):Bool:=acM e.ctorIdx 25
noncomputable def yh:Expr->Bool
 |.Call (.Name _ _) [] [] _=>true|_=>false
noncomputable def lT:Expr->Bool
 |.UnaryOp .Not _ _=>false|.BoolOp ..=>false|.IfExp ..=>false|.Compare ..=>false|_=>true
noncomputable def Pp (e:Expr):Bool:=acM e.ctorIdx 23||acM e.ctorIdx 21||acM e.ctorIdx 19
theorem bB {e:Expr}{es:List Expr}{env:Env}(h:isStar e=false):ZO (e::es) env=(false,eval e env)::ZO es env:=by cases e<;>first|rfl|cases h
theorem marks {op:CmpOp}{e:Expr}(h:isSet e=false):adi op e=false:=by cases e<;>first|rfl|cases h
theorem plainT {e:Expr}{env:Env}(h:lT e=true):∀whole,isTrue e env whole=(do let v <- whole;afe e.pos;ab3 [v] (truthy v)):=by
 intro whole;cases e with
 |UnaryOp op a p=>cases op<;>first|rfl|cases h
 |_=>first|rfl|cases h
theorem yi {e:Expr}(h:uu e=false):nH e:=by intro o i;cases e<;>first|rfl|cases h
theorem baseOk {e:Expr}{x:Str}{env:Env}(h:yh e=false):adl e x env (eval e env)=eval e env:=by
 cases e with
 |Call f as ks p=>cases f with
  |Name=>cases as with
   |nil=>cases ks with
    |nil=>cases h|cons=>rfl
   |cons=>rfl
  |_=>rfl
 |_=>rfl
theorem wa {e:Expr}{t:Option Expr}{l:Nat}{env:Env}(h:ng e=false):acA e t l env=pure false:=by cases e<;>first|rfl|cases h
theorem lU {e:Expr}{env:Env}(h:isSet e=false):∀x,aaq e env x=pure x:=by intro x;cases e<;>first|rfl|cases h
theorem gL {es:List Expr}{env:Env}{a:Pos}(h:es.any isStar=false):(abp a (ZO es env)).any (·.1)=false:=by
 induction es with
 |nil=>rfl
 |cons e es ih =>
  rw[aaA,aao]at h;rw[bB h.1]
  show(false||(abp a (ZO es env)).any (·.1))=false
  rw[ih h.2];rfl
theorem wb {es:List Expr}{env:Env}{a:Pos}(h:es.any isStar=false):(abp a (ZO es env)).all (λx=>!x.1)=true:=by
 induction es with
 |nil=>rfl
 |cons e es ih =>
  rw[aaA,aao]at h;rw[bB h.1];show(true&&(abp a (ZO es env)).all (λx=>!x.1))=true;rw[ih h.2];rfl
noncomputable def jP:List Str->Str->Option Nat
 | [],_=>none|y::N,x=>if y == x then some 0 else(jP N x).map (· + 1)
theorem fM:∀{N:List Str} {x:Str} {i:Nat},jP N x=some i->N[i]? = some x
 | [],_,_,h=>by cases h
 |y::N,x,i,h=>by
  unfold jP at h;split at h
  . rename_i e
    cases h;simp[eq_of_beq e]
  . obtain⟨j,a,rfl⟩:=Zv.mp h
    simpa using fM a
theorem lookup_mem {c:Type}:∀{l:List (Str×c)} {x:Str} {a:c},l.lookup x=some a->(x,a)∈l
 | [],_,_,h=>by cases h
 | (y,b)::l,x,a,h=>by
  rw[Z9]at h;split at h
  . rename_i e
    cases h;rw[eq_of_beq e];exact ZU
  . exact Zz _ (lookup_mem h)
theorem nn {a:Type}{x:a}{P:Prop}(h:(none:Option a)=some x):P:=nomatch h
noncomputable def yj:Expr->Option (Str×Pos)
 |.Name x p=>some (x,p)|_=>none
theorem ql {e:Expr}{x:Str}{p:Pos}(h:yj e=some (x,p)):e = .Name x p:=by
 cases e with
 |Name y p=>cases h;rfl|_=>exact nn h
noncomputable def nV (e:Expr):Option Str:=(yj e).map (·.1)
theorem nX {e:Expr}{x:Str}(h:nV e=some x):∃p,e = .Name x p:=by obtain⟨⟨y,p⟩,a,rfl⟩:=Zv.mp h;exact⟨p,ql a⟩
noncomputable def Gk:Expr->Option (Expr×Expr×Pos)
 |.Subscript o i p=>some (o,i,p)|_=>none
theorem wc {e o i:Expr}{p:Pos}(h:Gk e=some (o,i,p)):e = .Subscript o i p:=by
 cases e with
 |Subscript=>cases h;rfl|_=>exact nn h
noncomputable def sV (e:Expr):Option (Expr×Expr):=(Gk e).map λq=>(q.1,q.2.1)
theorem Ab {e o i:Expr}(h:sV e=some (o,i)):∃p,e = .Subscript o i p:=by obtain⟨⟨f,c,p⟩,b,a⟩:=Zv.mp h;cases a;exact⟨p,wc b⟩
noncomputable def tV:Expr->Option (List Expr)
 |.Tuple es _ _=>some es|_=>none
theorem Ac {e:Expr}{es:List Expr}(h:tV e=some es):∃k p,e = .Tuple es k p:=by
 cases e with
 |Tuple a k p=>cases h;exact⟨k,p,rfl⟩|_=>exact nn h
noncomputable def Cf:Expr->Option (Expr×List Expr×Pos)
 |.Call f as My p=>if My.isEmpty then some (f,as,p)else none|_=>none
theorem qm {e f:Expr}{a:List Expr}{p:Pos}(h:Cf e=some (f,a,p)):e = .Call f a [] p:=by
 cases e with
 |Call f' RL My q=>cases My with
  |nil=>cases h;rfl|cons=>exact nn h
 |_=>exact nn h
noncomputable def cV (e:Expr):Option (Str×List Expr):=(Cf e).bind λq=>(nV q.1).map λx=>(x,q.2.1)
theorem Gm {e:Expr}{x:Str}{i:List Expr}(h:cV e=some (x,i)):∃p q,e = .Call (.Name x p) i [] q:=by obtain⟨⟨f,c,q⟩,b,h⟩:=bind_some h;obtain⟨y,a,h⟩:=Zv.mp h;cases h;obtain⟨p,a⟩:=nX a;exact⟨p,q,by rw[qm b];exact congrArg (λz=>Expr.Call z c [] q) a⟩
noncomputable def two {c:Type}:List c->Option (c×c)
 | [a,b]=>some (a,b)|_=>none
theorem Cg {c:Type}{l:List c}{a b:c}(h:two l=some (a,b)):l = [a,b]:=by
 cases l with
 |nil=>cases h
 |cons x l=>cases l with
  |nil=>cases h
  |cons y l=>cases l with
   |nil=>cases h;rfl|cons=>cases h
noncomputable def gV:List ab1->Option (Expr×Expr×List Expr)
 | [g]=>if g.is_async=0 then some (g.target,g.iter,g.ifs)else none|_=>none
theorem Gn {gs:List ab1}{tg c:Expr}{ifs:List Expr}(h:gV gs=some (tg,c,ifs)):gs = [⟨tg,c,ifs,0⟩]:=by
 cases gs with
 |nil=>cases h
 |cons g gs=>cases gs with
  |cons=>cases h
  |nil =>
   obtain⟨a,b,d,k⟩:=g;change (if k=0 then some (a,b,d)else none)=some _ at h;by_cases hk:k=0
   . subst hk;cases h;rfl
   . rw[if_neg hk]at h;cases h
noncomputable def iw (x:Str):Bool:=x == ("__debug__":Str)||x == ("__classdict__":Str)||x == ("__name__":Str)
theorem nh {x:Str}(h:iw x=false):(x == ("__debug__":Str))=false/\(x == ("__classdict__":Str))=false/\x ≠ "__name__":=by simp only[iw,aao]at h;exact⟨h.1.1,h.1.2,λe=>by have:=h.2;rw[e]at this;simp at this⟩
structure lV where
 nm:Str
 fn:Fn
 ok:∀{X:Cx} {k:Nat},dn k X.A->X.calm=true->(∃id,dJ X (.builtin id) (jY X.kw fn)/\abU nm=some (.builtin id))\/(∃T,dJ X (.type T) (jY X.kw fn)/\abU nm=some (.type T))
structure Ad where
 nm:Str
 ig:D->Bool
 m:D->List D->G->Option (D×G)
 ok:∀{X:Cx} {k:Nat},dn k X.A->∃T id,MR X T nm id ig m
noncomputable def aE (E:Expr->FE):List Expr->FA
 | []=>ag|e::es=>if isStar e then qg else aa (E e) (aE E es)
structure uw where
 nm:Str
 tup:Bool
 f:(Expr->FE)->List Expr->FI
 ok:∀{X:Cx} {k:Nat} {E:Expr->FE} {tg:Expr} {as:List Expr} {p pos:Pos},dn k X.A->X.calm=true->X.mg nm=none->Gl X nm->(∀e,DE X e (E e))->as.any isStar=false->(tup=true->qj tg=true)->DI X tg (.Call (.Name nm p) as [] pos) (f E as)
structure qo where
 e:G0->Cs->(Expr->FE)->Bool->Expr->Option FE
 Ci:∀{m:G0} {c:Cs} {X:Cx} {E:Expr->FE},Gd m c X->(∀e,DE X e (E e))->∀{rf x f},e m c E rf x=some f->DE X x f
 t:G0->Cs->(Expr->FE)->Expr->Option FT
 tok:∀{m:G0} {c:Cs} {X:Cx} {E:Expr->FE},Gd m c X->(∀e,DE X e (E e))->∀{x f},t m c E x=some f->DT X x f
structure Pk where
 bl:List lV
 br:List lV
 mt:List Ad
 it:List uw
 xr:List qo
noncomputable def Cj:Const->FE
 |.int i=>fC (.int i)|.str x=>fC (.str x)|.bool b=>fC (.bl b)|.none=>fC .ay|_=>cf
noncomputable def ux:Option aby->Bool
 |some .local=>true|some .cell=>true|some .free=>true|_=>false
noncomputable def eName (m:G0)(c:Cs)(x:Str):FE :=
 if iw x then cf else
 match ux (c.sc.names.lookup x),jP c.N x with
 |true,some i=>af i|true,none=>cf|false,_=>if c.sc.names.lookup x=some .globalImplicit then(match m.vZ.lookup x with|some d=>fC d|none=>match m.fns.lookup x with|some _=>fC (.fn x [])|none=>cf)else cf
noncomputable def Mz (op:acS)(c e:Bool)(b a:FE):FE:=match op with
 |.Add=>ak aT b a|.Sub=>ak (bU di (· - ·)) b a|.Mult=>ak (if e then(if c then um else nS)else bJ) b a|.FloorDiv=>ak (bU dF (· / ·)) b a|.Mod=>ak (bU dj (· % ·)) b a|.Pow=>ak (bU jg (λi j=>i ^ j.toNat)) b a|_=>cf
noncomputable def RM (op:UnaryOp)(a:FE):FE:=match op with
 |.USub=>pM lG a|_=>cf
noncomputable def bE (E:Expr->FE)(g:Bool)(op:BoolOp):List Expr->FE
 | []=>cf| [a]=>E a
 |a::b::r=>match op with
  |.And=>uc (E a) (bE E g .And (b::r))|.Or=>if g then lJ (E a) (bE E g .Or (b::r))else D6 (E a) (bE E g .Or (b::r))
noncomputable def RN:CmpOp->D->D->G->Option (D×G)
 |.Lt=>oLt|.LtE=>oLe|.Gt=>BM|.GtE=>F3|.Eq=>oEq|.NotEq=>dD|.Is=>kO|.IsNot=>uh|.In=>lM|.NotIn=>rC
noncomputable def rL (E:Expr->FE)(l:Expr):List CmpOp->List Expr->FE
 | [op],[b]=>if isSet b then cf else ak (RN op) (E l) (E b)|_,_=>cf
noncomputable def pE (E:Expr->FE):Option Expr->FO
 |none=>eh|some e=>aY (E e)
noncomputable def EC (E:Expr->FE)(v:Expr):Expr->FE
 |.Slice lo hi none _=>cR (E v) (pE E lo) (pE E hi)|.Slice lo hi (some st) _=>vJ (E v) (pE E lo) (pE E hi) (aY (E st))|s=>ak av (E v) (E s)
noncomputable def Ae (m:G0)(P:Pk)(c:Cs)(e:Bool)(E:Expr->FE)(f:Expr)(a:List Expr)(b:Pos):FE:=match f with
 |.Name x _=>if iw x||a.any isStar then cf else if c.sc.names.lookup x=some .globalImplicit then
   (match m.fns.lookup x with
   |some (i,_)=>ao (m.T i) (aE E a)
   |none=>if a.isEmpty || !(m.j7.elem x)then cf else match(if e then P.br else P.bl).find? (λr=>r.nm == x)with
    |some r=>ao r.fn (aE E a)|none=>cf)
  else cf
 |.Attribute o x ap=>if yh o||a.any isStar || !(ap.endLine == b.line) || !(decide (a.length<29))then cf else match P.mt.find? (λr=>r.nm == x)with
  |some r=>iu r.ig r.m (E o) (aE E a)|none=>cf
 |_=>cf
section
variable {m:G0}{c:Cs}{X:Cx}{E:Expr->FE}
theorem Gd.hu (g:Gd m c X):X.A.units+64<cLine:=g.rm.units
theorem Gd.gl (g:Gd m c X){x:Str}(h:c.sc.names.lookup x=some .globalImplicit):Gl X x:=by show X.env.scope.names.lookup x=_;rw[g.hs];exact h
theorem fZ (a:∀e,DE X e (E e)):∀es:List Expr,DA X es (aE E es)
 | []=>Bw
 |e::es=>by
  unfold aE;split
  . exact rJ
  . rename_i h
    exact qU (a e) (fZ a es) (bB (by simpa using h))
theorem Ck {v:Const}{j:Nat}{p:Pos}:DE X (.Constant v j p) (Cj v):=by
 cases v with
 |int i=>exact KZ|str x=>exact K0|bool b=>exact OQ|none=>exact K1|_=>exact bN
theorem ED (g:Gd m c X){x:Str}{p:Pos}:DE X (.Name x p) (eName m c x):=by
 unfold eName;split
 . exact bN
 rename_i s;obtain⟨b,r,_⟩:=nh (by simpa using s);split
 . rename_i i a q
   refine K2 i (by rw[g.hN];exact fM q) ?_ b r;rw[g.hs];unfold ux at a;split at a
   . rename_i e;exact .inl e
   . rename_i e;exact .inr (.inl e)
   . rename_i e;exact .inr (.inr e)
   . cases a
 . exact bN
 . split
   . rename_i j
     split
     . rename_i d hd
       obtain⟨v,u,z,l,o⟩:=g.cn x d (lookup_mem hd);exact HG (g.gl j) z l o b
     . split
       . rename_i y k
         obtain⟨i,n⟩:=y;obtain⟨f,fd,ps,_,hm,_⟩:=g.fn x i n (lookup_mem k);exact .of (PE.imp (qJ (v:=.ref f) (g.gl j) hm rfl b) λσ H Q h=>by obtain⟨ι,σd,g1,d,g',G0,S0,h,p⟩:=h;cases h;exact p H ι _ Ext.refl G0 (by simp only[Rel];exact⟨f,[],rfl,.inl ⟨rfl,g.lf x i n (lookup_mem k),hm⟩,by simp[aj]⟩))
       . exact bN
   . exact bN
theorem IQ {op:acS}{j k:Bool}{a b:Expr}{p:Pos}{i h:FE}(e:DE X a i)(f:DE X b h):DE X (.BinOp a op b p) (Mz op j k i h):=by
 cases op<;>first|exact bN|skip
 . exact jZ LN e f
 . exact jZ Lv e f
 . cases k
   . exact jZ vx e f
   . cases j
     . exact jZ Iu e f
     . exact jZ IH e f
 . exact jZ Lw e f
 . exact jZ Ly e f
 . exact jZ HY e f
theorem MA {op:UnaryOp}{a:Expr}{p:Pos}{b:FE}(e:DE X a b):DE X (.UnaryOp op a p) (RM op b):=by
 cases op with
 |USub=>exact OR Lz e|_=>exact bN
theorem Gp (f:∀e,DE X e (E e)){gf:Bool}{op:BoolOp}{p:Pos}:∀es:List Expr,DE X (.BoolOp op es p) (bE E gf op es)
 | []=>bN| [a]=>La (f a)
 |a::b::r=>by
  have ih:=Gp f (gf:=gf) (op:=op) (p:=p) (b::r);cases op<;>cases gf
  . exact Bv (f a) ih
  . exact Bv (f a) ih
  . exact OT (f a) ih
  . exact LS (f a) ih
theorem Cm (hu:X.A.units+64<cLine):∀op:CmpOp,bK X (aaB op) (dH X.kw (RN op))
 |.Lt=>O0|.LtE=>O1|.Gt=>O2|.GtE=>O3|.Eq=>O4 hu|.NotEq=>L6 hu|.Is=>O8|.IsNot=>Ij|.In=>Mb hu|.NotIn=>B3 hu
theorem IS (hu:X.A.units+64<cLine)(a:∀e,DE X e (E e)){l:Expr}{ops:List CmpOp}{rs:List Expr}{p:Pos}:DE X (.Compare l ops rs p) (rL E l ops rs):=by
 unfold rL;split
 . split
   . exact bN
   . rename_i h
     exact K4 (Cm hu _) (a _) (a _) (marks (by simpa using h))
 . exact bN
theorem IT (hu:X.A.units+64<cLine)(a:∀e,DE X e (E e)){l:Expr}{ops:List CmpOp}{rs:List Expr}{p:Pos}:DT X (.Compare l ops rs p) (aD (rL E l ops rs)):=by
 have none_:DT X (.Compare l ops rs p) (aD cf):=.of (λa8 s σ H Q I h=>by obtain⟨_,_,_,_,_,_,_,h,_⟩:=h;cases h);unfold rL;split
 . split
   . exact none_
   . rename_i h
     exact K6 (Cm hu _) (a _) (a _) (marks (by simpa using h))
 . exact none_
theorem uy (a:∀e,DE X e (E e)):∀o:Option Expr,DO X o (pE E o)
 |none=>Ic|some e=>xR (a e)
theorem IU (hu:X.A.units+64<cLine)(f:∀e,DE X e (E e)){v s:Expr}{p:Pos}:DE X (.Subscript v s p) (EC E v s):=by
 unfold EC;split
 . exact BX (f _) (uy f _) (uy f _)
 . exact BV (f _) (uy f _) (uy f _) (xR (f _))
 . rename_i b a
   refine Ma hu (f _) (f _) (yi ?_);cases s with
   |Slice lo hi st q =>
    cases st with
    |none=>exact absurd rfl (b _ _ _)|some e=>exact absurd rfl (a _ _ _ _)
   |_=>rfl
theorem EE (P:Pk){H:Bool}(g:Gd m c X)(A:∀e,DE X e (E e)){f:Expr}{C:List Expr}{B:Pos}:DE X (.Call f C [] B) (Ae m P c H E f C B):=by
 unfold Ae;split
 . rename_i x p
   split
   . exact bN
   rename_i h;simp only[aac,not_or,abz]at h;obtain⟨q,o2,z⟩:=nh h.1;have j:=h.2;split
   . rename_i l
     split
     . rename_i i n hf
       obtain⟨fa,fd,ps,ok,hm,kp,b,ln⟩:=g.fn x i n (lookup_mem hf);cases C with
       |nil=>exact Ed ok g.rm hm kp b ln (g.gl l) q
       |cons e es =>
         rw[aaA,aao]at j;exact HR ok g.rm hm kp b ln (fZ A _) (g.gl l) q (bB j.1) (gL j.2)
     . split
       . exact bN
       rename_i y;simp only[aac,not_or,abz,aee,Z8]at y;split
       . rename_i r u
         have s:r.nm=x:=by have:=ae1 u;exact eq_of_beq this
         have hx:x∈m.j7:=abI.mp (by simpa using y.2);cases C with
         |nil=>simp at y
         |cons e es =>
          rw[aaA,aao]at j;rcases r.ok g.rm g.cm with⟨id,k,a⟩|⟨T,k,a⟩
          . rw[s]at a
            exact Ee k (g.bl x hx) a (fZ A _) (g.gl l) z q (bB j.1) (gL j.2)
          . rw[s]at a
            exact BD k (g.bl x hx) a (fZ A _) (g.gl l) z q (bB j.1) (gL j.2)
       . exact bN
   . exact bN
 . rename_i o x ap
   split
   . exact bN
   rename_i h;simp only[aac,not_or,abz,Z8,aee,decide_eq_false_iff_not,Classical.not_not]at h;obtain⟨⟨⟨k,a⟩,h3⟩,h4⟩:=h;split
   . rename_i r u
     have s:r.nm=x:=by have:=ae1 u;exact eq_of_beq this
     obtain⟨T,id,R⟩:=r.ok g.rm;rw[s]at R;cases C with
     |nil=>exact Iz R (A o) (baseOk k) (by simpa using h3)
     |cons e es =>
       rw[aaA,aao]at a;refine Md R (A o) (fZ A _) (baseOk k) ?_ (by simpa using h3) (bB a.1) (gL a.2);rw[wb (by rw[aaA,a.1,a.2];rfl)];have h5:decide ((e::es).length+([]:List adW).length+(if([]:List adW).isEmpty then 0 else 1)<30)=true:=by simp at h4 ⊢;omega
       rw[h5];rfl
   . exact bN
 . exact bN
end
noncomputable def wd (c:Cs)(x:Str):Option Nat:=match c.sc.names.lookup x with
 |some .local=>jP c.N x|some .cell=>if c.all||c.own.elem x then jP c.N x else none|_=>none
noncomputable def EF (f:Expr->FG):List Expr->oz
 | []=>gw|e::es=>cu (f e) (EF f es)
noncomputable def Gq (c:Cs)(E:Expr->FE)(e:Expr):FG:=match nV e with
 |some x=>(match wd c x with|some i=>gN i|none=>qi)
 |none=>match sV e with
  |some q=>if uu q.2 then qi else iq (E q.1) (E q.2)|none=>qi
noncomputable def ni (c:Cs)(E:Expr->FE):Nat->Expr->FG
 | 0,e=>Gq c E e
 |n+1,e=>match tV e with
  |some es=>if es.any isStar then qi else gT es.length (EF (ni c E n) es)|none=>Gq c E e
section
variable {m:G0}{c:Cs}{X:Cx}{E:Expr->FE}
theorem rM (g:Gd m c X){x:Str}{i:Nat}(h:wd c x=some i):X.N[i]? = some x/\Loc X.env.scope x/\(X.fn x=true\/X.env.scope.names.lookup x=some .local):=by
 unfold wd at h;rw[g.hN,g.hs];split at h
 . rename_i e;exact⟨fM h,.inl e,.inr e⟩
 . rename_i e
   split at h
   . rename_i a
     rw[aac]at a;exact⟨fM h,.inr e,.inl (a.elim (λa=>g.al a x) λa=>g.ow x (abI.mp a))⟩
   . cases h
 . cases h
theorem Gd.tv (g:Gd m c X):X.N.Nodup:=by rw[g.hN];exact g.nd
theorem oY {e:Expr}{es:List Expr}{env:Env}(h:isStar e=false):abb (e::es) env=(false,acF e env)::abb es env:=by cases e<;>first|rfl|cases h
theorem yk {es:List Expr}{env:Env}(h:es.any isStar=false):(abb es env).length=es.length/\(abb es env).findIdx? (·.1)=none:=by
 induction es with
 |nil=>exact⟨rfl,rfl⟩
 |cons e es ih =>
  rw[aaA,aao]at h;obtain⟨a,b⟩:=ih h.2;rw[oY h.1];exact⟨by simp[a],by rw[List.findIdx?_cons,b];rfl⟩
theorem IV {o i:Expr}{a:Pos}{env:Env}(h:uu i=false):∀v,acF (.Subscript o i a) env v=(do
  let ov <- ab3 [v] (eval o env);let iv <- ab3 [v,ov] (eval i env)
  afe a
  ab3 [v,ov,iv] (af8 ov iv v)
  release [v,ov,iv] []):=by
 intro v;cases i<;>first|rfl|cases h
theorem Cn (g:Gd m c X)(k:∀e,DE X e (E e))(e:Expr):DG X e (Gq c E e):=by
 unfold Gq;split
 . rename_i x j
   obtain⟨p,rfl⟩:=nX j;split
   . rename_i i h;obtain⟨a,b,d⟩:=rM g h;exact HM g.tv a b d
   . exact nW
 . split
   . rename_i q f
     obtain⟨p,rfl⟩:=Ab f;split
     . exact nW
     . rename_i h;exact Iy g.hu (k _) (k _) (IV (by simpa using h))
   . exact nW
theorem nk (g:Gd m c X)(j:∀e,DE X e (E e)):∀(n:Nat) (e:Expr),DG X e (ni c E n e):=by
 intro n;induction n with
 |zero=>exact Cn g j
 |succ n ih =>
  intro e;show DG X e (match tV e with|some a=>_|none=>_);split
  . rename_i a he
    obtain⟨kt,i,rfl⟩:=Ac he;split
    . exact nW
    . rename_i b
      have b:a.any isStar=false:=by simpa using b
      have f:∀a:List Expr,a.any isStar=false->By X a (EF (ni c E n) a):=λa=>by
       induction a with
       |nil=>exact λ_=>HN
       |cons e a Bq =>
        intro h;rw[aaA,aao]at h;exact Ea (ih e) (Bq h.2) (by rw[oY h.1];rfl)
      have f:=f a b;exact Li g.cm f (yk b).1 (yk b).2
  . exact Cn g j e
end
noncomputable def Co (m:G0)(P:Pk)(c:Cs)(E:Expr->FE)(tg:Expr)(a:Expr):FI:=match cV a with
 |some (x,as)=>if c.sc.names.lookup x=some .globalImplicit then(match P.it.find? (λr=>r.nm == x)with
  |some r=>if m.j7.elem x && !(as.any isStar)&&(!r.tup||qj tg)then r.f E as else qh|none=>bW (E a))else bW (E a)
 |none=>bW (E a)
theorem nq {m:G0}{c:Cs}{X:Cx}{E:Expr->FE}(P:Pk)(g:Gd m c X)(q:∀e,DE X e (E e)){tg s:Expr}:DI X tg s (Co m P c E tg s):=by
 unfold Co;split
 . rename_i x as b
   obtain⟨p,pos,rfl⟩:=Gm b;split
   . rename_i j
     split
     . rename_i r f
       have i:r.nm=x:=by have:=ae1 f;exact eq_of_beq this
       split
       . rename_i h
         simp only[Zr,aac,Z8,beq_iff_eq]at h;obtain⟨⟨l,k⟩,a⟩:=h;have o:x∈m.j7:=abI.mp l;subst i;exact r.ok g.rm g.cm (g.bl _ o) (g.gl j) q k (λz=>by rcases a with a|a;(rw[z]at a;cases a);exact a)
       . exact rK
     . exact vz (q _)
   . exact vz (q _)
 . exact vz (q _)
noncomputable def MB (sc:Scope)(S:Scope):Scope:={ sc with names:=sc.names.map λ(n,k)=>if(k == .free&&S.kind == .function&&S.names.lookup n == some .cell)then(n,.cell)else(n,k) }
noncomputable def tw:List Str->Bool
 | []=>true|x::r=>!(r.elem x)&&tw r
theorem nt:∀{l:List Str},tw l=true->l.Nodup
 | [],_=>abB|x::r,h=>by simp only[tw,Zr,Z8]at h;exact aaU.mpr (And.intro (λz=>(by rw[abI.mpr z]at h;exact absurd h.1 (by simp))) (nt h.2))
noncomputable def kr (sc:Scope):List Str:=(sc.names.filter λy=>y.2 == .local||y.2 == .cell).map (·.1)
noncomputable def Pq (sc:Scope):List Str:=(sc.names.filter λy=>y.2 == .cell).map (·.1)
noncomputable def iJ (sc:Scope):List Str:=(sc.names.filter λy=>y.2 == .free).map (·.1)
noncomputable def fN (c:Cs)(sc:Scope):Cs:=⟨kr sc++iJ sc,MB sc c.sc,false,c.mt,Pq sc,none⟩
noncomputable def we (c:Cs)(sc:Scope):List (Option Nat):=(kr sc).map (λ_=>none)++(iJ sc).map (λx=>jP c.N x)
noncomputable def Af (c:Cs)(sc:Scope):Bool:=qY c.sc c.N (kr sc++iJ sc) (we c sc) sc&&tw (kr sc++iJ sc)
noncomputable def Cp (T:Expr->FT):List Expr->FT
 | []=>bF| [t]=>T t|_=>jO
noncomputable def MC (c:Cs):Expr->Bool
 |.Name x _=>c.mt.elem x|_=>false
noncomputable def uz (m:G0)(P:Pk)(c:Cs)(a:Bool)(E:Cs->Expr->FE)(T:Cs->Expr->FT)(elt:Expr)(gs:List ab1)(sc:Scope):FE:=match gV gs with
 |some (tg,it,ifs)=>if Af c sc && !(isSet it)then
  (if MC c it then kP (if a then iZ else bw) (Es (E c it)) (we c sc) (ni (fN c sc) (E (fN c sc)) 3 tg) (Cp (T (fN c sc)) ifs) (E (fN c sc) elt)
  else bq (if a then iZ else bw) (Co m P c (E c) tg it) (we c sc) (ni (fN c sc) (E (fN c sc)) 3 tg) (Cp (T (fN c sc)) ifs) (E (fN c sc) elt))else cf
 |none=>cf
section
variable {m:G0}{c:Cs}{X:Cx}
theorem Gd.comp (g:Gd m c X){sc:Scope}(h:tw (kr sc++iJ sc)=true){C:Addr}{s3:Zo}{H:Hp}{fp:List Addr}{a8:List (Addr×Obj)}:Gd m (fN c sc) (a_ X (kr sc++iJ sc) sc C s3 H fp a8) where
 hN:=rfl
 hs:=by show aeD sc X.env=MB sc c.sc;rw[<- g.hs];rfl
 nd:=nt h
 xe:=rfl
 cm:=g.cm
 rm:=g.rm
 al:=λz=>by cases z
 ow:=λx o=>by
  show(sc.names.any λy=>y.1 == x&&y.2 == .cell)=true
  obtain⟨y,j,e⟩:=ZK.mp (show x∈(sc.names.filter λy=>y.2 == .cell).map (·.1) from o)
  rw[aa5]at j;rw[aeN];exact⟨y,j.1,by rw[e,j.2];simp⟩
 fn:=λx i n hm=>by obtain⟨f,fd,k,a,b,d,e,l⟩:=g.fn x i n hm;exact⟨f,fd,k,a,b,d,e,l⟩
 bl:=g.bl
 cn:=g.cn
 dc:=g.dc
 lf:=g.lf
 ll:=g.ll
 lh:=λ_ _ _ h=>nomatch h
theorem MD {T:Expr->FT}(a:∀e,DT X e (T e)):∀ifs:List Expr,gz X ifs (Cp T ifs)
 | []=>Eg| [t]=>Eh (a t)|_::_::_=>.of (λa8 s σ H Q I h=>by obtain⟨_,_,_,_,_,_,_,h,_⟩:=h;cases h)
theorem ym (g:Gd m c X){E:Cs->Expr->FE}{T:Cs->Expr->FT}(b:∀c X,Gd m c X->∀e,DE X e (E c e))(f:∀c X,Gd m c X->∀e,DT X e (T c e)){sc:Scope}(h:Af c sc=true){tg elt:Expr}{ifs:List Expr}:
  eH X (kr sc++iJ sc) (we c sc) sc /\ ∀C s3 H fp a8,DG (a_ X (kr sc++iJ sc) sc C s3 H fp a8) tg (ni (fN c sc) (E (fN c sc)) 3 tg) /\
   gz (a_ X (kr sc++iJ sc) sc C s3 H fp a8) ifs (Cp (T (fN c sc)) ifs)/\DE (a_ X (kr sc++iJ sc) sc C s3 H fp a8) elt (E (fN c sc) elt):=by
 simp only[Af,Zr]at h;refine⟨BN g.hs g.hN h.1,λC s3 H fp a8=>?_⟩;have a:=g.comp h.2 (C:=C) (s3:=s3) (H:=H) (fp:=fp) (a8:=a8);exact⟨nk a (b _ _ a) 3 tg,MD (f _ _ a) ifs,b _ _ a elt⟩
theorem Cr {X:Cx}{tg a elt:Expr}{ifs:List Expr}{scope:Scope}{b:Pos}{N:List Str}{fr:List (Option Nat)}{h:oB}{t:FG}{c:FT}{e:FE}(l:X.xe=λ_ _=>False)(j:X.calm=true)(ok:eH X N fr scope)(f:F6 X tg a h)(i:∀C s3 H fp a8,DG (a_ X N scope C s3 H fp a8) tg t/\gz (a_ X N scope C s3 H fp a8) ifs c/\DE (a_ X N scope C s3 H fp a8) elt e)
  (k:∀x,aaq a X.env x=pure x:=by intro _;rfl):DE X (.ListComp elt [⟨tg,a,ifs,0⟩] scope b) (kP iZ h fr t c e):=by
 rw[vL];exact sO l j ok (xZ f) i k
theorem wg (P:Pk)(g:Gd m c X){i:Bool}{E:Cs->Expr->FE}{T:Cs->Expr->FT}(f:∀c X,Gd m c X->∀e,DE X e (E c e))(j:∀c X,Gd m c X->∀e,DT X e (T c e)){elt:Expr}{gs:List ab1}{sc:Scope}{p:Pos}:
   DE X (.ListComp elt gs sc p) (uz m P c i E T elt gs sc):=by
 unfold uz;split
 . rename_i tg it ifs b
   obtain rfl:=Gn b;split
   . rename_i h
     simp only[Zr,Z8]at h;obtain⟨ok,a⟩:=ym g f j h.1 (tg:=tg) (elt:=elt) (ifs:=ifs);split
     . cases i
       . exact Et g.xe g.cm ok (xY (f c X g it)) a (lU h.2)
       . exact Cr g.xe g.cm ok (xY (f c X g it)) a (lU h.2)
     . cases i
       . exact HS g.xe g.cm ok (nq P g (f c X g)) a (lU h.2)
       . exact Eu g.xe g.cm ok (nq P g (f c X g)) a (lU h.2)
   . exact bN
 . exact bN
end
noncomputable def tB (T:Expr->FT)(op:BoolOp):List Expr->FT
 | []=>jO| [a]=>T a
 |a::b::r=>match op with
  |.And=>qT (T a) (tB T .And (b::r))|.Or=>Bu (T a) (tB T .Or (b::r))
noncomputable def xE (P:Pk)(m:G0)(c:Cs)(E:Expr->FE)(a:Bool)(e:Expr):Option FE:=P.xr.findSome? λr=>r.e m c E a e
noncomputable def xT (P:Pk)(m:G0)(c:Cs)(E:Expr->FE)(e:Expr):Option FT:=P.xr.findSome? λr=>r.t m c E e
noncomputable def Pr (m:G0)(P:Pk)(E:Cs->Bool->Expr->FE)(T:Cs->Expr->FT)(c:Cs)(h:Bool):Expr->FE
 |.Constant v _ _=>Cj v|.Name x _=>eName m c x|.BinOp a op b _=>Mz op h (Po a) (E c false a) (E c false b)|.UnaryOp op a _=>RM op (E c false a)|.BoolOp op vs _=>bE (E c false) (vs.dropLast.any Pp) op vs|.IfExp t a b _=>jC (T c t) (E c h a) (E c h b)|.Compare l ops rs _=>rL (E c false) l ops rs|.Tuple es _ _=>aJ az (aE (E c false) es)|.List es _=>aJ (if h then mkRef else gv) (aE (E c false) es)|.Dict ks vs _=>if ks.isEmpty&&vs.isEmpty then(if h then pZ else fC .dZ)else cf|.Subscript v s _=>EC (E c false) v s|.Call f as ks pos=>if ks.isEmpty then Ae m P c h (E c false) f as pos else cf|.ListComp elt gs sc _=>uz m P c h (λc e=>E c false e) T elt gs sc|_=>cf
noncomputable def Pt (m:G0)(P:Pk)(E:Cs->Bool->Expr->FE)(T:Cs->Expr->FT)(c:Cs):Expr->FT
 |.Compare l ops rs _=>aD (rL (E c false) l ops rs)|.UnaryOp op a q=>match op with|.Not=>D5 (T c a)|op=>if lT (.UnaryOp op a q)then oP (E c false (.UnaryOp op a q))else jO
 |.BoolOp op vs _=>tB (T c) op vs|e=>if lT e then oP (E c false e)else jO
noncomputable def Ag (m:G0)(P:Pk)(E:Cs->Bool->Expr->FE)(T:Cs->Expr->FT)(c:Cs)(a:Bool)(e:Expr):FE:=match xE P m c (E c false) a e with
 |some f=>f|none=>Pr m P E T c a e
noncomputable def stepT (m:G0)(P:Pk)(E:Cs->Bool->Expr->FE)(T:Cs->Expr->FT)(c:Cs)(e:Expr):FT:=match xT P m c (E c false) e with
 |some f=>f|none=>Pt m P E T c e
noncomputable def iv (m:G0)(P:Pk):Nat->(Cs->Bool->Expr->FE)×(Cs->Expr->FT)
 | 0=>(λ_ _ _=>cf,λ_ _=>jO)|n+1=>(Ag m P (iv m P n).1 (iv m P n).2,stepT m P (iv m P n).1 (iv m P n).2)
section
variable {m:G0}{X:Cx}
theorem jQ {j k:Type}{f:j->Option k}:∀{l:List j} {b:k},l.findSome? f=some b->∃a∈l,f a=some b
 | [],_,h=>by cases h
 |a::l,b,h=>by
  rw[List.findSome?_cons]at h;cases ha:f a with
  |none=>rw[ha]at h;obtain⟨x,i,e⟩:=jQ h;exact⟨x,Zz _ i,e⟩
  |some c=>rw[ha]at h;cases h;exact⟨a,ZU,ha⟩
theorem Pu {T:Expr->FT}(c:∀e,DT X e (T e)){op:BoolOp}{p:Pos}:∀es:List Expr,DT X (.BoolOp op es p) (tB T op es):=by
 have w:∀es:List Expr,es ≠ []->DW X (.BoolOp op es p) (tB T op es):=λes=>by
  induction es with
  |nil=>intro h;exact absurd rfl h
  |cons a r ih =>
   intro _;cases r with
   |nil=>cases op;exact HH (c a);exact K8 (c a)
   |cons b r =>
    have:=ih (by simp);cases op
    . exact K9 (c a) this
    . exact OS (c a) this
 intro es;cases es with
 |nil=>exact rH|cons a r=>exact(w (a::r) (by simp)).dt
theorem Ah (m:G0)(P:Pk):∀n:Nat,(∀c X,Gd m c X->∀rf e,DE X e ((iv m P n).1 c rf e))/\(∀c X,Gd m c X->∀e,DT X e ((iv m P n).2 c e))
 | 0=>⟨λ_ _ _ _ _=>bN,λ_ _ _ _=>rH⟩
 |n+1=>by
  obtain⟨i,j⟩:=Ah m P n;refine⟨λc X g rf e=>?_,λc X g e=>?_⟩
  . show DE X e (Ag m P (iv m P n).1 (iv m P n).2 c rf e)
    unfold Ag;split
    . rename_i f hf
      obtain⟨r,_,h⟩:=jQ hf;exact r.Ci g (i c X g false) h
    have b:=i c X g false;cases e with
    |Constant=>exact Ck|Name=>exact ED g|BinOp=>exact IQ (b _) (b _)|UnaryOp=>exact MA (b _)|BoolOp=>exact Gp b _|IfExp=>exact Lb (j c X g _) (i c X g rf _) (i c X g rf _)|Compare=>exact IS g.hu b|Tuple=>exact Bx (fZ b _)
    |List=>cases rf with
      |false=>exact Lc (fZ b _)|true=>exact Ld (fZ b _)
    |Dict ks vs _=>cases ks with
      |cons=>exact bN
      |nil=>cases vs with
        |cons=>exact bN
        |nil=>cases rf with
         |false=>exact El|true=>exact IA
    |Subscript=>exact IU g.hu b
    |Call f as ks pos=>cases ks with
      |nil=>exact EE P g b|cons=>exact bN
    |ListComp=>exact wg P g (λc X g e=>i c X g false e) j|_=>exact bN
  . show DT X e (stepT m P (iv m P n).1 (iv m P n).2 c e)
    unfold stepT;split
    . rename_i f hf
      obtain⟨r,_,h⟩:=jQ hf;exact r.tok g (i c X g false) h
    have k:∀e,DT X e (if lT e then oP ((iv m P n).1 c false e)else jO):=λe=>by
      split
      . rename_i h;exact K7 (i c X g false _) (plainT h)
      . exact rH
    cases e with
    |Compare=>exact IT g.hu (i c X g false)
    |UnaryOp op a q=>cases op with
      |Not=>exact K_ (j c X g _)|_=>exact k _
    |BoolOp=>exact Pu (j c X g) _|_=>exact k _
end
noncomputable def Gr (f:Stmt->FS):List Stmt->FS
 | []=>aQ| [s]=>f s|s::t::r=>ax (f s) (Gr f (t::r))
noncomputable def Ai (S:Scope):Bool:=(if S.kind.isAnnotationScope then aef else S.kind)== .function
noncomputable def Aj (S:Scope)(x:Str)(px p:Pos)(sc:Scope):Bool:=Ai S&&S.names.lookup x == some .local&&px.line == p.line && !(sc.names.any λ(n,k)=>n == x&&(k == .local||k == .cell))
noncomputable def kV:Expr->Option Str
 |.Constant v _ _=>match v with|.str k=>some k|_=>none
 |_=>none
noncomputable def Ct (a:List Str):Expr->Bool
 |e=>((nV e).map λx=>a.elem x).getD (((sV e).bind λq=>(kV q.2).map λk=>a.elem (abl "=" ++ k)).getD false)
noncomputable def aZ (E:Bool->Expr->FE)(a:List Str):List Expr->List Expr->FA
 |_,[]=>ag| [],v::vs=>if isStar v then qg else aa (E false v) (aZ E a [] vs)|t::ts,v::vs=>if isStar v then qg else aa (E (Ct a t) v) (aZ E a ts vs)
noncomputable def Gs (m:G0)(P:Pk)(c:Cs)(a:Bool)(E:Cs->Expr->FE)(T:Cs->Expr->FT)(elt:Expr)(gs:List ab1)(sc:Scope):FE:=match gV gs with
 |some (tg,it,ifs)=>if Af c sc && !(isSet it)then
  (bq (if a then iZ else bw) (Co m P c (E c) tg it) (we c sc) (ni (fN c sc) (E (fN c sc)) 3 tg) (Cp (T (fN c sc)) ifs) (E (fN c sc) elt))else cf
 |none=>cf
noncomputable def qp (S:Scope)(a:List Expr):List Str:=a.filterMap fun
 |.Name id pos=>if S.names.lookup id == some .local&&pos.line == (a.head?.map (·.pos.line)).getD 0 then some id else none|_=>none
noncomputable def ME (S:Scope)(a vs:List Expr):Option Bool :=
 if !(a.length == 2||a.length == 3)||vs.length != a.length || !(Ai S)then some false
 else if(qp S a).length != a.length||(qp S a).eraseDups.length != (qp S a).length then some false
 else if vs.all (foldedForSure 8)then some false
 else if vs.all (constantsAlone 8)then none
 else some true
noncomputable def wj (c:Cs)(x:Str):Bool:=c.sc.names.lookup x == some .local
noncomputable def RP:Expr->Option (Expr×List ab1×Scope×Pos)
 |.ListComp elt gs sc p=>some (elt,gs,sc,p)|_=>none
theorem MF {e elt:Expr}{gs:List ab1}{sc:Scope}{p:Pos}(h:RP e=some (elt,gs,sc,p)):e = .ListComp elt gs sc p:=by
 cases e with
 |ListComp=>cases h;rfl|_=>exact nn h
noncomputable def EG (m:G0)(P:Pk)(E:Cs->Bool->Expr->FE)(T:Cs->Expr->FT)(c:Cs)(tg v:Expr):FS:=match yj tg with
 |some (x,px)=>(match wd c x with
  |some i=>(match RP v with
   |some (elt,gs,sc,p)=>aF (if Aj c.sc x px p sc then Gs m P c (c.mt.elem x) (λc e=>E c false e) T elt gs sc else uz m P c (c.mt.elem x) (λc e=>E c false e) T elt gs sc) (gN i)|none=>if ng v then cD else aF (E c (c.mt.elem x) v) (gN i))
  |none=>cD)
 |none=>match sV tg with
  |some _=>aF (E c (Ct c.mt tg) v) (ni c (E c false) 3 tg)
  |none=>match tV v with
   |some vs=>(match tV tg with
    |some ts=>if vs.any isStar then cD else(match ME c.sc ts vs with
     |some r=>if r then(match two ts,two vs with
      |some xy,some _=>(match nV xy.1,nV xy.2 with
       |some x,some y=>(match jP c.N x,jP c.N y with|some i,some j=>if qp c.sc ts == [x,y]&&wj c x&&wj c y && !(i == j)then oV i j (aZ (E c) c.mt ts vs)else cD|_,_=>cD)
       |_,_=>cD)
      |_,_=>cD)else aF (aJ az (aZ (E c) c.mt ts vs)) (ni c (E c false) 3 tg)
     |none=>cD)
    |none=>cD)
   |none=>if ng v||qj v||isStar tg then cD else aF (E c false v) (ni c (E c false) 3 tg)
noncomputable def EH (c:Cs)(E:Expr->FE)(tg:Expr)(op:acS)(v:Expr):FS:=match(nV tg).bind λx=>wd c x with
 |some i=>(match op with|.Add=>oW i (λi j=>i+j) (E v)|.Sub=>oW i (λi j=>i-j) (E v)|_=>cD)
 |none=>cD
noncomputable def MG (m:G0)(P:Pk)(W:Nat)(f:Bool)(E:Cs->Bool->Expr->FE)(T:Cs->Expr->FT)(B:List Stmt->FS)(c:Cs):Stmt->FS
 |.Return v _=>(match v with|some e=>aI (E c f e)|none=>cD)
 |.If t a b _=>bP (T c t) (B a) (B b)|.Assign MH v _=>(match MH with|tg::r=>if r.isEmpty then EG m P E T c tg v else cD| []=>cD)
 |.AugAssign tg op v _=>EH c (E c false) tg op v|.For tg it body yn _=>if isSet it || !yn.isEmpty then cD else fg (Co m P c (E c false) tg it) (ni c (E c false) 3 tg) (B body)|.While t body [] _=>BA W (T c t) (B body)|.Pass _=>aQ|.Expr e _=>if(kV e).isSome then aQ else if ng e then cD else lE (E c false e)|_=>cD
noncomputable def sS (m:G0)(P:Pk)(W:Nat)(a:Bool)(E:Cs->Bool->Expr->FE)(T:Cs->Expr->FT)(c:Cs):Nat->Stmt->FS
 | 0,_=>cD|n+1,s=>MG m P W a E T (Gr (sS m P W a E T c n)) c s
noncomputable def body (m:G0)(P:Pk)(W:Nat)(b:Bool)(c:Cs)(a:List Stmt):FS:=Gr (sS m P W b (iv m P 30).1 (iv m P 30).2 c 12) a
section
variable {m:G0}{c:Cs}{X:Cx}
theorem wk {f:Stmt->FS}(h:∀s,DS X s (f s)):∀oy:List Stmt,kG X oy (Gr f oy)
 | []=>HI| [s]=>HJ (h s)|s::t::r=>D_ (h s) (wk h (t::r))
theorem uA {E:Bool->Expr->FE}{b:List Str}(a:∀rf e,DE X e (E rf e)):∀(ts vs:List Expr),DA X vs (aZ E b ts vs)
 |_,[]=>by cases ‹List Expr›<;>exact Bw
 | [],v::vs=>by
  unfold aZ;split
  . exact rJ
  . rename_i h;exact qU (a _ v) (uA a [] vs) (bB (by simpa using h))
 |t::ts,v::vs=>by
  unfold aZ;split
  . exact rJ
  . rename_i h;exact qU (a _ v) (uA a ts vs) (bB (by simpa using h))
theorem yo (g:Gd m c X){elt:Expr}{gs:List ab1}{sc:Scope}{p px:Pos}{x:Str}{l:Nat}:acA (.ListComp elt gs sc p) (some (.Name x px)) l X.env=pure (Aj c.sc x px p sc):=by rw[<- g.hs];rfl
theorem Xg {l vs:List Expr}{kt k2:Nat}{pt pt2:Pos}{r:Bool}(g:Gd m c X)(o:vs.any isStar=false)(h:ME c.sc l vs=some r):acd [.Tuple l kt pt] (.Tuple vs k2 pt2) X.env=pure (if r then some (qp c.sc l)else none):=by
 have k:(vs.any fun|.Starred ..=>true|_=>false)=false:=by
   have:(λ(e:Expr)=>match e with|.Starred ..=>true|_=>false)=isStar:=by funext e;cases e<;>rfl
   rw[this];exact o
 have i:(X.env.blockKind != aef)= !(Ai c.sc):=by rw[<- g.hs];rfl
 unfold ME at h;show(if(!(l.length == 2||l.length == 3)||vs.length != l.length||X.env.blockKind != aef)=true then pure none else if(vs.any fun|.Starred ..=>true|_=>false)=true then pure none else
   if((qp X.env.scope l).length != l.length||(qp X.env.scope l).eraseDups.length != (qp X.env.scope l).length)=true then pure none else if vs.all (foldedForSure 8)=true then pure none else if vs.all (constantsAlone 8)=true then _ else pure (some (qp X.env.scope l)))=_
 rw[i,k,g.hs];split at h
 . rename_i f;cases h;rw[if_pos f];rfl
 rename_i f;rw[if_neg f,if_neg (by simp)];split at h
 . rename_i b;cases h;rw[if_pos b];rfl
 rename_i b;rw[if_neg b];split at h
 . rename_i a;cases h;rw[if_pos a];rfl
 rename_i a;rw[if_neg a];split at h
 . cases h
 rename_i j;cases h;rw[if_neg j];rfl
theorem Gu {s:Stmt}{tg:FG}{X:Cx}:DS X s (aF cf tg):=.of (λa8 s σ H Q I h=>by obtain⟨_,_,_,_,_,_,_,_,h,_⟩:=h;cases h)
theorem Um {tg v:Expr}{env:Env}(h:qj v=false):acd [tg] v env=pure none:=by
 cases tg with
 |Tuple es kt p=>cases v<;>first|rfl|cases h
 |List es p=>cases v<;>first|rfl|cases h
 |_=>rfl
theorem yp {tg:Expr}{env:Env}(h:isStar tg=false):(abb [tg] env).map (·.2)= [acF tg env]:=by rw[oY h];rfl
theorem EI {o i v:Expr}{q:Pos}{l:Nat}{env:Env}:acG [.Subscript o i q] v l env=pure false:=by cases v<;>rfl
theorem MI {o i v:Expr}{q:Pos}{env:Env}:acd [.Subscript o i q] v env=pure none:=by cases v<;>rfl
theorem IW (P:Pk)(g:Gd m c X){E:Cs->Bool->Expr->FE}{T:Cs->Expr->FT}(A:∀c X,Gd m c X->∀rf e,DE X e (E c rf e))(B:∀c X,Gd m c X->∀e,DT X e (T c e)){tg v:Expr}{p:Pos}:DS X (.Assign [tg] v p) (EG m P E T c tg v):=by
 have RQ:∀{x:Str},wj c x=true->X.env.scope.names.lookup x=some .local:=fun {x} h=>by rw[g.hs];exact eq_of_beq h
 unfold EG;split
 . rename_i x px s
   obtain rfl:=ql s;split
   . rename_i i k
     obtain⟨a,b,d⟩:=rM g k;split
     . rename_i elt gs sc q f
       obtain rfl:=MF f;split
       . rename_i u
         unfold Gs;split
         . rename_i tg it ifs hg
           obtain rfl:=Gn hg;split
           . rename_i h
             simp only[Zr,Z8]at h;obtain⟨ok,cq⟩:=ym g (λc X g e=>A c X g false e) B h.1 (tg:=tg) (elt:=elt) (ifs:=ifs);have hs:=(yo g (elt:=elt) (gs:=[⟨tg,it,ifs,0⟩]) (sc:=sc) (p:=q) (px:=px) (x:=x) (l:=p.line)).trans (by rw[u]);cases c.mt.elem x
             . exact zH g.xe g.cm ok (nq P g (A c X g false)) cq g.tv a b hs (lU h.2) d
             . exact xb g.xe g.cm ok (nq P g (A c X g false)) cq g.tv a b hs (lU h.2) d
           . exact Gu
         . exact Gu
       . rename_i u
         exact Bz g.tv a b (wg P g (λc X g e=>A c X g false e) B) ((yo g).trans (by rw[show Aj c.sc x px q sc=false by simpa using u])) d
     . split
       . exact cx
       . rename_i h
         exact Bz g.tv a b (A c X g _ _) (wa (by simpa using h)) d
   . exact cx
 . split
   . rename_i q hq
     obtain⟨_,rfl⟩:=Ab hq;exact vd (A c X g _ _) (nk g (A c X g false) 3 _) EI MI (yp rfl)
   . split
     . rename_i o f
       obtain⟨k2,pt2,rfl⟩:=Ac f;split
       . rename_i z ht
         obtain⟨kt,pt,rfl⟩:=Ac ht;split
         . exact cx
         rename_i f;have f:o.any isStar=false:=by simpa using f
         have MJ:∀l,acG [.Tuple z kt pt] (.Tuple o k2 pt2) l X.env=pure false:=λ_=>rfl;split
         . rename_i r hp
           have sw:=Xg (kt:=kt) (k2:=k2) (pt:=pt) (pt2:=pt2) g f hp;cases r with
           |false=>exact vd (Bx (uA (A c X g) z o)) (nk g (A c X g false) 3 _) (MJ _) sw rfl
           |true =>
             rw[if_pos rfl];split
             . rename_i xy ab Xi LA
               split
               . rename_i x y s hy
                 split
                 . rename_i i j k hj
                   split
                   . rename_i h
                     simp only[Zr,Z8,beq_iff_eq]at h;obtain⟨⟨⟨h1,h2⟩,h3⟩,h4⟩:=h;obtain⟨ex,ey⟩:=xy;obtain⟨a,b⟩:=ab;obtain rfl:=Cg Xi;obtain rfl:=Cg LA;obtain⟨px,rfl⟩:=nX s;obtain⟨py,rfl⟩:=nX hy;exact LW g.cm g.tv (by rw[g.hN];exact fM k) (by rw[g.hN];exact fM hj) (by simpa using h4) (RQ h2) (RQ h3) (uA (A c X g) _ _) (sw.trans (by rw[if_pos rfl,h1])) (MJ _)
                   . exact cx
                 . exact cx
               . exact cx
             . exact cx
         . exact cx
       . exact cx
     . split
       . exact cx
       rename_i h;simp only[aac,not_or,abz]at h;exact vd (A c X g false _) (nk g (A c X g false) 3 _) (wa h.1.1) (Um h.1.2) (yp h.2)
theorem IX (g:Gd m c X){E:Expr->FE}(l:∀e,DE X e (E e)){tg v:Expr}{op:acS}{p:Pos}:DS X (.AugAssign tg op v p) (EH c E tg op v):=by
 unfold EH;split
 . rename_i i h
   obtain⟨x,j,f⟩:=bind_some h;obtain⟨k,rfl⟩:=nX j;obtain⟨a,b,d⟩:=rM g f;cases op with
   |Add=>exact BS g.tv a b J4 (l _) d|Sub=>exact BS g.tv a b J5 (l _) d|_=>exact cx
 . exact cx
theorem MK {e:Expr}(h:(kV e).isSome=true):∃s k p,e = .Constant (.str s) k p:=by
 cases e with
 |Constant v k p=>cases v with
  |str s=>exact⟨s,k,p,rfl⟩|_=>cases h
 |_=>cases h
theorem IY (P:Pk){W:Nat}{l:Bool}(g:Gd m c X){E:Cs->Bool->Expr->FE}{T:Cs->Expr->FT}(f:∀c X,Gd m c X->∀rf e,DE X e (E c rf e))(j:∀c X,Gd m c X->∀e,DT X e (T c e)){B:List Stmt->FS}(i:∀b,kG X b (B b))(s:Stmt):
  DS X s (MG m P W l E T B c s):=by
 have a:ad5 (model X.prog X.w) X.A X.env X.xe:=by rw[g.xe];exact PassesOwn.never
 cases s with
 |Return v p=>cases v with
  |some e=>exact Le (f c X g _ _)|none=>exact cx
 |If=>exact OU (j c X g _) (i _) (i _)
 |Assign MH v p=>cases MH with
  |nil=>exact cx
  |cons tg r=>cases r with
    |nil=>exact IW P g f j|cons=>exact cx
 |AugAssign=>exact IX g (f c X g false)
 |For tg it body yn p =>
  show DS X _ (if isSet it || !yn.isEmpty then cD else fg _ _ _);split
  . exact cx
  . rename_i h
    simp only[aac,not_or,abz,aee]at h;cases yn with
    |cons=>cases h.2|nil=>exact Lu a g.cm (nq P g (f c X g false)) (nk g (f c X g false) 3 _) (i _) (lU h.1)
 |While t body yn p=>cases yn with
  |nil=>exact Ec W a (j c X g _) (i _)|cons=>exact cx
 |Pass=>exact HK
 |Expr e p =>
  show DS X _ (if(kV e).isSome then aQ else if ng e then cD else lE (E c false e));split
  . rename_i h
    obtain⟨s,k,q,rfl⟩:=MK h;exact Lf
  . split
    . exact cx
    . rename_i h;exact HL (f c X g false _) (wa (by simpa using h))
 |_=>exact cx
theorem IZ (P:Pk){W:Nat}{f:Bool}(g:Gd m c X)(e:List Stmt):kG X e (body m P W f c e):=by
 obtain⟨b,a⟩:=Ah m P 30;have:∀n s,DS X s (sS m P W f (iv m P 30).1 (iv m P 30).2 c n s):=λn=>by
  induction n with
  |zero=>exact λ_=>cx|succ n ih=>exact λs=>IY P g b a (wk ih) s
 exact wk (this 12) e
end
structure bX where
 nm:Str
 ps:List Str
 N:List Str
 st:Stmt
 kp:Bool
 mt:List Str
 pu:Bool
 gn:Str
 ld:Option dR
 lam:Option (Pos×Str)
structure Mo where
 ds:List bX
 j7:List Str
 vZ:List (Str×D)
 v3:List (Str×List (Str×D))
 P:Pk
 W:Nat
noncomputable def j8:Nat->List bX->List (Str×Nat×Nat)
 |_,[]=>[]|j,d::ds=>if d.ld.isSome then j8 (j+1) ds else(d.gn,j,d.ps.length)::j8 (j+1) ds
noncomputable def j9:Nat->List bX->List (Str×Nat)
 |_,[]=>[]|j,d::ds=>if d.ld.isSome then(d.gn,j)::j9 (j+1) ds else j9 (j+1) ds
noncomputable def kT (ds:List bX):List (Str×dR):=ds.filterMap λd=>d.ld.map λl=>(d.gn,l)
noncomputable def Mo.g (M:Mo)(T:Nat->Fn)(k:Nat):G0:=⟨T,k,j8 0 M.ds,M.j7,M.vZ,M.v3,j9 0 M.ds⟩
noncomputable def Ak (a:Bool)(f:Fn):Fn:=if a then eU f else f
noncomputable def Mo.qq (M:Mo)(d:bX):Option (Pos×Str×dR):=d.lam.bind λq=>((kT M.ds).lookup q.2).map λl=>(q.1,q.2,l)
noncomputable def bX.run (M:Mo)(d:bX)(T:Nat->Fn)(k:Nat):Fn:=match d.ld with
 |some l=>bO l.fv.length l.ps.length ((iv (M.g T k) M.P 30).1 ⟨l.fv++l.ps,l.sc,false,[],[],none⟩ false l.bd)|none=>Ak d.pu (aq d.kp d.N.length d.ps.length (body (M.g T k) M.P M.W d.kp ⟨d.N,aV d.st,true,d.mt,[],M.qq d⟩ (dQ d.st)))
theorem tx:∀{ds:List bX} {j:Nat} {x:Str} {i n:Nat},(x,i,n)∈j8 j ds->∃d q,i=j+q/\ds[q]? = some d/\d.ld=none/\d.gn=x/\d.ps.length=n
 | [],_,_,_,_,h=>by simp[j8]at h
 |d::ds,j,x,i,n,h=>by
  unfold j8 at h;have rest:(x,i,n)∈j8 (j+1) ds->∃e q,i=j+q/\(d::ds)[q]? = some e/\e.ld=none/\e.gn=x/\e.ps.length=n:=λh=>by obtain⟨e,q,f,b,a⟩:=tx h;exact⟨e,q+1,by omega,by simpa using b,a⟩
  split at h
  . exact rest h
  . rename_i c
    rcases Zx.mp h with h|h
    . cases h;exact⟨d,0,rfl,rfl,by simpa using c,rfl,rfl⟩
    . exact rest h
theorem tF:∀{ds:List bX} {j:Nat} {x:Str} {i:Nat},(x,i)∈j9 j ds->∃d q l,i=j+q/\ds[q]? = some d/\d.ld=some l/\d.gn=x
 | [],_,_,_,h=>by simp[j9]at h
 |d::ds,j,x,i,h=>by
  unfold j9 at h;have rest:(x,i)∈j9 (j+1) ds->∃e q l,i=j+q/\(d::ds)[q]? = some e/\e.ld=some l/\e.gn=x:=λh=>by obtain⟨e,q,l,f,b,a⟩:=tF h;exact⟨e,q+1,l,by omega,by simpa using b,a⟩
  split at h
  . rename_i c
    rcases Zx.mp h with h|h
    . cases h
      obtain⟨l,e⟩:=acU.mp c;exact⟨d,0,l,rfl,rfl,e,rfl⟩
    . exact rest h
  . exact rest h
structure Good (M:Mo)(T:Nat->Nat->Fn):Prop where
 z:∀j ds g,T 0 j ds g=none
 s:∀k j d,M.ds[j]? = some d->T (k+1) j=d.run M (T k) k
 sc:∀d∈M.ds,d.ld=none->jk d.N d.ps (aV d.st)
 lc:∀d∈M.ds,∀p x l,M.qq d=some (p,x,l)->l.fv=lP l.sc/\l.ar.defaults = []/\l.ar.kw_defaults = []/\d.nm ++ ".<locals>." ++ "<lambda>" = l.qual /\ ∀y∈l.fv,(aV d.st).names.lookup y=some .cell
 ln:((kT M.ds).map (·.1)).Nodup
 lf:∀d∈M.ds,d.ld=none->d.gn ∉ (kT M.ds).map (·.1)
inductive wm (M:Mo)(T T':Nat->Fn)(k:Nat):Nat->List bX->Prop
 |nil {j:Nat}:wm M T T' k j []
 |cons {j:Nat} {d:bX} {ds:List bX} (h:T' j=d.run M T k) (r:wm M T T' k (j+1) ds):wm M T T' k j (d::ds)
theorem wm.get {M:Mo}{T U:Nat->Fn}{k:Nat}:∀{j:Nat} {ds:List bX},wm M T U k j ds->∀{i:Nat} {d:bX},ds[i]? = some d->U (j+i)=d.run M T k
 |_,_,.nil,_,_,h=>by simp at h|_,_,.cons h r,0,d,e=>by simp at e;subst e;exact h|j,_,.cons h r,i+1,d,e=>by have:=r.get (i:=i) (by simpa using e);rw[show j+(i+1)=j+1+i by omega];exact this
structure u5 (M:Mo)(K:KW)(f:Nat->Addr)(fd:Nat->aaM):Prop where
 fn:∀j d,M.ds[j]? = some d->d.ld=none->xw K.fr d.nm d.nm d.st (f j) (fd j)/\K.mg d.gn=some (.ref (f j))/\Binds K.fr (fd j) d.ps []
 lt:∀(j:Nat) (d:bX),M.ds[j]? = some d->d.ld=none->∀p x,d.lam=some (p,x)->∃cc P,(fd j).code = .ref cc/\acC K.fr cc P=true/\(P,p,d.nm ++ ".<locals>." ++ "<lambda>")∈K.lx.tb
 lm:K.lx.lm=λx=>(kT M.ds).lookup x
 ls:∀(j:Nat) (d:bX) (l:dR),M.ds[j]? = some d->d.ld=some l->uo l
 bl:∀x∈M.j7,K.mg x=none
 cn:∀x d,(x,d)∈M.vZ->∃v u,K.mg x=some u/\RelV v u /\ ∀K H ι,Rel K H ι d v
 dc:∀x t,(x,t)∈M.v3->∃a,K.mg x=some (.ref a)/\iH K.w K a t
section
variable {M:Mo}{T:Nat->Nat->Fn}{K:KW}{f:Nat->Addr}{fd:Nat->aaM}{P:ZW}{base:Heap}
theorem Good.len (G:Good M T){k j:Nat}{d:bX}(h:M.ds[j]? = some d)(a:d.ld=none):∀ds g r,T k j ds g=some r->ds.length=d.ps.length:=λds g r q=>by
 cases k with
 |zero=>rw[G.z]at q;cases q
 |succ k =>
  rw[G.s k j d h]at q;unfold bX.run at q;rw[a]at q;unfold Ak at q;dsimp only at q;split at q
  . exact zN (λ_ _ _=>sM _ _ _) ds g r q
  . exact sM ds g r q
theorem Al (G:Good M T)(A:u5 M K f fd){x:Str}{l:dR}(h:(x,l)∈kT M.ds):K.lx.lm x=some l:=by rw[A.lm];exact eV G.ln h
theorem yq {ds:List bX}{j:Nat}{d:bX}{l:dR}(h:ds[j]? = some d)(a:d.ld=some l):(d.gn,l)∈kT ds:=aa7.mpr ⟨d,ZP h,by rw[a];rfl⟩
theorem I0 (G:Good M T)(A:u5 M K f fd){d:bX}(a:d∈M.ds)(b:d.ld=none):K.lx.lm d.gn=none:=by
 rw[A.lm];show(kT M.ds).lookup d.gn=none;cases e:(kT M.ds).lookup d.gn with
 |none=>rfl|some l=>exact absurd (aay (f:=(·.1)) (Z5 e)) (G.lf d a b)
theorem Cu (G:Good M T)(A:u5 M K f fd):∀k,(∀j d,M.ds[j]? = some d->d.ld=none->dS P K.w K.fr K.mg base gX k (f j) (fd j) d.ps (j2 K d.ps.length (T k j))) /\ ∀j d l,M.ds[j]? = some d->d.ld=some l->qd P K base k d.gn (T k j)
 | 0=>⟨λj d h _=>HQ λds g=>G.z j ds g,λj d l h _=>L3.Ey λds g=>G.z j ds g⟩
 |k+1=>by
  obtain⟨ih,Xj⟩:=Cu G A k;have RR:∀{X:Cx},X.prog=P->X.kw=K->X.base=base->(∀x i n,(x,i,n)∈(M.g (T k) k).fns->v_ (M.g (T k) k) X x i n/\X.lx.lm x=none)/\(∀x i,(x,i)∈(M.g (T k) k).Mx->(∃l,X.lx.lm x=some l)/\qd X.prog X.kw X.base (M.g (T k) k).k x ((M.g (T k) k).T i)):=fun {X} e1 e2 e3=>by
    subst e1 e2 e3;refine⟨λx i n b=>?_,λx i b=>?_⟩
    . obtain⟨e,q,h1,r,h0,h3,h4⟩:=tx b
      have h1:i=q:=by omega
      subst h1 h3 h4;obtain⟨F',kE,ia⟩:=A.fn i e r h0;exact⟨⟨f i,fd i,e.ps,ih i e r h0,kE,F'.kp,ia,G.len r h0⟩,I0 G A (ZP r) h0⟩
    . obtain⟨e,q,l,h1,r,h0,h3⟩:=tF b
      have h1:i=q:=by omega
      subst h1 h3;exact⟨⟨l,Al G A (yq r h0)⟩,Xj i e l r h0⟩
  refine⟨λj d h c=>?_,λj d l h c=>?_⟩
  . obtain⟨F,hm,hb⟩:=A.fn j d h c
    have hd:=ZP h;have S:=G.sc d hd c;have eG:d.ps.length<=d.N.length:=by have:=congrArg ae4 S.pre;rw[aah]at this;omega
    have main:dS P K.w K.fr K.mg base gX (k+1) (f j) (fd j) d.ps (j2 K d.ps.length (aq d.kp d.N.length d.ps.length (body (M.g (T k) k) M.P M.W d.kp ⟨d.N,aV d.st,true,d.mt,[],M.qq d⟩ (dQ d.st)))):=by
      refine OY F S eG λdy y outer s H E i5 hr=>?_;have o:=RR (X:=(lu K.lx gX P K.w K.fr K.mg base d.N d.nm (aV d.st) (f j) dy y outer s H E).uQ) rfl rfl rfl;by_cases RS:K.fr.In base
      . have gd:Gd (M.g (T k) k) ⟨d.N,aV d.st,true,d.mt,[],M.qq d⟩ (lu K.lx gX P K.w K.fr K.mg base d.N d.nm (aV d.st) (f j) dy y outer s H E).uQ:=⟨rfl,rfl,S.nd,rfl,rfl,hr,λ_ _=>rfl,(λ_ h=>nomatch h),λx i n b=>(o.1 x i n b).1,A.bl,A.cn,A.dc,λx i n b=>(o.1 x i n b).2,o.2,λp x l u=>?_⟩
        . exact IZ M.P gd _
        obtain⟨c2,c3,c4,c5,c6⟩:=G.lc d hd p x l u;obtain⟨⟨p',x'⟩,hq,u⟩:=Option.bind_eq_some_iff.mp u;obtain⟨l',gH,u⟩:=Zv.mp u;cases u;have c1:=Z5 gH;obtain⟨cc,PP,t1,t2,t3⟩:=A.lt j d h c _ _ hq;rw[c5]at t3;obtain⟨e,Xk,Xl⟩:=aa7.mp c1;obtain⟨l',e1,e2⟩:=Zv.mp Xl;cases e2;obtain⟨je,Xm⟩:=abc Xk;exact⟨Al G A c1,A.ls je e l Xm e1,c2,c3,c4,⟨cc,PP,i5.symm.trans t1,afI RS t2,t3⟩,c5,c6,λ_=>rfl⟩
      . exact .of λa8 s' σ H' Q I _=>absurd I.ok.mod.kz RS
    rw[G.s k j d h];unfold bX.run;rw[c];unfold Ak;dsimp only;split
    . exact Ik main
    . exact main
  . rw[G.s k j d h]
    unfold bX.run;rw[c];have S:=A.ls j d l h c;refine Mp S (Al G A (yq h c)) λcl a cd y outer s H hr=>?_;have o:=RR (X:=nU K.lx P K.w K.fr K.mg base l cl a cd y outer s H) rfl rfl rfl;have gd:Gd (M.g (T k) k) ⟨l.fv++l.ps,l.sc,false,[],[],none⟩ (nU K.lx P K.w K.fr K.mg base l cl a cd y outer s H):=⟨rfl,rfl,S.nd,rfl,rfl,hr,(λz=>nomatch z),(λ_ h=>nomatch h),λx i n b=>(o.1 x i n b).1,A.bl,A.cn,A.dc,λx i n b=>(o.1 x i n b).2,o.2,λ_ _ _ h=>nomatch h⟩
    exact(Ah (M.g (T k) k) M.P 30).1 _ _ gd false l.bd
end
noncomputable def An (K:ZF)(lx:Lx):Sp:=λb H Q _=>∃(a:Addr) (ns:List Int),b = [.ref a]/\dw K H a (ns.map V.int)/\ns.length<=63/\(∀q∈lx.tb,H q.1=some (.cw q.2.1 q.2.2)) /\ ∀H',Q (.bl true) H'
theorem tG {K:KW}{H:Hp}{ι:Ix}:∀ns:List Int,aj K H ι (ns.map D.int) (ns.map V.int)
 | []=>by simp[aj]|n::ns=>by simp only[aaE,aj];exact⟨_,_,rfl,by simp[Rel],tG ns⟩
theorem ML {K:KW}{fn:Fn}(h:∀ns:List Int,ns.length<=63->∃g',fn [.lst (ns.map .int)] []=some (.bl true,g'))(vs:List V)(H:Hp)(Q:VK)(E:XK)(q:An K.fr K.lx vs H Q E):j2 K 1 fn vs H Q E:=by
 obtain⟨a,ns,rfl,c,l,o,f⟩:=q;obtain⟨g',k⟩:=h ns l;refine⟨rfl,⟨[],[],λ_=>0⟩,[],[.lst (ns.map .int)],.bl true,g',⟨abB,rfl,(λb s=>by cases s),(λi xs z=>by simp at z),λq f=>⟨o q f,by simp⟩⟩,?_,k,λj u v e G r=>?_⟩
 . simp only[aj]
   refine⟨_,_,rfl,?_,rfl⟩;simp only[Rel];refine⟨a,_,rfl,?_,tG ns⟩;rcases c with c|c
   . exact .inl ⟨c,by simp,by simp⟩
   . exact .inr c
 . simp only[Rel]at r
   rw[r];exact f j
inductive bj (K:ZF)(ts:List Addr):List bX->List Addr->List aaM->List (Addr×Pos×Str)->Prop
 |nil:bj K ts [] [] [] []
 |cons {nm gn:Str} {ps N:List Str} {st:Stmt} {kp pu:Bool} {mt:List Str} {ds:List bX} {fs:List Addr} {eM:List aaM} {tb:List (Addr×Pos×Str)} {f:Addr} {oc:Value} {od an:Option Addr} {sl:Array (Option Value)} {kV dc pm cd ct:Value}
  (a:abG K Z_ gn=some (some (.ref f)))
  (l:K.lookup f=some ⟨oc,od,.func (abv nm nm (fU st) (dQ st) (aV st) .none kV dc pm an cd ct),sl⟩)
  (e:ac1 K cd nm=true) (k:abn K (.ref f)=true)
  (b:∀us:List Value,us.length=ps.length->adV (abv nm nm (fU st) (dQ st) (aV st) .none kV dc pm an cd ct) ⟨us,[]⟩=pure (ps.zip us))
  (r:bj K ts ds fs eM tb):bj K ts (⟨nm,ps,N,st,kp,mt,pu,gn,none,none⟩::ds) (f::fs) (abv nm nm (fU st) (dQ st) (aV st) .none kV dc pm an cd ct::eM) tb
 |maker {nm gn:Str} {ps N:List Str} {st:Stmt} {kp pu:Bool} {mt:List Str} {ds:List bX} {fs:List Addr} {eM:List aaM} {tb:List (Addr×Pos×Str)} {f:Addr} {oc:Value} {od an:Option Addr} {sl:Array (Option Value)} {kV dc pm ct:Value} {cc:Addr} {P:Addr} {p:Pos} {x:Str} {vs:Array Value} {Xn:Option Addr} {oj:Array (Option Value)}
  (a:abG K Z_ gn=some (some (.ref f)))
  (l:K.lookup f=some ⟨oc,od,.func (abv nm nm (fU st) (dQ st) (aV st) .none kV dc pm an (.ref cc) ct),sl⟩)
  (e:ac1 K (.ref cc) nm=true) (k:abn K (.ref f)=true)
  (h:K.lookup cc=some ⟨.type "code",Xn,.fields vs,oj⟩) (Y2:vs[11]? = some (.ref P)) (hh:acC K cc P=true) (o:K.lookup P=none) (m:P∈ts)
  (b:∀us:List Value,us.length=ps.length->adV (abv nm nm (fU st) (dQ st) (aV st) .none kV dc pm an (.ref cc) ct) ⟨us,[]⟩=pure (ps.zip us))
  (r:bj K ts ds fs eM tb):bj K ts (⟨nm,ps,N,st,kp,mt,pu,gn,none,some (p,x)⟩::ds) (f::fs) (abv nm nm (fU st) (dQ st) (aV st) .none kV dc pm an (.ref cc) ct::eM) ((P,p,nm ++ ".<locals>." ++ "<lambda>")::tb)
 |lam {nm gn:Str} {ps N:List Str} {st:Stmt} {kp pu:Bool} {mt:List Str} {ds:List bX} {fs:List Addr} {eM:List aaM} {tb:List (Addr×Pos×Str)} {ld:dR}
  (b:∀(cl:List (Str×Addr)) (pm dy fE:Value) (us:List Value),us.length=ld.ps.length->adV (afp "<lambda>" ld.qual ld.ar ld.bd ld.sc cl pm dy fE) ⟨us,[]⟩=pure (ld.ps.zip us))
  (r:bj K ts ds fs eM tb):bj K ts (⟨nm,ps,N,st,kp,mt,pu,gn,some ld,none⟩::ds) (0::fs) (default::eM) tb
section
variable {K:ZF}{ts:List Addr}{h:Heap}{mg:Str->Option Value}{f0:Addr}{d0:aaM}
theorem bj.all (X:K.In h)(G:h.Ns Z_ mg){ds:List bX}{fs:List Addr}{u:List aaM}{tb:List (Addr×Pos×Str)}(L:bj K ts ds fs u tb):
  ∀j d,ds[j]? = some d->(d.ld=none->(xw K d.nm d.nm d.st (fs.getD j f0) (u.getD j d0)/\mg d.gn=some (.ref (fs.getD j f0))/\Binds K (u.getD j d0) d.ps []) /\ ∀us:List Value,us.length=d.ps.length->adV (u.getD j d0) ⟨us,[]⟩=pure (d.ps.zip us)) /\
   (∀p x,d.lam=some (p,x)->∃cc P,(u.getD j d0).code = .ref cc/\acC K cc P=true/\(P,p,d.nm ++ ".<locals>." ++ "<lambda>")∈tb) /\
   ∀l,d.ld=some l->∀(cl:List (Str×Addr)) (pm dy fE:Value) (us:List Value),us.length=l.ps.length->adV (afp "<lambda>" l.qual l.ar l.bd l.sc cl pm dy fE) ⟨us,[]⟩=pure (l.ps.zip us):=by
 induction L with
 |nil=>intro j d h;simp at h
 |cons a l e k b r ih =>
  intro j d h;cases j with
  |zero=>cases h;exact⟨λ_=>⟨⟨Bk l e k,aek X G a,.all b⟩,b⟩,λ_ _ z=>nn z,λ_ z=>nn z⟩|succ j=>exact ih j d h
 |maker a l e k h1 _ h2 h3 h4 b r ih =>
  intro j d h;cases j with
  |zero=>cases h;exact⟨λ_=>⟨⟨Bk l e k,aek X G a,.all b⟩,b⟩,λp x z=>by cases z;exact⟨_,_,rfl,h2,ZU⟩,λ_ z=>nn z⟩
  |succ j =>
   obtain⟨s,i,c⟩:=ih j d h;refine⟨s,λp x z=>?_,c⟩;obtain⟨cc,P,q,o,f⟩:=i p x z;exact⟨cc,P,q,o,Zz _ f⟩
 |lam b r ih =>
  intro j d h;cases j with
  |zero=>cases h;exact⟨λz=>nn z.symm,λ_ _ z=>nn z,λl z=>by cases z;exact b⟩|succ j=>exact ih j d h
theorem bj.out {ds:List bX}{fs:List Addr}{f:List aaM}{tb:List (Addr×Pos×Str)}(L:bj K ts ds fs f tb):∀q∈tb,(∃c,acC K c q.1=true)/\K.lookup q.1=none/\q.1∈ts:=by
 induction L with
 |nil=>intro q h;cases h|cons a l e k b r ih=>exact ih|lam b r ih=>exact ih
 |maker a l e k h1 _ h2 h3 h4 b r ih =>
  intro q h;cases h with
  |head=>exact⟨⟨_,h2⟩,h3,h4⟩|tail _ h=>exact ih q h
end
theorem Xp {p:List Value->Prop}(h:p []):∀us:List Value,us.length=0->p us
 | [],_=>h
theorem Cv {p:List Value->Prop}{n:Nat}(h:∀a us,us.length=n->p (a::us)):∀us:List Value,us.length=n+1->p us
 |a::us,e=>h a us (Nat.succ.inj e)
theorem jR {p:List Value->Prop}(h:∀a,p [a]):∀us:List Value,us.length=1->p us:=Cv λa=>Xp (h a)
theorem kU {p:List Value->Prop}(h:∀a b,p [a,b]):∀us:List Value,us.length=2->p us:=Cv λa=>jR (h a)
theorem nu {p:List Value->Prop}(h:∀a b c,p [a,b,c]):∀us:List Value,us.length=3->p us:=Cv λa=>kU (h a)
theorem RT {p:List Value->Prop}(h:∀a b c d,p [a,b,c,d]):∀us:List Value,us.length=4->p us:=Cv λa=>nu (h a)
theorem RU {p:List Value->Prop}(h:∀a b c d e,p [a,b,c,d,e]):∀us:List Value,us.length=5->p us:=Cv λa=>RT (h a)
structure Gv (l:dR):Prop where
 kind:l.sc.kind = .function
 co:l.sc.isCoroutine=false
 gen:l.sc.isGenerator=false
 Gi:∀y∈l.sc.names,y.2 ≠ .cell
 fr:∀x,l.sc.names.lookup x=some .free->x∈l.fv
 fv:∀x∈l.fv,l.sc.names.lookup x=some .free
 ps:∀x∈l.ps,l.sc.names.lookup x=some .local
 nd:(l.fv++l.ps).Nodup
theorem whole {l:acB}{w:World}{K:ZF}{h:Heap}{mg:Str->Option Value}{fa:Addr}{M:Mo}{T:Nat->Nat->Fn}{i R:Nat}{d:bX}{x:Str}{fs:List Addr}{B:List aaM}{N:List Addr}{tb:List (Addr×Pos×Str)}(X:K.In h)(G:h.Ns Z_ mg)(I:M.ds[i]? = some d)(J:d.ld=none)(E:d.ps = [x])(Q:d.gn = "law")(Gw:mg "law" = some (.ref fa))
   (Z:Good M T) (Y:∀e∈M.ds,∀l,e.ld=some l->Gv l) (L:bj K N M.ds fs B tb) (tn:(tb.map (·.1)).Nodup) (O:∀y∈M.j7,abG K Z_ y=some none)
   (U:∀y e,(y,e)∈M.vZ->∃v u,abG K Z_ y=some (some u)/\RelV v u /\ ∀K H ι,Rel K H ι e v)
   (dc:∀y t,(y,t)∈M.v3->∃a,abG K Z_ y=some (some (.ref a)) /\ ∀lx,iH w ⟨K,w,mg,lx⟩ a t)
   (C:∀ns:List Int,ns.length<=63->∃g',T R i [.lst (ns.map .int)] []=some (.bl true,g')):
   ∃(fd:aaM) (lx:Lx),TabsOk K N lx/\(∀(s:Zo) (v:Value),af9 s fd ⟨[v],[]⟩ [(x,v)]) /\ ∀base:Heap,K.In base->base.Ns Z_ mg->dS l.prog w K mg base gX R fa fd [x] (An K lx):=by
 have A:u5 M ⟨K,w,mg,⟨tb,λx=>(kT M.ds).lookup x⟩⟩ (λj=>fs.getD j fa) (λj=>B.getD j (B.getD 0 default)):=⟨λj d h b=>((L.all X G j d h).1 b).1,λj d h _ p x b=>(L.all X G (f0:=fa) j d h).2.1 p x b,rfl,λj d l h b=>by
   have S:=Y d (ZP h) l b;exact⟨S.kind,S.co,S.gen,S.Gi,S.fr,S.fv,S.ps,S.nd,(L.all X G (f0:=fa) (d0:=default) j d h).2.2 l b⟩,λy r=>PySem.W.mg_none_of X G (O y r),λy e hm=>by
   obtain⟨v,u,k,f,o⟩:=U y e hm;exact⟨v,u,aek X G k,f,o⟩,λy t hm=>by
   obtain⟨a,k,f⟩:=dc y t hm;exact⟨a,aek X G k,f _⟩⟩
 obtain⟨F,hm,z⟩:=A.fn i d I J;rw[Q]at hm;have e:fs.getD i fa=fa:=by have:=hm.symm.trans Gw;injection this with this;injection this
 refine⟨B.getD i (B.getD 0 default),⟨tb,λx=>(kT M.ds).lookup x⟩,⟨λq c=>(L.out q c).1,λq c=>(L.out q c).2.1,λq c=>(L.out q c).2.2,tn⟩,λs v=>.of_eq ?_,λbase _ _=>?_⟩
 . have:=((L.all X G (f0:=fa) (d0:=B.getD 0 default) i d I).1 J).2 [v] (by rw[E];rfl)
   rw[this,E];rfl
 have ok:=(Cu (P:=l.prog) (base:=base) Z A R).1 i d I J;dsimp only at ok;rw[e,E]at ok;exact dS.imp ok (ML (K:=⟨K,w,mg,⟨tb,λx=>(kT M.ds).lookup x⟩⟩) C)
end RI
namespace TL
open PySem.SeqAt PyProof.Rows PySem.W
section
variable {N:Nat}(hN:0<N)
include hN
end
end TL
namespace RI
open PyProof.Rows L2 L3
noncomputable def Uo:lV:=⟨"len",bz,λ_ _=>.inl ⟨_,LG,PySem.boot_len⟩⟩
noncomputable def Up:lV:=⟨"int",mY,λ_ _=>.inr ⟨_,LI,boot_int⟩⟩
noncomputable def Uq:lV:=⟨"tuple",fG,λ_ _=>.inr ⟨_,LJ,boot_tuple⟩⟩
noncomputable def ji (f2 f1:Fn):Fn:=λds g=>match ds with| [_,_]=>f2 ds g|_=>f1 ds g
theorem Cw {X:Cx}{v:Value}{f2 f1:Fn}(c:dJ X v (jY X.kw f2))(e:dJ X v (jY X.kw f1)):dJ X v (jY X.kw (ji f2 f1)):=by
 intro a8 s σ H xs us Q I r q;obtain⟨ι,g,ds,d,a,G0,b,q,p⟩:=q;unfold ji at q;split at q
 . exact c a8 s σ H xs us Q I r ⟨ι,g,_,d,a,G0,b,q,p⟩
 . exact e a8 s σ H xs us Q I r ⟨ι,g,_,d,a,G0,b,q,p⟩
noncomputable def Pw:lV:=⟨"min",ji km gZ,λb a=>.inl ⟨_,Cw (LH a) (Iq b.hd),boot_min⟩⟩
noncomputable def Px:Ad:=⟨"get",iI,i0,λa=>⟨_,_,Me a.units⟩⟩
noncomputable def isRef:D->Bool
 |.ref _=>true|_=>false
theorem EJ {X:Cx}{a8:List (Addr×Obj)}{σ:L2.St}{H:Hp}{s:Zo}{ι:Ix}{g:G}{d:D}{x:V}{v:Value}(I:Inv X a8 σ H s)(G0:aw X.kw H ι g)(r:Rel X.kw H ι d x)(i:RelV x v)(h:isRef d=true):
  s.TypeIs v "list" /\ ∀a,v = .ref a->∃ob,s.heap.get? a=some ob/\ob.dict=none:=by
 cases d with
 |ref n =>
  simp only[Rel]at r;obtain⟨a,rfl,b⟩:=r;have c:n<g.length:=by rw[<- G0.len];exact(Zq.mp b.1).1
  obtain⟨e,f,_⟩:=G0.at (Zn c) b;exact Bg I i (.inl ⟨rfl,e,.of f⟩)
 |_=>cases h
noncomputable def iy (d:D)(ds:List D)(g:G):Option (D×G):=match d,ds with
 |.ref n,[x]=>(g[n]?).bind λxs=>if aA (xs.length+1)=true then some (.ay,g.set n (xs ++ [x]))else none|_,_=>none
theorem Cy {X:Cx}:MR X "list" "append" "list.append" isRef iy where
 pa:=PySem.F.plainAttrs_list
 slot:=PySem.F.slot_list_append
 ty:=PySem.F.type_list_append
 is:=EJ
 run:=by
  intro a8 s σ H x xs v us Q I k rs q;obtain⟨ι,g,d,ds,o,l,G0,f,rl,i,q,p⟩:=q;cases d with
  |ref n =>
   match ds,q,rl with
   | [y],q,rl =>
    simp only[iy]at q;obtain⟨r,j,q⟩:=bind_some q;split at q
    . rename_i h
      cases q;simp only[Rel]at f;obtain⟨a,rfl,c⟩:=f;simp only[aj]at rl;obtain⟨w,_,rfl,b,rfl⟩:=rl;obtain⟨ws,hw,e⟩:=G0.at j c;refine sA a8 s σ H _ _ v us Q I k rs ⟨a,ws,w,rfl,rfl,hw,?_,?_⟩
      . have:=aA.le h;rw[<- e.length];omega
      . exact p _ ι _ (Ext.put c hw) (G0.put c hw (aj.append e (by simp only[aj];exact⟨_,_,rfl,b,rfl⟩))) (by simp[Rel])
    . cases q
   | [],q,_=>cases q|_::_::_,q,_=>cases q
  |_=>cases i
noncomputable def EK:Ad:=⟨"append",isRef,iy,λ_=>⟨_,_,Cy⟩⟩
noncomputable def Cz (E:Expr->FE)(c:List Expr):FI:=match c with
 | [a]=>gI (aE E [a])| [a,b]=>Q3 (aE E [a,b])|_=>qh
noncomputable def I_:uw where
 nm:="range"
 tup:=false
 f:=Cz
 ok:=λj i hm h e c _=>by
  rename_i X k E l as p pos;unfold Cz;split
  . rename_i a
    simp only[aaA,af2,adj]at c;exact OW h hm (fZ e _) (bB c)
  . rename_i a b
    simp only[aaA,af2,adj,aao]at c;exact OX h hm (fZ e _) (by rw[bB c.1,bB c.2];rfl) (bB c.2)
  . exact rK
noncomputable def CA (E:Expr->FE)(b:List Expr):FI:=match b with
 | [a]=>ui (E a)|_=>qh
noncomputable def MN:uw where
 nm:="enumerate"
 tup:=true
 f:=CA
 ok:=λl j hm i c b h=>by
  rename_i X k E e as p pos;unfold CA;split
  . rename_i a
    simp only[aaA,af2,adj]at b;have:=h rfl;cases e with
    |Tuple elts kt tp=>exact Io i hm (c a) (bB b)|_=>cases this
  . exact rK
noncomputable def Py:uw where
 nm:="zip"
 tup:=true
 f:=λE as=>qb (aE E as)
 ok:=λo l hm b i a j=>by
  rename_i X k E c as p pos;have:=j rfl;cases as with
  |nil=>exact .of (λa8 s σ H R I h=>by obtain⟨_,_,_,_,_,_,_,h,_⟩:=h;cases h)
  |cons e es =>
   rw[aaA,aao]at a;cases c with
   |Tuple elts kt tp=>exact IG b hm (fZ i _) (bB a.1) (gL a.2)|_=>cases this
noncomputable def Gx:G0->Cs->(Expr->FE)->Expr->Option FT:=λ_ _ _ _=>none
noncomputable def CB (d:bX):Bool:=d.ld.isSome||(
 decide ((aV d.st).kind = .function) && !(aV d.st).isCoroutine && !(aV d.st).isGenerator&&tw d.N&&decide (d.N.take d.ps.length=d.ps) &&
 d.ps.all (λx=>(aV d.st).names.lookup x == some .local||(aV d.st).names.lookup x == some .cell)&&(aV d.st).names.all (λy=>!(y.2 == .free)))
noncomputable def yr (ds:List bX):Bool:=ds.all CB
theorem CC {ds:List bX}(h:yr ds=true):∀d∈ds,d.ld=none->jk d.N d.ps (aV d.st):=λd hd j=>by have:=aaX.mp h d hd;unfold CB at this;rw[j]at this;simp only[af0,Bool.false_or,Zr,decide_eq_true_eq,Z8,aaX,aac,beq_iff_eq]at this;obtain⟨⟨⟨⟨⟨⟨k,f⟩,a⟩,b⟩,c⟩,l⟩,i⟩:=this;exact⟨k,f,a,nt b,c,l,λy o e=>by have:=i y o;rw[e]at this;simp at this⟩
noncomputable def MO (l:dR):Bool:=decide (l.sc.kind = .function) && !l.sc.isCoroutine && !l.sc.isGenerator&&l.sc.names.all (λy=>!(y.2 == .cell))&&l.sc.names.all (λy=>!(y.2 == .free)||l.fv.elem y.1) &&
 l.fv.all (λx=>l.sc.names.lookup x == some .free)&&l.ps.all (λx=>l.sc.names.lookup x == some .local)&&tw (l.fv++l.ps)
noncomputable def Gy (ds:List bX):Bool:=ds.all λd=>match d.ld with|some l=>MO l|none=>true
theorem Ja {ds:List bX}(h:Gy ds=true):∀d∈ds,∀l,d.ld=some l->Gv l:=λd hd l k=>by have:=aaX.mp h d hd;rw[k]at this;simp only[MO,Zr,decide_eq_true_eq,Z8,aaX,aac,beq_iff_eq]at this;obtain⟨⟨⟨⟨⟨⟨⟨o,f⟩,a⟩,b⟩,c⟩,q⟩,j⟩,i⟩:=this;exact⟨o,f,a,λy s e=>by have:=b y s;rw[e]at this;simp at this,λx r=>(c _ (Z5 r)).elim (λz=>by simp at z) λz=>abI.mp z,q,j,nt i⟩
noncomputable def MP (M:Mo):Bool:=M.ds.all (λd=>match M.qq d with
 |some (_,_,l)=>decide (l.fv=lP l.sc)&&l.ar.defaults.isEmpty&&l.ar.kw_defaults.isEmpty&&decide (d.nm ++ ".<locals>." ++ "<lambda>" = l.qual)&&l.fv.all (λy=>(aV d.st).names.lookup y == some .cell)|none=>true)&&tw ((kT M.ds).map (·.1))&&M.ds.all (λd=>d.ld.isSome || !((kT M.ds).map (·.1)).elem d.gn)
theorem Jb {M:Mo}{T:Nat->Nat->Fn}(z:∀j ds g,T 0 j ds g=none)(r:∀k,wm M (T k) (T (k+1)) k 0 M.ds)(u:yr M.ds=true)(s:MP M=true):Good M T:=by
 simp only[MP,Zr,aaX]at s;obtain⟨⟨s,o⟩,q⟩:=s;refine⟨z,λk j d h=>by simpa using (r k).get h,CC u,λd hd p x l i=>?_,nt o,λd hd i m=>?_⟩
 . have:=s d hd
   rw[i]at this;simp only[Zr,decide_eq_true_eq,aaX,beq_iff_eq,adt]at this;obtain⟨⟨⟨⟨a,b⟩,c⟩,e⟩,f⟩:=this;exact⟨a,b,c,e,f⟩
 . have:=q d hd
   rw[i,abI.mpr m]at this;simp at this
noncomputable def Gz:List Addr->Bool
 | []=>true|x::r=>!(r.elem x)&&Gz r
theorem CD:∀{l:List Addr},Gz l=true->l.Nodup
 | [],_=>abB|x::r,h=>by simp only[Gz,Zr,Z8]at h;exact aaU.mpr (And.intro (λz=>(by rw[abI.mpr z]at h;exact absurd h.1 (by simp))) (CD h.2))
def At (K:ZF)(b:List Addr)(w:World)(mg:Str->Option Value)(M:Mo):Prop:=∃fs eM tb,bj K b M.ds fs eM tb/\Gz (tb.map (·.1))=true/\(∀y∈M.j7,abG K Z_ y=some none) /\
 (∀y e,(y,e)∈M.vZ->∃v u,abG K Z_ y=some (some u)/\RelV v u /\ ∀K H ι,Rel K H ι e v) /\
 (∀y t,(y,t)∈M.v3->∃a,abG K Z_ y=some (some (.ref a)) /\ ∀lx,iH w ⟨K,w,mg,lx⟩ a t)
theorem Jc {l:acB}{q:ZW}{A:List Str}{J:(Str->Option Value)->Heap->Prop}{H:World->Heap->Prop}{d:DefRec}{K:Params->ZF}{M:Mo}{T:Nat->Nat->Fn}{i R:Nat}{dt:bX}{x:Str}{I:List Addr}(Y:l.most=some 63)(O:dn R adX)(S:d.params.defaults = [])(X:d.name = "law")
  (N:∀(w:World) (h:Heap),H w h->(K w.params).In h /\ ∀P∈I,h.get? P=some (abP #[]))
  (F:∀(w:World) (mg:Str->Option Value) (h:Heap),(K w.params).In h->h.Ns Z_ mg->At (K w.params) I w mg M)
  (Q:M.ds[i]? = some dt) (U:dt.ld=none) (hx:dt.ps = [x]) (W:dt.gn = "law") (gd:Good M T) (Z:Gy M.ds=true)
  (E:∀ns:List Int,ns.length<=63->∃g',T R i [.lst (ns.map .int)] []=some (.bl true,g')):
  afE q A J H l.row.toRowW d [] (λf vs=>aft f vs):=
 L2.Hy (n:=63) (k:=R) (x:=x) (CX:=λ_=>gX) (sp:=λw r=>An (K w.params) r) Y (by decide) S O N
  (λw mg fa h c G b=>by obtain⟨fs,y,tb,L,s,B,C,u⟩:=F w mg h c G;rw[X]at b;exact whole c G Q U hx W b gd (Ja Z) L (CD s) B C u E)
  (λ_ _ _ a ns j o e=>⟨a,ns,rfl,o,j,e,λ_=>rfl⟩) λ_ _ _ _ _ z=>z
section
variable {α β:Type}{P:α->Prop}{Q:α->β->Prop}
theorem bn:∀y∈([]:List α),P y:=λy h=>by simp at h
theorem bc {x:α}{l:List α}(h:P x)(r:∀y∈l,P y):∀y∈x::l,P y:=λy z=>by
 rcases Zx.mp z with rfl|z
 . exact h
 . exact r y z
theorem RV:∀y e,(y,e)∈([]:List (α×β))->Q y e:=λy e h=>by simp at h
theorem cc {x:α}{d:β}{l:List (α×β)}(h:Q x d)(r:∀y e,(y,e)∈l->Q y e):∀y e,(y,e)∈(x,d)::l->Q y e:=λy e z=>by
 rcases Zx.mp z with z|z
 . cases z;exact h
 . exact r y e z
end
noncomputable def EL (m:G0)(c:Cs)(x:Str):Option (List (Str×D)):=if iw x then none else if c.sc.names.lookup x=some .globalImplicit then m.v3.lookup x else none
theorem Jd {m:G0}{c:Cs}{X:Cx}(g:Gd m c X){x:Str}{t:List (Str×D)}(h:EL m c x=some t):(x == ("__debug__":Str))=false/\Gl X x /\ ∃a,X.mg x=some (.ref a)/\iH X.w X.kw a t:=by
 unfold EL at h;split at h
 . cases h
 . rename_i e
   split at h
   . rename_i b
     exact⟨(nh (by simpa using e)).1,g.gl b,g.dc x t (lookup_mem h)⟩
   . cases h
noncomputable def RW:Expr->Option (Expr×Str×Pos)
 |.Attribute o x p=>some (o,x,p)|_=>none
noncomputable def one {b:Type}:List b->Option b
 | [a]=>some a|_=>none
theorem MT {b:Type}{l:List b}{a:b}(h:one l=some a):l = [a]:=by
 cases l with
 |nil=>cases h
 |cons x l=>cases l with
  |nil=>cases h;rfl|cons=>cases h
theorem MU {e o:Expr}{x:Str}{p:Pos}(h:RW e=some (o,x,p)):e = .Attribute o x p:=by
 cases e with
 |Attribute=>cases h;rfl|_=>exact nn h
noncomputable def RX (e:Expr):Option (Str×Expr):=(sV e).bind λu=>(nV u.1).map λC=>(C,u.2)
theorem MV {e k:Expr}{C:Str}(h:RX e=some (C,k)):∃p3 p4,e = .Subscript (.Name C p4) k p3:=by obtain⟨⟨o,c⟩,b,h⟩:=bind_some h;obtain⟨f,a,h⟩:=Zv.mp h;cases h;obtain⟨p3,rfl⟩:=Ab b;obtain⟨p4,rfl⟩:=nX a;exact⟨p3,p4,rfl⟩
noncomputable def RY (e:Expr):Option (Expr×Str×Pos×Expr×Pos):=(Cf e).bind λq=>(RW q.1).bind λr=>(one q.2.1).map λy=>(r.1,r.2.1,r.2.2,y,q.2.2)
theorem MW {e o y:Expr}{nm:Str}{q pos:Pos}(h:RY e=some (o,nm,q,y,pos)):e = .Call (.Attribute o nm q) [y] [] pos:=by obtain⟨⟨f,as,p⟩,c,h⟩:=bind_some h;obtain⟨⟨j,k,l⟩,b,h⟩:=bind_some h;obtain⟨i,a,h⟩:=Zv.mp h;cases h;obtain rfl:=qm c;obtain rfl:=MU b;obtain rfl:=MT a;rfl
noncomputable def RZ (x:Expr):Option (Str×Expr×Str×Pos×Expr×Pos):=(RY x).bind λq=>(RX q.1).map λr=>(r.1,r.2,q.2)
theorem MX {x k y:Expr}{C nm:Str}{l pos:Pos}(h:RZ x=some (C,k,nm,l,y,pos)):∃p3 p4,x = .Call (.Attribute (.Subscript (.Name C p4) k p3) nm l) [y] [] pos:=by obtain⟨⟨o,i,j,c,pos'⟩,b,h⟩:=bind_some h;obtain⟨⟨f,e⟩,a,h⟩:=Zv.mp h;cases h;obtain rfl:=MW b;obtain⟨p3,p4,rfl⟩:=MV a;exact⟨p3,p4,rfl⟩
noncomputable def Pz:qo where
 e:=λm c E _ x=>(RZ x).bind λq=>if !(q.2.2.1 == "index")||uu q.2.1||isStar q.2.2.2.2.1 || !(q.2.2.2.1.endLine == q.2.2.2.2.2.line)then none else(EL m c q.1).map λt=>zP t (E q.2.1) (E q.2.2.2.2.1)
 Ci:=by
  intro m c X E g i rf x f h;obtain⟨⟨C,k,nm,ap,y,pos⟩,v1,b⟩:=bind_some h;obtain⟨p3,z,rfl⟩:=MX v1;dsimp only at b;split at b
  . cases b
  . rename_i j
    simp only[aac,not_or,Z8,aes,abz]at j;obtain⟨⟨⟨s1,s2⟩,s3⟩,s4⟩:=j;have s1:=eq_of_beq s1;subst s1;obtain⟨t,u,rfl⟩:=Zv.mp b;obtain⟨s,l,a,o,r⟩:=Jd g u;refine Im r o (i _) (i _) l (yi s2) s (baseOk rfl) ?_ s4 (bB s3);rw[wb (by rw[aaA,s3];rfl)];rfl
 t:=Gx
 tok:=by intro m c X E g i x f h;cases h
end RI
namespace PySem
namespace F
theorem gp:entryFor table "dict.update.loop" = some aa9.«dict.update.loop»:=entryFor_of_tree (by kernel_rfl)
theorem dB:plainId "dict.update.loop" = true:=by decide +kernel
end F
theorem wo:typeLookup (.type "list") "keys" = pure none:=by rw[adJ,acq];kernel_rfl
theorem wq {prog:ZW}{w:World}{A:ZY}{E:Value->Zo->Prop}{s:Zo}{a:Addr}{o:Obj}{xs:Array Value}{k:Nat}{Q:Option Value->Zo->Prop}
  (I:s.heap.get? a=some o) (C:o.cls = .type "list") (B:o.data = .seq xs k) (H:o.dict=none) (J:A.handled=none)
  (h:∀h' tk,(∀b ob,s.heap.get? b=some ob->h'.get? b=some ob)->Q none { s with heap:=h',toks:=tk }):
  wpAny (model prog w) A (getAttr? (.ref a) "keys") Q E s:=by
 obtain⟨c,y,dat,q⟩:=o;simp only at C B H;subst C B H;obtain⟨l,g,d,tk,os⟩:=s;have f:∀i,(⟨l,g,d,i,os⟩:Zo).TypeIs (.ref a) "list":=λ_=>⟨_,I,rfl⟩
 have f1:=sub_AttributeError;have u:=F.slot_list_getattribute.lookup;have f4:=F.slot_list_getattribute.bind (.ref a);have z:=am_list_getattr_none;unfold getAttr? getAttrBy? getAttrBy;repeat (any_goals (first|assumption|exact f _| ((with_reducible show wpAny _ _ (call (Value.builtin "list.__getattribute__") _ _) _ _ _);refine acf F.slot_list_getattribute (f _) am_entry_list_getattribute (F.args_list_getattribute_2 _ _) (meets_getattribute_miss_list a xs k q "keys" _ wo (by decide) (by size_fits)) ⟨I,J,λh' i e j=>?_⟩)|wp_step))
 obtain⟨x,r,he⟩:=j.there;show wpAny _ _ (getattributeRaised _ _ _ _ _ _ _) _ _ _;unfold getattributeRaised;repeat (any_goals (first|assumption|wp_step))
 exact h _ _ j.keeps
end PySem
namespace L3
open PyProof.Rows L2 SeqAt DK
noncomputable def Ao:D->Option (D×D)
 |.tup [k,v]=>some (k,v)|_=>none
noncomputable def iK:List D->Option (List (D×D))
 | []=>some []|d::ds=>(Ao d).bind λp=>(iK ds).map λr=>p::r
noncomputable def lW:Fn:=λds g=>match ds with
 | [.lst ps]=>(iK ps).bind λa=>(putAll g.length a (g ++ [[]])).map λb=>(.aX g.length,b)|_=>none
section
variable {X:Cx}{a8:List (Addr×Obj)}{σ:L2.St}
theorem wt {A:ZY}{E:Value->Zo->Prop}{P:Zo->Prop}(hu:A.units+32<cLine)(hh:A.handled=none){a l B:Addr}{n:Nat}{ps:List D}{vs:List V}:∀(qs:List (D×D)) (i:Nat) {s:Zo} {H:Hp} {ι:Ix} {g g':G},Inv X a8 σ H s->aw X.kw H ι g->d5 ι n a true->mq X.kw H ι l vs->aj X.kw H ι ps vs->iK (ps.drop i)=some qs->putAll n qs g=some g' ->
  s.heap.IsListIter B l i->fD X a8 H B ->
  (∀s' H',Inv X a8 σ H' s'->Ext H ι H' ι->aw X.kw H' ι g'->P s') ->
  acK (model X.prog X.w) A (.builtin "dict.update.loop" ⟨[.ref a,.ref B,.int i 0,.none],[]⟩) (wants (λr s₂=>r = .none/\P s₂) E) s
 | [],i,s,H,ι,g,g',I,G0,ha,hq,hr,h,f,hit,hf,p=>by
  cases f;have hd:ps.drop i = []:=by
    cases e:ps.drop i with
    |nil=>rfl|cons x r=>rw[e]at h;simp only[iK]at h;obtain⟨_,_,h⟩:=bind_some h;obtain⟨_,_,h⟩:=Zv.mp h;cases h
  obtain⟨au,de,pl,hz⟩:=I.list hq.sq;have hlen:au.length<=i:=by rw[<- de.length,<- hr.length];exact acE.mp hd
  refine abF F.gp ?_;rw[abo F.dB _];show wpAny _ A.in1 (acT (.ref B) >>= _) _ _ s;refine Zm (afg hh hit pl.isList (by simp;omega) λh' hx=>?_);show wpAny _ A.in1 (Builtin.Dict.addKeywords a [] >>= _) _ _ _;exact Zm (Zp (Zp ⟨rfl,p _ H (I.turned (t':=s.toks) (λb o hb q=>hx b o hb q) hf.1 hf.2.1 hf.2.2.2.1 hf.2.2.2.2.1 hf.2.2.2.2.2) Ext.refl G0⟩))
 | (k,v)::qs,i,s,H,ι,g,g',I,G0,ha,hq,hr,h,f,hit,hf,p=>by
  obtain⟨x,r,hd,GA,Xs⟩:∃x r,ps.drop i=x::r/\Ao x=some (k,v)/\iK r=some qs:=by
    cases e:ps.drop i with
    |nil=>rw[e]at h;simp[iK]at h
    |cons x r =>
      rw[e]at h;simp only[iK]at h;obtain⟨p0,h1,h⟩:=bind_some h;obtain⟨r0,h2,h⟩:=Zv.mp h;cases h;exact⟨x,r,rfl,h1,h2⟩
  have hi:ps[i]? = some x:=by have:=congrArg (λl=>l[0]?) hd;simpa using this
  have Xt:ps.drop (i+1)=r:=by have:=congrArg List.tail hd;simpa using this
  have hx:x = .tup [k,v]:=by
    unfold Ao at GA;split at GA
    . cases GA;rfl
    . cases GA
  subst hx;obtain⟨au,de,pl,hz⟩:=I.list hq.sq;obtain⟨w,hw,ab⟩:=hr.get hi;obtain⟨u,Xu,ru⟩:=de.get hw;simp only[Rel]at ab;obtain⟨b,us,rfl,Xv,R4⟩:=ab;cases ru;simp only[aj]at R4;obtain⟨kv,_,rfl,rk,vv,_,rfl,rv,rfl⟩:=R4;refine abF F.gp ?_;rw[abo F.dB _];show wpAny _ A.in1 (acT (.ref B) >>= _) _ _ s;refine Zm (ae2 hit pl.isList (by simpa using Xu) λh' Ur sb=>?_);have I1:Inv X a8 σ H { s with heap:=h' }:=I.turned (t':=s.toks) (λb o hb e=>sb.extBut b o hb e) hf.1 hf.2.1 hf.2.2.2.1 hf.2.2.2.2.1 hf.2.2.2.2.2;obtain⟨lz,PB,⟨o,h1,h2,m,h3⟩,_⟩:=I1.tuple Xv.sq;obtain⟨ku,vu,rfl,Mf,Xw⟩:∃ku vu,lz = [ku,vu]/\RelV kv ku/\RelV vv vu:=by
    cases PB with
    |cons a1 r1=>cases r1 with
      |cons a2 r2=>cases r2;exact⟨_,_,rfl,a1,a2⟩
  show wpAny _ A.in1 (ab3 [.ref b] _ >>= _) _ _ _;refine Zm (aaa ?_);refine Zm (wpAny_tryCatch ?_);unfold Builtin.Dict.pairItems;refine Zm (ab7 ⟨o,h1,h2⟩ ?_);rw[if_pos (by decide)];refine Zm (ab4 h1 h3 (Zp ?_));simp only[putAll]at f;obtain⟨g1,j,f⟩:=bind_some f;simp only[kq]at j;obtain⟨xs,mB,j⟩:=bind_some j;split at j
  . rename_i hk
    simp only[Zr]at hk;cases j;obtain⟨es,F0,c,y,sW,ie,Mc,Xx,nd,sy,sz,rl⟩:=G0.xI mB ha;have en:=Ent.of Mc Xx rl;have Xy:=aA.le hk.2;rw[x_ en]at Xy;refine aaa ?_;refine sU I1 (by rw[in1_units];omega) y ie sz en nd hk.1 rk Mf rv Xw λtk vo dC e1 e2 e3 e0 e4 e5=>?_;refine Zp ⟨acH F.dB _,?_⟩;have x1:Ext H ι (upd H a (dO a dC c)) ι:=Ext.put ha y;have fu:B≠a:=λz=>by rw[z]at hf;rw[hf.1]at y;cases y
    have:=wt (P:=P) hu hh qs (i+1) (vP (tk:=tk) I1 y e4 e5) (vQ G0 ha sW y e1 e2 sy e0 (by omega)) ha (hq.ext x1) (aj.ext x1 _ hr) (by rw[Xt];exact Xs) f (Ur.at λo q=>by rw[e5.2 B fu];exact q) ⟨by rw[aC fu];exact hf.1,hf.2⟩ (E:=E) λs' H' I' x' G'=>p s' H' I' (x1.trans x') G';exact this
  . cases j
theorem Je {k:Nat}(B:dn k X.A):dJ X (.type "dict") (jY X.kw lW):=by
 intro a8 s σ H xs us Q I r q;obtain⟨ι,g,ds,d,g',G0,r1,q,p⟩:=q;unfold lW at q;split at q
 . rename_i ps
   obtain⟨qs,L_,q⟩:=bind_some q;obtain⟨g2,Xz,q⟩:=Zv.mp q;cases q;simp only[aj]at r1;obtain⟨v,_,rfl,rv,rfl⟩:=r1;simp only[Rel]at rv;obtain⟨l,vs,rfl,hq,XA⟩:=rv;obtain⟨u,rfl,ru⟩:=vals1 r;cases ru;have hf:H s.heap.objs.size=none:=I.aS.fresh (Zu _);have i:∀h:Heap,(h.push { cls:=.type "dict",data:=.dict #[] }).get? h.objs.size=some { cls:=.type "dict",data:=.dict #[] }:=λh=>ZC _ rfl;have I1:Inv X a8 σ (upd H s.heap.objs.size (dO s.heap.objs.size [] 0)) { s with heap:=s.heap.push { cls:=.type "dict",data:=.dict #[] } }:=I.laid (t':=s.toks) (λb u e=>Zs _ e) (Zu _) ⟨i _,⟨_,i _⟩,λx f q k=>k _ q⟩;have c:Ext H ι (upd H s.heap.objs.size (dO s.heap.objs.size [] 0)) (ι.more s.heap.objs.size 1):=Ext.iF (b:=1) hf;have G1:aw X.kw (upd H s.heap.objs.size (dO s.heap.objs.size [] 0)) (ι.more s.heap.objs.size 1) (g ++ [[]]):=G0.iF hf (.d 0 [] [] (aab _) .nil .nil (by simp[cG]) (beq_eq_false_iff_ne.mpr (abi (Z1 (big I)))) (aab _)) (by simp[aj]);have GB:d5 (ι.more s.heap.objs.size 1) g.length s.heap.objs.size true:=d5.new G0.len;refine callType_codes (Q₁:=λobj s₁=>obj = .ref s.heap.objs.size/\s₁={ s with heap:=s.heap.push { cls:=.type "dict",data:=.dict #[] } }) F.kt_called_dict (F.kt_typeCall_dict_1 _) F.entry_dict_init (kt_code_dict_new _ ⟨rfl,rfl⟩) ?_;rintro obj s₁ ⟨rfl,rfl⟩;have hT:ahL { s with heap:=s.heap.push { cls:=.type "dict",data:=.dict #[] } } (.ref s.heap.objs.size) "dict":=⟨_,i _,rfl⟩
   refine⟨hT,F.args_dict_init_2 _ _,?_⟩;unfold aa9.«dict.__init__»;refine Zm ?_;unfold Builtin.Dict.selfAndRest;refine Zm (afo hT ?_);show wpAny _ _ (pure (s.heap.objs.size,[abt l])) _ _ _;refine Zp ?_;show wpAny _ _ (aeT "dict.__init__" s.heap.objs.size (.ref l) [] .none) _ _ _;unfold aeT;have y:=hq.ext c;obtain⟨au,de,pl,hz⟩:=I1.list y.sq;obtain⟨o,m,x,f,h3,h4⟩:=id pl;refine Zm (ab7 ⟨o,x,f⟩ ?_);rw[if_pos (by decide)];refine Zm (wq (A:=X.A.in1.in1) x f h4 h3 (by simp[B.hd]) λh' a hk=>?_);rw[if_pos (by rfl)];have j:Inv X a8 σ (upd H s.heap.objs.size (dO s.heap.objs.size [] 0)) { s with heap:=h',toks:=a }:=I1.kept (t':=a) hk;refine Zm (abf (Zm (ac9 (pl.keeps hk).isList ?_)));have I3:Inv X a8 σ (upd H s.heap.objs.size (dO s.heap.objs.size [] 0)) { s with heap:=h'.push { cls:=.type "list_iterator",data:=.fields #[.ref l,.int 0 0] },toks:=a }:=j.kept (t':=a) λb u e=>Zs _ e;refine Zp ⟨acH F.dB _,?_⟩;refine wt (A:=X.A.in1) (by rw[in1_units];have:=B.units;omega) (by simp[B.hd]) qs 0 I3 G1 GB y (aj.ext c _ XA) L_ Xz ⟨_,ZC _ rfl,rfl,rfl⟩ (j.mL (Zu _) (j.aS.fresh (Zu _))) λs' z I' x' G'=>?_;refine⟨.ref s.heap.objs.size,z,I',rfl,p z _ _ (c.trans x') G' ?_⟩;simp only[Rel];exact⟨_,rfl,GB⟩
 . cases q
end
end L3
namespace HX
noncomputable def rl (x:Nat):Nat:=(x*2147483648) % 18446744073709551616+x / 8589934592
noncomputable def gx (w:Nat):Nat:=let y:=((w+18446744073709551616-2870177450013471924) % 18446744073709551616)*614540362697595703 % 18446744073709551616;y % 2147483648*8589934592+y / 2147483648
noncomputable def out (w:Nat):Int:=if(w == 18446744073709551616-1)=true then 1546275796 else if w<9223372036854775808 then(w:Int)else(w:Int)-18446744073709551616
end HX
set_option maxRecDepth 10000
namespace HX
theorem el (a b:Int):[a,b].length=2:=rfl
theorem ec:((18446744073709551616:Nat):Int)=18446744073709551616:=rfl
end HX
namespace L3
open PyProof.Rows L2
noncomputable def eI (R:Str->Option Fn)(i:Nat)(fr:FA):FE:=λσ g=>match σ[i]? with
 |some (some (.fn y ds))=>(R y).bind λfn=>(fr σ g).bind λq=>fn (ds++q.1) q.2|_=>none
theorem CG {R:Str->Option Fn}{i:Nat}{fr:FA}{σ:Sg}{g:G}{y:Str}{fn:Fn}(h:σ[i]? = some (some (.fn y [])))(a:R y=some fn):eI R i fr σ g=(fr σ g).bind λq=>fn q.1 q.2:=by unfold eI;rw[h];simp[a]
end L3
namespace RI
open PyProof.Rows L2 L3
noncomputable def GD:lV:=⟨"dict",lW,λa _=>.inr ⟨_,Je a,boot_dict⟩⟩
noncomputable def R5 (m:G0):Str->Option Fn:=λy=>match m.fns.lookup y with
 |some q=>some (m.T q.1)|none=>(m.Mx.lookup y).map λi=>dk (m.T i)
noncomputable def MZ:qo where
 e:=λm c E _ x=>match x with
  |.Call (.Name y _) (a::as) [] _=>if iw y||(a::as).any isStar || !(ux (c.sc.names.lookup y))then none else(jP c.N y).map λi=>eI (R5 m) i (aE E (a::as))|_=>none
 Ci:=by
  intro m c X E g hE rf x f h;split at h
  . rename_i y p a as pos
    split at h
    . cases h
    . rename_i hh
      simp only[aac,not_or,abz,Z8,aes]at hh;obtain⟨⟨h1,h2⟩,h3⟩:=hh;obtain⟨i,hi,rfl⟩:=Zv.mp h;obtain⟨o1,o2,_⟩:=nh h1;rw[aaA,aao]at h2;have hN:X.N[i]? = some y:=by rw[g.hN];exact fM hi
      have hv:AS X.env.scope y:=by
        rw[g.hs];unfold ux at h3;split at h3
        . rename_i e;exact .inl e
        . rename_i e;exact .inr (.inl e)
        . rename_i e;exact .inr (.inr e)
        . cases h3
      refine .of (λa8 s σ H Q I k=>?_);obtain⟨ι,σd,g0,d,g',G0,S0,k,pp⟩:=k;unfold eI at k;split at k
      . rename_i z dz hz
        obtain⟨fn,r6,k⟩:=bind_some k;obtain⟨v,hσ,rv⟩:=S0.2 i _ hz;simp only[Rel]at rv;obtain⟨fa,gm,rfl,hV,rc⟩:=rv;obtain⟨mm,hn,Mw⟩:=I.loc;obtain⟨u,r,l⟩:=Mw i y _ hN hσ hv;cases r;have load:∀{Q:Value->Zo->Prop} {E:Value->Zo->Prop},Q (.ref fa) s->wpAny (model X.prog X.w) X.A (eval (.Name y p) X.env) Q E s:=λfin=>by
          rcases l with⟨hk,hm⟩|⟨hk,c,hc,fT⟩
          . exact adC (adD I.ok.kind hk hn hm fin) o1
          . rcases hk with hk|hk
            . exact adC (adQ I.ok.kind hk hc fT fin) o1
            . exact adC (afH I.ok.kind hk hc fT fin o2) o1
        unfold R5 at r6;split at r6
        . rename_i jn hl
          obtain⟨j,n⟩:=jn;cases r6;obtain⟨Y3,fd,ps,ok,hm,kp,b,ln⟩:=g.fn z j n (lookup_mem hl);rcases hV with⟨rfl,_,kE⟩|⟨l',_,_,_,_,o,_⟩
          . have e:dz = []:=by
              have:=rc.length;exact abL.mp (by simpa using this)
            subst e;have kE:X.mg z=some (.ref fa):=kE;rw[hm]at kE;cases kE;have q2:t_ (j2 X.kw n (m.T j)) [] E0 (ib X.kw (aE E (a::as))) σ H Q:=oQ ln ⟨ι,σd,g0,d,g',G0,S0,k,pp⟩;refine aa8 (load ?_);refine ad8 (h₀:=X.base) I.ok.mod.kz kp (aW ((fZ hE (a::as)).un pos a8 s σ H _ I q2) λus s1 ⟨vs,H1,I1,r,q⟩=>⟨I1.mf,?_⟩) (bB h2.1) (gL h2.2);exact uS ok g.rm b .nil zx I1 r q
          . have o:X.lx.lm z=some l':=o
            rw[g.lf z j n (lookup_mem hl)]at o;cases o
        . obtain⟨j,hl,rfl⟩:=Zv.mp r6
          obtain⟨⟨l0,XB⟩,ok⟩:=g.ll z j (lookup_mem hl);obtain⟨⟨es,g1⟩,h4,h5⟩:=bind_some k;rcases hV with⟨_,o,_⟩|C
          . have o:X.lx.lm z=none:=o
            rw[XB]at o;cases o
          . have tI:∀{s':Zo} {H':Hp} {σ':L2.St},Inv X a8 σ' H' s'->∀{ι':Ix} {F0:List V},Bs X.kw H' ι' z fa F0->PySem.W.FnAt fa s'.heap:=fun {s' H' σ'} I' {ι' F0} C'=>by
              obtain⟨_,_,_,_,_,_,hf,_⟩:=C';exact⟨_,_,_,_,(I'.aS fa _ hf.1).1⟩
            refine aa8 (load ?_);refine PySem.W.callWith_F (tI I C) (aW ((fZ hE (a::as)).un pos a8 s σ H (λvs H1=>∃ι1,Ext H ι H1 ι1/\aw X.kw H1 ι1 g1/\aj X.kw H1 ι1 es vs) I ⟨ι,σd,g0,es,g1,G0,S0,h4,λH1 ι1 vs e1 G1 r1=>⟨ι1,e1,G1,r1⟩⟩) λus s1 ⟨vs,H1,I1,r,ι1,e1,G1,r1⟩=>?_) (bB h2.1) (gL h2.2);have C1:Bs X.kw H1 ι1 z fa gm:=by obtain⟨l,c,fE,pm,cl,q1,q2,q3,q4,q5,q6⟩:=C;exact⟨l,c,fE,pm,cl,q1,q2.ext e1,q3.ext e1,q4,q5,q6.mono λc u z q=>q.ext e1⟩
            refine⟨tI I1 C1,afq (acp (ok.run X.A X.stack s1 H1 ι1 fa gm vs us Q dz es d g1 g' g.rm I1.DN C1 r G1 (aj.ext e1 _ rc) r1 h5 (pp.mono e1)) λrr s' k=>?_)⟩;cases rr with
            |error e=>exact k.elim
            |ok fl =>
              cases fl with
              |ret u=>exact I1.after k|next=>exact aba k|brk=>exact aba k|cont=>exact aba k
      . cases k
  . cases h
 t:=Gx
 tok:=by intro m c X E g hE x f h;cases h
end RI
namespace L3
open PyProof.Rows L2
noncomputable def dr (d:D)(g:G):D:=match d with
 |.ref n=>(match g[n]? with|some xs=>.lst xs|none=>.ref n)
 |d=>d
end L3
namespace PyProof.Rows
section
variable {prog:ZW}{w:World}{A:ZY}{E:Value->Zo->Prop}{s:Zo}
theorem EM {h:Heap}{a:Addr}{vs:List Value}{n:Nat}{out:Array Value}(i:h.get? a=some (aeg "list" vs.toArray n)):∃c,(afz h a vs out).get? a=some (aeg "list" out c):=by unfold afz;have f:a<h.objs.size:=ZG i;have e:=get?_update_seq i (λ_=>#[]);have b:=Zs (aeg "list" #[] 0) (Zs (aeg "tuple" vs.toArray 0) e);exact⟨_,get?_update_seq b (λ_=>out)⟩
theorem CH {h:Heap}{a b:Addr}{vs:List Value}{out:Array Value}{o:Obj}(c:b≠a)(e:h.get? b=some o):(afz h a vs out).get? b=some o:=by unfold afz;rw[abw _ _ c.symm];exact Zs _ (Zs _ ((abw _ _ c.symm).trans e))
theorem CI {x:Value}{ns:List Int}{Q:Value->Zo->Prop}(C:ns.length<64)
  (B:∀(A':ZY) (E':Value->Zo->Prop) (Q':List Value->Zo->Prop),A'.handled=A.handled->(∀(h':Heap) (tk:Nat) (vs:List Value),(∀b o,s.heap.get? b=some o->h'.get? b=some o)->s.heap.objs.size<=h'.objs.size->abQ vs ns->Q' vs { s with heap:=h',toks:=tk })->wpAny (model prog w) A' (collect x) Q' E' s)
  (h:∀(h':Heap) (tk L c:Nat) (out:Array Value),(∀b o,s.heap.get? b=some o->h'.get? b=some o)->s.heap.objs.size<=L->h'.get? L=some (aeg "list" out c)->abQ out.toList (abJ ns)->Q (.ref L) { s with heap:=h',toks:=tk }):
  wpAny (model prog w) A (call (.builtin "sorted") [x]) Q E s:=by
 refine Calls.call_function_entry kind_sorted plain_sorted entry_sorted (args_sorted1 _) ?_;unfold aa9.«sorted»;refine Zm (m:=checkCount "sorted" 1 1 _) (Zp ?_);refine Zm (B _ _ _ rfl λf y vs k u i=>?_);have l:vs.length<64:=by rw[i.length];exact C
 refine Zm (wpAny_newList ?_ (by rw[abC];omega));have a:(f.push (aeg "list" vs.toArray 0)).get? f.objs.size=some (aeg "list" vs.toArray 0):=ZC _ rfl;refine Zm (aaa (aai slot_list_sort ⟨_,a,rfl⟩ entry_list_sort (list_sort_tree a i l λout z a1 a2 r=>⟨_,rfl,?_⟩) (args_list_sort _)));have e:=aeQ a2 r;subst e;obtain⟨c,B⟩:=EM (out:=out) a;refine Zp ⟨_,rfl,h _ _ f.objs.size c out (λb o q=>?_) u B a1⟩;have j:=k b o q;exact CH (Z1 (ZG j)) (Zs _ j)
end
end PyProof.Rows
namespace SJ
open PyProof.Rows SW
theorem ik.at {h h':Heap}{a:Addr}{led:Bool}{ks:List Int}(f:ik h a led ks)(k:∀o,h.get? a=some o->h'.get? a=some o):ik h' a led ks:=by obtain⟨b,e,P,l,c,r⟩:=f;exact⟨b,e,P,l,k _ c,r⟩
noncomputable def bT (val:Nat->Int):Nat->List Int
 | 0=>[]|i+1=>jy (bT val i) (val i)
theorem qr (val : Nat -> Int) {i : Nat}: ∀ {n : Nat}, i <= n -> (bT val i).length <= (bT val n).length
 | 0, h => by have : i = 0 := by omega
              subst this; exact Zu _
 |n + 1, h => by
   by_cases e : i = n + 1
   . subst e; exact Zu _
   . refine Z4 (qr val (n := n) (by omega)) ?_
     show _ <= (jy _ _).length;unfold jy;split <;> simp
section
variable {prog:ZW}{w:World}{A:ZY}{R:Result->Zo->Prop}{I:Addr}{fp wr:List Addr}{G:Array aeF->Array aeF->Prop}{n:Nat}{P:Nat->Value->Prop}{St:Nat->Zo->Prop}
theorem CJ (W:WalksS prog w A.in1 I fp wr G n P St)(S:Addr)(B:S ∉ fp)(led:Bool)(val:Nat->Int)(C:∀i v,P i v->∃t,v = .int (val i) t)(H:(bT val n).length<=4)(E:∀i,i<n->0<=val i/\val i<=7):
  ∀(k i:Nat) (s:Zo),n-i=k->i<=n->St i s->ik s.heap S led (bT val i) ->
    (∀s',Moved (S::wr) G s s'->ik s'.heap S led (bT val n)->R (.ok (.ret .none)) s') ->
    acK (model prog w) A (.builtin "set.update.loop" ⟨[.ref S,.ref I],[]⟩) R s:=by
 have q:S ∉ wr:=λh=>B (W.sub _ h);have u:∀b∈wr,b∈S::wr:=λb a=>Zz _ a;intro k;induction k with
 |zero =>
  intro i s hk hi f l j;have cq:i=n:=by omega
  subst cq;refine abF F.entry_set_update_loop ?_;rw[abo F.plain_set_update_loop _];show wpAny _ A.in1 (acT (.ref I) >>= _) _ _ s;refine Zm (W.done s _ _ f λs' hm=>?_);exact Zp (j s' (hm.mono u) (l.at λo e=>hm.heap S _ q e))
 |succ k ih =>
  intro i s hk hi f l j;have c:i<n:=by omega
  refine abF F.entry_set_update_loop ?_;rw[abo F.plain_set_update_loop _];show wpAny _ A.in1 (acT (.ref I) >>= _) _ _ s;refine Zm (W.item i s _ _ c f λv s' x Us hm=>?_);obtain⟨t,rfl⟩:=C i v x;have z:ik s'.heap S led (bT val i):=l.at λo e=>hm.heap S _ q e;show wpAny _ A.in1 (ab3 [ad3 (val i) t] (setAdd S (.int (val i) t)) >>= _) _ _ s';refine Zm (aaa ?_);unfold setAdd;refine aaa ?_;refine Zm ((acJ prog w).pyHash (k:=val i) (intKind_is _ _ _ _) ?_);have hr:(bT val i).length<=3\/val i∈bT val i:=by
    by_cases hm:val i∈bT val i
    . exact .inr hm
    . have h1:=qr val (i:=i+1) c
      have h2:(bT val (i+1)).length=(bT val i).length+1:=by show(jy _ _).length=_;unfold jy;rw[if_neg hm];simp
      exact .inl (by omega)
  refine HE (s:={ s' with toks:=s'.toks+1 }) z hr (E i c) λb h' r sF=>?_;refine Zp ⟨acH F.plain_set_update_loop _,ih (i+1) _ (by omega) c (W.frame _ s' _ _ Us (ae_ _) λb a o e=>?_) sF λuT Ut y=>?_⟩
  . rw[r.2 b (λh:b=S=>B (by rw[<- h];exact a))];exact e
  . refine j uT (Moved.trans W.gtrans ((hm.mono u).then_heap (ae_ _) λb o a e=>?_) Ut) y
    rw[r.2 b (λh:b=S=>a (by rw[h];exact ZU))];exact e
end
section
variable {prog:ZW}{w:World}{A:ZY}{E:Value->Zo->Prop}{s:Zo}
theorem Uv {h:Heap}{a:Addr}{led:Bool}(e:h.get? a=some (emp led)):ik h a led []:=
 ⟨#[],0,tb [] led,[],e,⟨rfl,rfl,rfl,agd,by intro j b;simp[tb]at b,rfl,by decide⟩,rfl,ag7 _,rfl,by intro j b;simp[tb]at b⟩
theorem Uw {a:Addr}{ks:List Int}(B:ik s.heap a (!w.params.followText "set-order") ks):∃es ep t ord ok ms,s.heap.get? a=some (h_ es ep t)/\Way prog w a es ep t ord ok/\(w.params.followText "set-order" = true\/t.plain=true)/\es.size<=18/\abQ ord ms/\ms.Perm ks:=by
 obtain⟨es,ep,t,l,x,T,o,z,u,_⟩:=B;have hf:t.fits es.size=true:=T.fits;have y:es.size<=18:=Z4 T.n4 (by decide)
 have q:(es.toList.map (·.2)).Perm (l.map λp=>(mS p).2):=by
  have:=z.map (·.2)
  rwa[abx]at this
 have io:∀l:List (Int×Nat),abQ (l.map λp=>(mS p).2) (l.map (·.1)):=by
  intro l;induction l with
  |nil=>exact .nil|cons p l ih=>exact .cons _ _ ih
 cases hb:w.params.followText "set-order" with
 |true =>
  obtain⟨ms,f,b⟩:=sJ (((sE (w.params.setOrder a ep) es).map (·.2)).trans q) (io l)
  exact⟨es,ep,t,_,_,ms,x,TB hf hb,.inl rfl,y,f,by rw[<- u];exact b⟩
 |false =>
  rw[hb]at o;obtain⟨ms,f,b⟩:=sJ q (io l);have k:=T.ri;have bl:∀i j,t.place[i]? = some j->ZV t.place (j+1)=i+1:=by
   intro i j e;obtain⟨hi,e⟩:=ab0.mp e;obtain⟨a1,a2,r⟩:=lC k (j+1);have f:¬ZV t.place (j+1)<=i:=λh=>by have:=r i hi h;omega
   have b:¬i+1<ZV t.place (j+1):=λh=>by
    have c:i+1<t.place.size:=by omega
    have q1:=a2 (i+1) c h;have q2:=pH k c (ab_ i);omega
   omega
  have b0:ZV t.place 0=0:=by
   obtain⟨a1,a2,r⟩:=lC k 0;refine aeA λh=>?_;have c:0<t.place.size:=by omega
   have:=a2 0 c (by omega);omega
  exact⟨es,ep,t,_,_,ms,x,TC hf hb o T.pl T.sz b0 bl,.inr T.pl,y,f,by rw[<- u];exact b⟩
theorem xi {a:Addr}{ks:List Int}{Q:Value->Zo->Prop}(hh:A.handled=none)(B:ik s.heap a (!w.params.followText "set-order") ks)
  (h:∀(h':Heap) (tk L c:Nat) (out:Array Value),(∀b o,s.heap.get? b=some o->h'.get? b=some o)->s.heap.objs.size<=L->h'.get? L=some (aeg "list" out c)->abQ out.toList (abJ ks)->Q (.ref L) { s with heap:=h',toks:=tk }):
  wpAny (model prog w) A (call (.builtin "sorted") [.ref a]) Q E s:=by
 obtain⟨r,ep,t,ord,ok,ms,z,W,hd,h3,e,f⟩:=Uw (prog:=prog) B;have x:abJ ms=abJ ks:=by refine aeQ ((aeh ms).trans f) ?_;exact PySem.W.sortI_rises ms
 have l:r.size<=ZM:=by rw[abC];omega
 refine CI (ns:=ms) (by rw[<- e.length,W.len];omega) (λA' E' Q' y k=>?_) (by rw[x];exact h);exact w_ W (by rw[y];exact hh) z hd l λu j q i=>k u j _ i (aco q) e
end
section
variable {prog:ZW}{w:World}{A:ZY}{E:Value->Zo->Prop}{s:Zo}
set_option maxHeartbeats 3200000 in
theorem call_set_list {l:Addr}{items:Array Value}{val:Nat->Int}{Q:Value->Zo->Prop}(hh:A.handled=none)(C:s.heap.IsList l items)(H:∀(i:Nat) (v:Value),items[i]? = some v->∃t,v=ad3 (val i) t)(B:(bT val items.size).length<=4)(I:∀i,i<items.size->0<=val i/\val i<=7)
  (h:∀(h':Heap) (tk:Nat),ik h' s.heap.objs.size (!w.params.followText "set-order") (bT val items.size)->(∀b o,b<s.heap.objs.size->s.heap.get? b=some o->h'.get? b=some o)->Q (.ref s.heap.objs.size) { s with heap:=h',toks:=tk }):
  wpAny (model prog w) A (call (.type "set") [.ref l]) Q E s:=by
 generalize qQ:(!w.params.followText "set-order")=led at *;obtain⟨c,tl,YE⟩:=F.called_set.mro;have Yy:=F.called_set.made;have zA:=F.called_set.sub;refine afq (codeAny_of_tree ?_);show wpAny _ _ (callAny (.type "set") _) _ _ _;refine Zp ⟨Code.quiet_builtin _ (by decide +kernel),abF F.entry_type_call ?_⟩;rw[Around.under_plain (weight_type_call_type "set" [.ref l] []) rfl];have h1:=F.called_set.notType;have h2:=F.called_set.canCreate;have Y5:=F.typeCall_set_1 (.ref l);repeat (any_goals (first|assumption|wp_step))
 refine acp (HF (.ref l) (E:=E) (Q₁:=λobj q=>obj = .ref s.heap.objs.size/\q={ s with heap:=s.heap.push (emp led) }) ⟨rfl,by rw[qQ]⟩) λr q f=>?_;cases r with
 |error e=>exact f
 |ok fl =>
  cases fl with
  |ret obj =>
   obtain⟨rfl,rfl⟩:=f;have x:(s.heap.push (emp led)).get? s.heap.objs.size=some (emp led):=ZC _ rfl;have hT:ahL { s with heap:=s.heap.push (emp led) } (.ref s.heap.objs.size) "set":=⟨_,x,rfl⟩
   have Y6:=F.called_set.init.lookup;have Y7:=F.called_set.init.bind (.ref s.heap.objs.size);repeat (any_goals (first|assumption|wp_step))
   refine acp (codeAny_call_builtin (R:=wants (λr z=>r = .none /\ ∃h' tk,z={ s with heap:=h',toks:=tk }/\ik h' s.heap.objs.size led (bT val items.size) /\
      (∀b o,b<s.heap.objs.size->s.heap.get? b=some o->h'.get? b=some o)) E) F.called_set.init.plain F.entry_set_init (check_set_init_1 hT ?_)) λr₂ z a=>?_
   . obtain⟨ol,k,j,nl,tH⟩:=C
     obtain⟨YF,PC,Yz,M1⟩:=ol;simp only at j tH;subst j;subst tH;have Ux:(s.heap.push (emp led)).get? l=some { cls:=.type "list",dict:=PC,data:=.seq items nl,slots:=M1 }:=Zs _ k;have YG:=F.sub_list_set;have YH:=F.sub_list_frozenset;have fu:(aav "list" == aav "dict")=false:=by decide
     have y:(s.heap.push (emp led)).IsList l items:=⟨_,Ux,rfl,nl,rfl⟩
     unfold aa9.«set.__init__» noKeywords ahd;generalize XH:aff=PI
     wp_walk
     subst XH;refine ac9 y ?_;refine Zm (wpAny_runValue ?_);have u:l<s.heap.objs.size:=ZG k;have XI:A.in1.in1.in1.handled=none:=by simp[hh]
     have Uy:l≠(s.heap.push (emp led)).objs.size:=by rw[abe];exact Z1 (aa1 u)
     have xF:s.heap.objs.size ∉ [(s.heap.push (emp led)).objs.size,l]:=by rw[abe];simp only[Zx,aeb,aaF,or_false,not_or];exact⟨Z1 (ab_ _),adF u⟩
     refine CJ ((Walks.list XI _ l Uy items).toS) s.heap.objs.size xF led val H B I (items.size-0) 0 _ (by omega) (aab _) ⟨⟨_,ZC _ rfl,rfl,rfl⟩,(y.push _)⟩ ?hS0 ?hR
     case hS0=>exact Uv (Zs _ x)
     case hR =>
      intro s' hm xG;obtain⟨h',g',d',sG,A_⟩:=s';have eg:g'=s.gens:=hm.gens;have ed:d'=s.drawn:=hm.drawn;have eo:A_=s.os:=hm.os;subst eg;subst ed;subst eo;show wpAny _ _ _ _ _ _;refine Zp ?_;show wpAny _ _ (ret aa_) _ _ _;have ht:∀b o,b<s.heap.objs.size->s.heap.get? b=some o->h'.get? b=some o:=λb o B e=>by
       have q1:b≠s.heap.objs.size:=Z1 B;have q2:b≠(s.heap.push (emp led)).objs.size:=by rw[abe];exact Z1 (aa1 B)
       exact hm.heap b o (by simp only[Zx,aaF,or_false,not_or];exact⟨q1,q2⟩) (Zs _ (Zs _ e))
      exact Zp ⟨rfl,h',sG,rfl,xG,ht⟩
   . cases r₂ with
     |error e=>exact a
     |ok fl₂ =>
      cases fl₂ with
      |ret r =>
       obtain⟨rfl,h',tk,rfl,GC,vy⟩:=a;repeat (any_goals (first|assumption|wp_step))
       exact h _ _ GC vy
      |_=>exact a.elim
  |_=>exact f.elim
end
end SJ
namespace L3
open PyProof.Rows L2 SJ
noncomputable def rO (a:FE):FE:=λσ g=>(a σ g).bind λr=>(jh r.1 r.2).bind λxs=>(fA xs).bind λns=>if decide ((bT (λi=>ns.getD i 0) ns.length).length<=4 /\ ∀i,i<ns.length->0<=ns.getD i 0/\ns.getD i 0<=7)=true then some (.lst ((abJ (bT (λi=>ns.getD i 0) ns.length)).map .int),r.2)else none
section
variable {X:Cx}
theorem M3 {e:Expr}{E:FE}{S C J B:Pos}(hh:X.A.handled=none)(R:X.mg "sorted" = none)(P:X.mg "set" = none)(O:DE X e E)(N:Gl X "sorted":=by rfl)(T:Gl X "set":=by rfl)
   (K:ZO [Expr.Call (.Name "set" C) [e] [] B] X.env=(false,eval (.Call (.Name "set" C) [e] [] B) X.env)::ZO [] X.env:=by rfl) (M:ZO [e] X.env=(false,eval e X.env)::ZO [] X.env:=by rfl):
   DE X (.Call (.Name "sorted" S) [.Call (.Name "set" C) [e] [] B] [] J) (rO E):=.of (by
 intro a8 s σ H Q I h;obtain⟨ι,σd,g,d,g',G0,S0,h,p⟩:=h;obtain⟨⟨d1,g1⟩,h1,h⟩:=bind_some h;obtain⟨xs,hx,h⟩:=bind_some h;obtain⟨ns,hn,h⟩:=bind_some h;dsimp only at hx h;split at h
 . rename_i k
   cases h;rw[decide_eq_true_eq]at k;obtain⟨k,h7⟩:=k;have arg:=(kB O.un mN M) B a8 s σ H (λvs H1=>∃j a us,vs = [.ref a]/\dw X.kw H1 a us/\aj X.kw H1 j xs us/\Ext H ι H1 j/\aw X.kw H1 j g') I (tD.bind G0 S0 h1 λH1 j v e1 f S1 r1=>by obtain⟨a,us,rfl,z,hr⟩:=lI f r1 hx;exact⟨j,a,us,rfl,z,hr,e1,f⟩)
   refine aa8 (iL I N R (u:=.builtin "sorted") rfl ?_ (by decide) (by decide));refine adI ?_ K rfl;rw[K];show wpAny _ _ (spliced ((false,eval (.Call (.Name "set" C) [e] [] B) X.env)::abp J (ZO [] X.env))) _ _ s;refine ad7 ?_;refine aa8 (iL I T P (u:=.type "set") rfl ?_ (by decide) (by decide));refine aa6 (aW arg λjR s1 q1=>?_) M rfl;obtain⟨vs,H1,r,rv,j,a,us,rfl,z,hr,e1,f⟩:=q1;obtain⟨u,rfl,ru⟩:=rv.one;cases ru;obtain⟨l,de,pl,hz⟩:=r.list z;have hA:=mZ hn hr de;have XQ:l.length=ns.length:=by obtain⟨ps,rfl,rfl⟩:=lK hA;simp
   have y:l.toArray.size=ns.length:=by rw[Zw];exact XQ
   refine SJ.call_set_list (items:=l.toArray) (val:=λi=>ns.getD i 0) hh pl.isList (λi v hv=>ahk (by simpa using hA:abQ l.toArray.toList ns) i v (by rw[acr];exact hv)) (by rw[y];exact k) (by rw[y];exact h7) λh2 Sb sF k2=>?_;rw[y]at sF;refine agb ?_;have kk:∀b o,s1.heap.get? b=some o->h2.get? b=some o:=λb o q=>k2 b o (ZG q) q;have I2:Inv X a8 σ H1 { s1 with heap:=h2,toks:=Sb }:=r.kept kk;refine SJ.xi (s:={ s1 with heap:=h2,toks:=Sb }) hh sF λh3 XR L c out k3 hL hc hO=>?_;have Mj:s1.heap.objs.size<=L:=by obtain⟨_,_,_,_,ha,_⟩:=sF;exact Z4 (aco (ZG ha)) hL
   have x:=r.aS.fresh Mj;have QT:((abJ (bT (λi=>ns.getD i 0) ns.length)).map V.int).length<=ZM:=by rw[Z2,(aeh _).length_eq];exact Z4 k (by decide)
   refine⟨.ref L,_,r.laid (t':=XR) (λb o q=>k3 b o (kk b o q)) Mj (show dW X.prog X.w _ _ _ (.lst ((abJ (bT (λi=>ns.getD i 0) ns.length)).map V.int)) from⟨QT,out.toList,c,iP hO,by simpa[aeg]using hc⟩),rfl,p _ _ _ (e1.trans (Ext.lay x)) (f.lay x) ?_⟩;simp only[Rel];exact⟨_,_,rfl,.inl ⟨.inl aP,f.fresh x,f.gY x⟩,pX _⟩
 . cases h)
end
@[simp] theorem Jf {a:FE}{σ:Sg}{g:G}:rO a σ g=(a σ g).bind λr=>(jh r.1 r.2).bind λxs=>(fA xs).bind λns=>if decide ((bT (λi=>ns.getD i 0) ns.length).length<=4 /\ ∀i,i<ns.length->0<=ns.getD i 0/\ns.getD i 0<=7)=true then some (.lst ((abJ (bT (λi=>ns.getD i 0) ns.length)).map .int),r.2)else none:=rfl
end L3
namespace RI
open PyProof.Rows L2 L3
noncomputable def uB (x:Expr):Option (Str×Expr):=match x with
 |.Call f as ks _=>(match f with
  |.Name t _=>(match as with
   | []=>none|a::r=>if r.isEmpty&&ks.isEmpty then some (t,a)else none)
  |_=>none)
 |_=>none
theorem wu {x a:Expr}{t:Str}(h:uB x=some (t,a)):∃p pos,x = .Call (.Name t p) [a] [] pos:=by
 cases x with
 |Call f as ks pos =>
  cases f with
  |Name t' p =>
   cases as with
   |nil=>cases h
   |cons b r =>
    simp only[uB]at h;split at h
    . rename_i c
      rw[Zr,adt,adt]at c;cases h;obtain⟨rfl,rfl⟩:=c;exact⟨_,_,rfl⟩
    . cases h
  |_=>cases h
 |_=>cases h
noncomputable def CM (m:G0)(c:Cs)(t r:Str)(x:Expr):Option Expr:=(uB x).bind λy=>(uB y.2).bind λz=>if y.1 == t&&z.1 == r&&c.sc.names.lookup y.1 == some .globalImplicit&&c.sc.names.lookup z.1 == some .globalImplicit&&m.j7.elem y.1&&m.j7.elem z.1 && !(isStar z.2)then some z.2 else none
theorem CN {m:G0}{c:Cs}{t r:Str}{x a:Expr}(h:CM m c t r x=some a):∃p p2 pos lX,x = .Call (.Name t p) [.Call (.Name r p2) [a] [] lX] [] pos/\c.sc.names.lookup t=some .globalImplicit/\c.sc.names.lookup r=some .globalImplicit/\t∈m.j7/\r∈m.j7/\isStar a=false:=by
 obtain⟨⟨t',y⟩,q,k⟩:=bind_some h;obtain⟨⟨u,z⟩,e,b⟩:=bind_some k;dsimp only at b e;obtain⟨p,pos,rfl⟩:=wu q;obtain⟨p2,lX,rfl⟩:=wu e;split at b
 . rename_i f
   simp only[Zr,beq_iff_eq,Z8]at f;obtain⟨⟨⟨⟨⟨⟨rfl,rfl⟩,j⟩,l⟩,o⟩,s⟩,i⟩:=f;cases b;exact⟨_,_,_,_,rfl,j,l,abI.mp o,abI.mp s,i⟩
 . cases b
noncomputable def M5:qo where
 e:=λm c E _ x=>(CM m c "sorted" "set" x).map λa=>rO (E a)
 Ci:=by intro m c X E g b u x f h;obtain⟨a,q,rfl⟩:=Zv.mp h;obtain⟨p,r,pos,s,rfl,o,i,j,k,l⟩:=CN q;exact M3 g.rm.hd (g.bl _ j) (g.bl _ k) (b a) (g.gl o) (g.gl i) rfl (bB l)
 t:=Gx
 tok:=by intro m c X E g b x f h;cases h
end RI
namespace L3
open PyProof.Rows L2
section
variable {X:Cx}
noncomputable def Sd (i:Int):Value->Bool
 |.int a _=>a == i|_=>false
end
end L3
namespace RI
open PyProof.Rows L2 L3
noncomputable def GF:Expr->Option (Const×Nat×Pos)
 |.Constant v k p=>some (v,k,p)|_=>none
theorem CO {e:Expr}{v:Const}{k:Nat}{p:Pos}(h:GF e=some (v,k,p)):e = .Constant v k p:=by
 cases e with
 |Constant=>cases h;rfl|_=>exact nn h
noncomputable def M6:Expr->Option (acz×Expr×Scope×Pos)
 |.Lambda a b s p=>some (a,b,s,p)|_=>none
theorem M7 {e b:Expr}{a:acz}{s:Scope}{p:Pos}(h:M6 e=some (a,b,s,p)):e = .Lambda a b s p:=by
 cases e with
 |Lambda=>cases h;rfl|_=>exact nn h
noncomputable def PD:Expr->Bool
 |e=>(M6 e).isSome
theorem wx {b:Type}[DecidableEq b]{x y:Option b}(h:(x.isSome&&decide (x=y))=true):∃z,x=some z/\y=some z:=by simp only[Zr,decide_eq_true_eq]at h;obtain⟨z,a⟩:=acU.mp h.1;exact⟨z,a,h.2 ▸ a⟩
noncomputable def Ap (f:Expr->Expr->Bool):List Expr->List Expr->Bool
 | [],bs=>bs.isEmpty|a::as,bs=>(bs.head?.map λb=>f a b&&Ap f as bs.tail).getD false
theorem Jg {f:Expr->Expr->Bool}(h:∀a b,f a b=true->a=b):∀{as bs:List Expr},Ap f as bs=true->as=bs:=fun {as}=>by
 induction as with
 |nil=>intro bs q;cases bs with
  |nil=>rfl|cons=>cases q
 |cons a as ih=>intro bs q;cases bs with
  |nil=>cases q
  |cons b bs =>
   have q:(f a b&&Ap f as bs)=true:=q;rw[Zr]at q;rw[h a b q.1,ih q.2]
noncomputable def yu:Nat->Expr->Expr->Bool
 | 0,_,_=>false
 |n+1,a,b=>((yj a).isSome&&decide (yj a=yj b))||((GF a).isSome&&decide (GF a=GF b)) ||
  ((Gk a).bind λx=>(Gk b).map λy=>yu n x.1 y.1&&yu n x.2.1 y.2.1&&decide (x.2.2=y.2.2)).getD false ||
  ((Cf a).bind λx=>(Cf b).map λy=>yu n x.1 y.1&&Ap (yu n) x.2.1 y.2.1&&decide (x.2.2=y.2.2)).getD false
theorem gD {b a:Type}{x:Option b}{y:Option a}{f:b->a->Bool}(h:(x.bind λu=>y.map λv=>f u v).getD false=true):∃u v,x=some u/\y=some v/\f u v=true:=by
 cases x with
 |none=>cases h
 |some u=>cases y with
  |none=>cases h|some v=>exact⟨u,v,rfl,rfl,h⟩
theorem M8:∀(n:Nat) (a b:Expr),yu n a b=true->a=b:=λn=>by
 induction n with
 |zero=>intro a b h;cases h
 |succ n ih =>
  intro a b h;rcases adU.mp h with h|h
  . rcases adU.mp h with h|h
    . rcases adU.mp h with h|h
      . obtain⟨z,e,c⟩:=wx h
        exact(ql e).trans (ql c).symm
      . obtain⟨z,e,c⟩:=wx h
        exact(CO e).trans (CO c).symm
    . obtain⟨⟨i,f,l⟩,⟨k,j,o⟩,e,c,h⟩:=gD h
      simp only[Zr,decide_eq_true_eq]at h;rw[wc e,wc c,ih _ _ h.1.1,ih _ _ h.1.2,h.2]
  . obtain⟨⟨i,f,l⟩,⟨k,j,o⟩,e,c,h⟩:=gD h
    simp only[Zr,decide_eq_true_eq]at h;rw[qm e,qm c,ih _ _ h.1.1,Jg ih h.1.2,h.2]
noncomputable def GG:List Arg->Option (List (Str×Pos))
 | []=>some []|a::as=>if a.annotation.isSome then none else(GG as).map ((a.arg,a.pos):: ·)
theorem M9:∀{as:List Arg} {l:List (Str×Pos)},GG as=some l->as=l.map λq=>⟨q.1,none,q.2⟩:=fun {as}=>by
 induction as with
 |nil=>intro l h;cases h;rfl
 |cons a as ih =>
  intro l h;obtain⟨x,an,p⟩:=a;cases an with
  |some=>exact nn h
  |none =>
   obtain⟨c,b,rfl⟩:=Zv.mp (show(GG as).map ((x,p):: ·)=some l from h)
   rw[ih b];rfl
noncomputable def CP (a:acz):Option (List (Str×Pos)):=if a.posonlyargs.isEmpty&&a.vararg.isNone&&a.kwonlyargs.isEmpty&&a.kw_defaults.isEmpty&&a.kwarg.isNone&&a.defaults.isEmpty then GG a.args else none
theorem CQ {a:acz}{l:List (Str×Pos)}(h:CP a=some l):a=⟨[],l.map λq=>⟨q.1,none,q.2⟩,none,[],[],none,[]⟩:=by
 obtain⟨p,as,v,k,b,kw,d⟩:=a;unfold CP at h;split at h
 . rename_i z
   simp only[Zr,adt,Option.isNone_iff_eq_none]at z;obtain⟨⟨⟨⟨⟨rfl,rfl⟩,rfl⟩,rfl⟩,rfl⟩,rfl⟩:=z;rw[<- M9 h]
 . cases h
noncomputable def M_ (a b:acz):Bool:=(CP a).isSome&&decide (CP a=CP b)
theorem Jh {a b:acz}(h:M_ a b=true):a=b:=by obtain⟨z,c,e⟩:=wx h;exact(CQ c).trans (CQ e).symm
noncomputable def Aq (N:List Str):List Str->Option (List Nat)
 | []=>some []|y::ys=>(jP N y).bind λi=>(Aq N ys).map (i :: ·)
theorem yw {N:List Str}:∀{ys:List Str} {is:List Nat},Aq N ys=some is->Cc N is ys
 | [],is,h=>by cases h;exact⟨rfl,λj i y a _=>by simp at a⟩
 |y::ys,is,h=>by
  unfold Aq at h;obtain⟨i,e,h⟩:=bind_some h;obtain⟨q,k,rfl⟩:=Zv.mp h;obtain⟨o,l⟩:=yw k;refine⟨by simp[o],λj f c a b=>?_⟩;cases j with
  |zero=>simp at a b;subst a b;exact fM e|succ j=>exact l j f c (by simpa using a) (by simpa using b)
noncomputable def aL (E:Expr->FE)(q:Pos×Str×dR)(is:List Nat):List Expr->Option FA
 | []=>some ag
 |e::es=>match M6 e with
  |some (ar,bd,sc,p)=>if decide (p=q.1)&&M_ ar q.2.2.ar&&yu 9 bd q.2.2.bd&&decide (sc=q.2.2.sc)then(aL E q is es).map (aa (lR q.2.1 is))else none|none=>if isStar e then none else(aL E q is es).map (aa (E e))
theorem Ar {X:Cx}{E:Expr->FE}(u:∀e,DE X e (E e)){p:Pos}{x:Str}{l:dR}(L:uq X p x l){is:List Nat}(y:Cc X.N is l.fv):∀{es:List Expr} {f:FA},aL E (p,x,l) is es=some f->vX X es f
 | [],f,h=>by cases h;exact IL
 |e::es,f,h=>by
  rw[aL]at h;split at h
  . rename_i s bd sc q r
    obtain rfl:=M7 r;split at h
    . rename_i z
      simp only[Zr,decide_eq_true_eq]at z;obtain⟨⟨⟨i,j⟩,c⟩,b⟩:=z;obtain⟨k,a,rfl⟩:=Zv.mp h;subst i;have:=Jh j;subst this;have:=M8 _ _ _ c;subst this;subst b;exact IM L y (Ar u L y a)
    . cases h
  . split at h
    . cases h
    . rename_i o
      obtain⟨k,a,rfl⟩:=Zv.mp h;exact EA (u _) (Ar u L y a) (bB (by simpa using o))
noncomputable def Uz:qo where
 e:=λm c E _ x=>(cV x).bind λy=>if iw y.1||y.2.any isStar || !(y.2.any PD) || !c.all || !(decide (c.sc.names.lookup y.1=some .globalImplicit))then none else c.lam.bind λq=>(m.fns.lookup y.1).bind λj=>(Aq c.N q.2.2.fv).bind λis=>(aL E q is y.2).map λfr=>ao (gy (m.T j.1)) fr
 Ci:=by
  intro m c X E g s rf x f h;obtain⟨⟨y,as⟩,u,k⟩:=bind_some h;obtain⟨p,pos,rfl⟩:=Gm u;dsimp only at k;split at k
  . cases k
  . rename_i r
    simp only[aac,not_or,abz,Z8,aes,decide_eq_true_eq]at r;obtain⟨⟨⟨⟨h1,o⟩,h3⟩,h4⟩,h5⟩:=r;obtain⟨⟨p',x',l⟩,hq,z⟩:=bind_some k;obtain⟨⟨i,n⟩,hf,k2⟩:=bind_some z;obtain⟨is,hi,k3⟩:=bind_some k2;obtain⟨fr,jE,rfl⟩:=Zv.mp k3;obtain⟨o1,o2,_⟩:=nh h1;cases as with
    |nil=>cases h3
    |cons a as =>
     rw[aaA,aao]at o;obtain⟨fa,fd,ps,ok,hm,kp,b,ln⟩:=g.fn y i n (lookup_mem hf);have F_:Cc X.N is l.fv:=by rw[g.hN];exact yw hi
     exact EB ok g.rm hm kp b ln (g.al h4) (Ar s (g.lh _ _ _ hq) F_ jE) (g.gl h5) o1 (bB o.1) (gL o.2)
 t:=Gx
 tok:=by intro m c X E g s x f h;cases h
noncomputable def Na:Nat->Expr->Option Expr
 |_,.Lambda a b s p=>some (.Lambda a b s p)|n+1,.Call _ as _ _=>as.findSome? (Na n)|_,_=>none
noncomputable def yx:Nat->Stmt->Option Expr
 |n+1,.FunctionDef _ _ b _ _ _ _ _ _ _=>b.findSome? (yx n)|n+1,.If _ b o _=>(b.findSome? (yx n)).or (o.findSome? (yx n))|n+1,.For _ _ b _ _=>b.findSome? (yx n)|n,.Assign _ v _=>Na n v|n,.Return (some v) _=>Na n v|_,_=>none
noncomputable def As (nm:Str)(c:Stmt):dR:=match yx 9 c with
 |some (.Lambda a b s _)=>⟨a,b,s,nm ++ ".<locals>." ++ "<lambda>",lP s,a.args.map (·.arg)⟩|_=>⟨⟨[],[],none,[],[],none,[]⟩,.Constant .none 0 ⟨0,0,0,0⟩,⟨.function,[],false,false,[]⟩,"",[],[]⟩
noncomputable def Nb (a:Stmt):Pos:=match yx 9 a with
 |some (.Lambda _ _ _ p)=>p|_=>⟨0,0,0,0⟩
end RI
namespace K24
open PyProof.Rows L2 L3 RI
noncomputable def top (i:Nat):Stmt:=PySem.Challenge.pw_wholeglance_k24_whole_quiet_boxes.main.body.getD i (.Pass ⟨0,0,0,0⟩)
noncomputable def md (nm:Str)(ps e:List Str)(i:Nat)(b:Bool:=false)(c:List Str:=[])(f:Bool:=false)(a:Str:=nm):bX:=⟨nm,ps,ps++e,top i,b,c,f,a,none,none⟩
noncomputable def mm (nm:Str)(ps c:List Str)(i:Nat)(x:Str)(a:Str:=nm)(b:List Str:=[]):bX:=⟨nm,ps,ps++c,top i,false,b,false,a,none,some (Nb (top i),x)⟩
noncomputable def ml (nm x:Str)(i:Nat):bX:=⟨"<lambda>",(As nm (top i)).fv++(As nm (top i)).ps,[],top i,false,[],false,x,some (As nm (top i)),none⟩
noncomputable def UA:=md "number_of" ["manner","name"] [] 2
noncomputable def UB:=md "hands_of" ["manner"] [] 3
noncomputable def UC:=md "places_of" ["manner"] [] 4
noncomputable def UD:=md "collect_boxes" ["manner"] ["word"] 6
noncomputable def UE:=md "last_round" ["stride","span","moves","reads","moved_in"] ["seen","start","moved","hand","often"] 8 false ["seen","*seen"]
noncomputable def UG:=md "numbered_look" ["manner","reads"] ["hands","ending","used","last"] 13
noncomputable def UH:=md "moves_of" ["manner"] [] 14
noncomputable def UI:=md "renumbered" ["reads"] ["hands"] 15
noncomputable def UJ:=md "others_of" ["manner","hand"] [] 20
noncomputable def UK:=md "shaken_by" ["manner","hand"] [] 21
noncomputable def PF:=md "shake_step" ["sources","targets","answer","reads"] ["place"] 22
noncomputable def PH:=mm "shared_look" ["manner","hand","reads"] ["span","ending","used"] 25 "shared_look.lambda"
noncomputable def PJ:=mm "round_step" ["manner","hand","reads"] ["calls","signs","collected"] 26 "round_step_shared.lambda" "round_step_shared"
noncomputable def PK:=md "second_collect" ["manner","hand","reads"] ["behind"] 28
noncomputable def PL:=md "moved_in" ["manner","hand","reads"] ["shaken","opening","calls","moved","first","second","others","before","behind"] 29 false ["moved"] false "moved_in_shared"
noncomputable def PM:=md "is_rewritten" ["manner","before","behind"] [] 31
noncomputable def PN:=mm "signs_look" ["manner","hand","reads"] ["hands","span","ending","used","second"] 34 "signs_look.lambda"
noncomputable def PQ:=mm "round_step" ["manner","hand","reads"] ["others","sources","targets"] 35 "round_step_signs.lambda" "round_step_signs"
noncomputable def PR:=md "moved_in" ["manner","hand","reads"] ["hands","first","second","moved","place","other","sign"] 37 false ["moved"] false "moved_in_signs"
noncomputable def PU:=md "next_step" ["manner","hand","deed","ahead","reads"] [] 45
noncomputable def PV:=md "look_step" ["manner","hand","reads"] ["word"] 46
noncomputable def PX:=md "once_look" ["manner","reads"] ["boxes"] 48
noncomputable def PY:=md "_law_hand" ["_law_script","_law_k"] ["_law_cell"] 50 true
noncomputable def PZ:=md "_law_take" ["_law_hand_here","_law_many"] ["_law_digit","_law_turn","_law_mixed","_law_other"] 51 false ["_law_hand_here"]
noncomputable def P0:=md "_law_pick" ["_law_hand_here","_law_some"] [] 52
noncomputable def P1:=md "_law_value" ["_law_hand_here"] ["_law_way"] 53
noncomputable def P2:=md "_law_any_manner" ["_law_hand_here","_law_ways"] ["_law_word","_law_hands","_law_moves","_law_bits","_law_turn"] 54
noncomputable def P4:=md "_law_places" ["_law_manner"] [] 55
noncomputable def P5:=md "_law_state" ["_law_hand_here","_law_many"] [] 56
noncomputable def P6:=md "_law_content" ["_law_hand_here","_law_manner","_law_box"] ["_law_hands","_law_places_here","_law_calls"] 57
noncomputable def P7:=md "_law_boxes" ["_law_hand_here","_law_manner"] ["_law_hands","_law_names","_law_i"] 58 true
noncomputable def P8:=md "_law_ahead" ["_law_hand_here","_law_many"] [] 59
noncomputable def P9:=md "_law_long" ["_law_manner"] ["_law_hands"] 60
noncomputable def P_:=md "law" ["_law_script"] ["_law_n","_law_hand_here","_law_manner","_law_own","_law_places_here","_law_ahead_here","_law_boxes_here","_law_name","_law_contents","_law_values","_law_reads","_law_step","_law_found"] 61 false ["_law_boxes_here"]
noncomputable def Qa:=ml "shared_look" "shared_look.lambda" 25
noncomputable def Qb:=ml "round_step" "round_step_shared.lambda" 26
noncomputable def Qc:=ml "signs_look" "signs_look.lambda" 34
noncomputable def Qd:=ml "round_step" "round_step_signs.lambda" 35
noncomputable def ds:List bX:=[UA,UB,UC,UD,UE,UG,UH,UI,UJ,UK,PF,PH,PJ,PK,PL,PM,PN,PQ,PR,PU,PV,PX,PY,PZ,P0,P1,P2,P4,P5,P6,P7,P8,P9,P_,Qa,Qb,Qc,Qd]
noncomputable def ky:List (Str×D):=[("once",.tup [.str "hands"]),("twice",.tup [.str "hands",.str "turn"]),("handed",.tup [.str "hands",.str "turn",.str "moves"]),("signs",.tup [.str "hands",.str "toggles",.str "shakes",.str "moves"]),("shared",.tup [.str "hands",.str "places",.str "toggles",.str "shakes",.str "moves"]),("tables",.tup [.str "hands",.str "boxes"])]
noncomputable def pk:Pk:=⟨[Uo,Pw,Up,Uq,GD],[GD],[EK,Px],[I_,MN,Py],[Uz,Pz,M5,MZ]⟩
noncomputable def mo:Mo:=⟨ds,["len","min","int","tuple","sorted","dict","set","range","enumerate","zip"],[],[("NUMBERS",ky)],pk,1000000⟩
end K24
namespace L3
open PyProof.Rows L2 RI
section
variable {σ:Sg}{g:G}{fa fb fo fi:FE}{fr:FA}
@[simp] theorem VN {xs:List D}{d:D}:av (.tup xs) d g=d9 (.tup xs) d g:=rfl
@[simp] theorem VO {xs:List D}{d:D}:av (.lst xs) d g=d9 (.lst xs) d g:=rfl
@[simp] theorem VP {n:Nat}{d:D}:av (.ref n) d g=d9 (.ref n) d g:=rfl
@[simp] theorem VQ {n:Nat}{d:D}:av (.aX n) d g=(g[n]?).bind λxs=>if aU 6 d=true then(bh xs d).map λd=>(d,g)else none:=rfl
@[simp] theorem UL {n:Nat}{i v:D}:kq (.ref n) i v g=putD (.ref n) i v g:=rfl
@[simp] theorem UM {n:Nat}{i v:D}:kq (.aX n) i v g=(g[n]?).bind λxs=>if(aU 6 i&&oD xs)=true then some (g.set n (bA xs i v))else none:=rfl
@[simp] theorem VR {v:D}:iq fo fi v σ g=(fo σ g).bind λr=>(fi σ r.2).bind λq=>(kq r.1 q.1 v q.2).map λg'=>(σ,g'):=rfl
@[simp] theorem VS {a:D->Bool}{m:D->List D->G->Option (D×G)}:iu a m fo fr σ g=(fo σ g).bind λr=>if a r.1=true then(fr σ r.2).bind λq=>m r.1 q.1 q.2 else none:=rfl
@[simp] theorem UN:pZ σ g=some (.aX g.length,g ++ [[]]):=rfl
@[simp] theorem VT {n:Nat}:iI (.aX n)=true:=rfl
@[simp] theorem VU {n:Nat}:isRef (.ref n)=true:=rfl
@[simp] theorem YA {n:Nat}{k:D}:i0 (.aX n) [k] g=(g[n]?).bind λxs=>if aU 6 k=true then some ((bh xs k).getD .ay,g)else none:=rfl
@[simp] theorem YB {n:Nat}{k x:D}:i0 (.aX n) [k,x] g=(g[n]?).bind λxs=>if aU 6 k=true then some ((bh xs k).getD x,g)else none:=rfl
@[simp] theorem YC {n:Nat}{x:D}:iy (.ref n) [x] g=(g[n]?).bind λxs=>if aA (xs.length+1)=true then some (.ay,g.set n (xs ++ [x]))else none:=rfl
@[simp] theorem VV {n:Nat}{i:Int}:aU n (.int i)=true:=by cases n<;>rfl
@[simp] theorem VW {n:Nat}{d:D}:oC d (.aX n) g=(g[n]?).bind λxs=>if aU 6 d=true then some (bh xs d).isSome else none:=rfl
@[simp] theorem VX {d e:D}:lM d e g=(oC d e g).map λb=>(.bl b,g):=rfl
@[simp] theorem Qe {d e:D}:rC d e g=(oC d e g).map λb=>(.bl (!b),g):=rfl
end
end L3
namespace Pd
open L3 L2
noncomputable def uC:FS:=ax (aF (fC (.int 0)) (gN 2)) (ax (bP (aD (ak oLt (af 1) (ao bz (aa (af 0) (ag))))) (aF (ak av (af 0) (af 1)) (gN 2)) (aQ)) (aI (aJ mkRef (aa (ak bJ (af 2) (ao mY (aa (ak F3 (af 2) (ak (bU jg (λi j=>i ^ j.toNat)) (fC (.int 10)) (fC (.int 18)))) (ag)))) (aa (ak aT (ak aT (ak (bU dj (· % ·)) (af 2) (fC (.int 2305843009213693951))) (ak bJ (fC (.int 7919)) (af 1))) (fC (.int 3))) (aa (fC (.int 0)) (ag)))))))
noncomputable def uD:FS:=ax (bP (aD (ak BM (ak av (af 0) (fC (.int 0))) (fC (.int 0)))) (ax (aF (ak (bU dj (· % ·)) (ak av (af 0) (fC (.int 0))) (af 1)) (gN 2)) (ax (aF (ak (bU dF (· / ·)) (ak av (af 0) (fC (.int 0))) (af 1)) (iq (af 0) (fC (.int 0)))) (aI (af 2)))) (aQ)) (ax (aF (ak aT (ak av (af 0) (fC (.int 2))) (fC (.int 1))) (iq (af 0) (fC (.int 2)))) (ax (aF (ak av (af 0) (fC (.int 2))) (gN 3)) (ax (aF (ak (bU dj (· % ·)) (ak bJ (ak av (af 0) (fC (.int 1))) (ak aT (ak aT (fC (.int 48271)) (ak bJ (ak bJ (fC (.int 2)) (af 3)) (af 3))) (ak bJ (fC (.int 65537)) (af 3)))) (fC (.int 2305843009213693921))) (gN 4)) (ax (aF (ak aT (ak aT (ak (bU dj (· % ·)) (af 4) (fC (.int 1000003))) (ak bJ (af 3) (fC (.int 99991)))) (fC (.int 11))) (gN 5)) (ax (aF (ak (bU dj (· % ·)) (ak bJ (af 4) (af 5)) (fC (.int 2305843009213693907))) (gN 4)) (aI (ak (bU dj (· % ·)) (ak aT (ak (bU dF (· / ·)) (af 4) (fC (.int 97))) (ak (bU dF (· / ·)) (af 4) (fC (.int 1000033)))) (af 1))))))))
noncomputable def Au (take:Fn):FS:=aI (ak av (af 1) (ao take (aa (af 0) (aa (ao bz (aa (af 1) (ag))) (ag)))))
mutual
noncomputable def nf:D->Bool
 |.fn _ _=>false|.tup xs=>Se xs|_=>true
noncomputable def Se:List D->Bool
 | []=>true|d::ds=>nf d&&Se ds
end
theorem iz {i j:Int}(b:-(2 ^ 64)<i)(a:i<2 ^ 64):b_ i j=true:=by unfold b_;rw[aac];exact .inl (abA (by omega))
theorem iA {i j:Int}(b:-(2 ^ 64)<j)(a:j<2 ^ 64):b_ i j=true:=by unfold b_;rw[aac];exact .inr (abA (by omega))
theorem iB {i j:Int}(b:0<j)(a:j<1073741824):dF i j=true:=by unfold dF;rw[Zr];exact⟨abA (by omega),abA (by omega)⟩
theorem fO {i j:Int}(a:0<j):dj i j=true:=abA (by omega)
def Hd (g:G)(n:Nat)(B:Int):Prop:=∃a b c:Int,g[n]? = some [.int a,.int b,.int c]/\0<=a/\0<=b/\b<2 ^ 62/\0<=c/\c<=B
theorem Hd.mono {g n B B'}(h:Hd g n B)(e:B<=B'):Hd g n B':=let⟨a,b,c,h1,h2,h3,h4,h5,h6⟩:=h;⟨a,b,c,h1,h2,h3,h4,h5,by omega⟩
theorem Hd.lt {g n B}(h:Hd g n B):n<g.length:=let⟨_,_,_,h1,_⟩:=h;(Zq.mp h1).1
def Fr (n:Nat)(g g':G):Prop:=g'.length=g.length /\ ∀j,j≠n->g'[j]? = g[j]?
theorem Fr.refl {n g}:Fr n g g:=⟨rfl,λ_ _=>rfl⟩
theorem Fr.trans {n g g1 g2}(a:Fr n g g1)(b:Fr n g1 g2):Fr n g g2:=⟨b.1.trans a.1,λj h=>(b.2 j h).trans (a.2 j h)⟩
theorem Fr.set {n:Nat}{g:G}{xs:List D}:Fr n g (g.set n xs):=⟨by simp,λj h=>by rw[abm (abi h)]⟩
theorem tI {a b c:D}:cA [a,b,c] 0=some a:=rfl
theorem GB {a b c:D}:cA [a,b,c] 1=some b:=rfl
theorem at2 {a b c:D}:cA [a,b,c] 2=some c:=rfl
theorem UO {g:G}{n:Nat}{a b c v:D}(h:g[n]? = some [a,b,c]):putD (.ref n) (.int 0) v g=some (g.set n [v,b,c]):=by unfold putD;simp only[h];rfl
theorem put2 {g:G}{n:Nat}{a b c v:D}(h:g[n]? = some [a,b,c]):putD (.ref n) (.int 2) v g=some (g.set n [a,b,v]):=by unfold putD;simp only[h];rfl
def eJ (f:Fn):Prop:=∀(n:Nat) (m:Int) (g:G) (B:Int),B<2 ^ 40->0<m->m<1073741824->Hd g n B ->
 ∃r g',f [.ref n,.int m] g=some (.int r,g')/\0<=r/\r<m/\Hd g' n (B+1)/\Fr n g g'
theorem Ji:eJ (aq false 6 2 uD):=λn m g B hB hm pI h=>by
 obtain⟨a,b,c,e,l,o,j,u,yy⟩:=h;have i:n<g.length:=(Zq.mp e).1;by_cases h0:0<a
 . refine⟨a % m,g.set n [.int (a / m),.int b,.int c],aM (σ':=[some (.ref n),some (.int m),some (.int (a % m)),none,none,none]) rfl ?_ (by simp),adO _ (by omega),ac0 _ hm,⟨a / m,b,c,by simp[i],Int.ediv_nonneg l (by omega),o,j,u,by omega⟩,Fr.set⟩
   simp[uD,e,tI,h0,fO hm,iB hm pI,UO e]
 . have k:(g.set n [.int a,.int b,.int (c+1)])[n]? = some [.int a,.int b,.int (c+1)]:=by simp[i]
   generalize f:b*(48271+2*(c+1)*(c+1)+65537*(c+1)) % 2305843009213693921=x;have Y9:0<=x:=by rw[<- f];exact adO _ (by decide)
   have Y_:x<2305843009213693921:=by rw[<- f];exact ac0 _ (by decide)
   generalize hy:x*(x % 1000003+(c+1)*99991+11) % 2305843009213693907=y;refine⟨(y / 97+y / 1000033) % m,g.set n [.int a,.int b,.int (c+1)],aM (σ':=[some (.ref n),some (.int m),none,some (.int (c+1)),some (.int y),some (.int (x % 1000003+(c+1)*99991+11))]) rfl ?_ (by simp),adO _ (by omega),ac0 _ hm,⟨a,b,c+1,k,l,o,j,by omega,by omega⟩,Fr.set⟩;have z:b_ 2 (c+1)=true:=iz (by decide) (by decide);have r:b_ (2*(c+1)) (c+1)=true:=iA (by omega) (by omega);have m3:b_ 65537 (c+1)=true:=iz (by decide) (by decide);have m4:b_ b (48271+2*(c+1)*(c+1)+65537*(c+1))=true:=iz (by omega) (by omega);have m5:b_ (c+1) 99991=true:=iA (by decide) (by decide);have m6:b_ x (x % 1000003+(c+1)*99991+11)=true:=iz (by omega) (by omega);have d1:dj (b*(48271+2*(c+1)*(c+1)+65537*(c+1))) 2305843009213693921=true:=fO (by decide);have d2:dj x 1000003=true:=fO (by decide);have d3:dj (x*(x % 1000003+(c+1)*99991+11)) 2305843009213693907=true:=fO (by decide);have s:dj (y / 97+y / 1000033) m=true:=fO hm;have q1:dF y 97=true:=iB (by decide) (by decide);have q:dF y 1000033=true:=iB (by decide) (by decide);simp[uD,e,tI,GB,at2,h0,put2 e,k,z,r,m3,m4,m5,m6,d1,d2,d3,s,q1,q,f,hy]
theorem eJ.w {f:Fn}(h:eJ f){n:Nat}{m:Int}{g:G}{B:Int}{Q:D×G->Prop}(k:B<2 ^ 40)(l:0<m)(j:m<1073741824)(hh:Hd g n B)(q:∀r g',0<=r->r<m->Hd g' n (B+1)->Fr n g g'->Q (.int r,g')):wp (f [.ref n,.int m] g) Q:=by obtain⟨r,g',e,c,b,i,a⟩:=h n m g B k l j hh;exact⟨_,e,q r g' c b i a⟩
def iV (f:Fn):Prop:=∀(n:Nat) (xs:List D) (g:G) (B:Int),B<2 ^ 40->xs ≠ []->xs.length<1000->Hd g n B ->
 ∃d g',f [.ref n,.lst xs] g=some (d,g')/\d∈xs/\Hd g' n (B+1)/\Fr n g g'
theorem Jj {t:Fn}(u:eJ t):iV (aq false 2 2 (Au t)):=λn xs g B j o q h=>by
 have s:0<xs.length:=adT.mpr o;obtain⟨r,c,e,k,i,f,b⟩:=u n (xs.length:Int) g B j (by omega) (by omega) h;have a:r.toNat<xs.length:=by omega
 have l:cA xs r=some xs[r.toNat]:=by unfold cA kC;rw[if_pos k,if_pos i];exact Zn a
 refine⟨xs[r.toNat],c,aM (σ':=[some (.ref n),some (.lst xs)]) rfl ?_ b.1,Z6 a,f,b⟩;simp[Au,e,l]
theorem iV.w {f:Fn}(h:iV f){n:Nat}{xs:List D}{g:G}{B:Int}{Q:D×G->Prop}(i:B<2 ^ 40)(k:xs ≠ [])(j:xs.length<1000)(hh:Hd g n B)(q:∀d g',d∈xs->Hd g' n (B+1)->Fr n g g'->Q (d,g')):wp (f [.ref n,.lst xs] g) Q:=by obtain⟨d,g',e,b,c,a⟩:=h n xs g B i k j hh;exact⟨_,e,q d g' b c a⟩
theorem Si:jg 10 18=true:=by decide
theorem Sj:jg 10 12=true:=by decide
def ny (f:Fn):Prop:=∀(ns:List Int) (i:Nat) (g:G),i<=100->∃xs,f [.lst (ns.map .int),.int i] g=some (.ref g.length,g ++ [xs])/\Hd (g ++ [xs]) g.length 0
section
variable {σ σ1:Sg}{g g1:G}{f:FE}{f1 f2:FS}{c:FT}{d:D}
theorem dE (h:f1 σ g=some (.nx,σ1,g1)):ax f1 f2 σ g=f2 σ1 g1:=by rw[qZ,h];rfl
theorem nz (h:f1 σ g=some (.rt d,σ1,g1)):ax f1 f2 σ g=some (.rt d,σ1,g1):=by rw[qZ,h];rfl
theorem hG {i:Nat}(h:f σ g=some (d,g1)):aF f (gN i) σ g=some (.nx,σ.set i (some d),g1):=by rw[nL,h];rfl
theorem oZ (h:c σ g=some (true,g1)):bP c f1 f2 σ g=f1 σ g1:=by rw[vB,h];rfl
theorem dh (h:c σ g=some (false,g1)):bP c f1 f2 σ g=f2 σ g1:=by rw[vB,h];rfl
theorem cF (h:f σ g=some (d,g1)):aI f σ g=some (.rt d,σ,g1):=by rw[xV,h];rfl
end
theorem aO {n:Nat}(h:n<=1000):aA n=true:=by rw[Ih];exact decide_eq_true (by omega)
theorem Jk:ny (aq true 3 2 uC):=λns i g l=>by
 have fin:∀cell:Int,∃xs,(aI (aJ mkRef (aa (ak bJ (af 2) (ao mY (aa (ak F3 (af 2) (ak (bU jg (λi j=>i ^ j.toNat)) (fC (.int 10)) (fC (.int 18)))) (ag)))) (aa (ak aT (ak aT (ak (bU dj (· % ·)) (af 2) (fC (.int 2305843009213693951))) (ak bJ (fC (.int 7919)) (af 1))) (fC (.int 3))) (aa (fC (.int 0)) (ag)))))) [some (.lst (ns.map .int)),some (.int i),some (.int cell)] g=some (.rt (.ref g.length),[some (.lst (ns.map .int)),some (.int i),some (.int cell)],g ++ [xs])/\Hd (g ++ [xs]) g.length 0:=by
   intro cell;have o:0<=cell % 2305843009213693951:=adO _ (by decide);have q:cell % 2305843009213693951<2305843009213693951:=ac0 _ (by decide);have c:dj cell 2305843009213693951=true:=fO (by decide);have f:b_ 7919 (i:Int)=true:=iz (by decide) (by decide);by_cases hc:1000000000000000000<=cell
   . have a:b_ cell 1=true:=iA (by decide) (by decide)
     refine⟨[.int cell,.int (cell % 2305843009213693951+7919*i+3),.int 0],by simp[Si,hc,a,f,c],?_⟩;exact⟨cell,cell % 2305843009213693951+7919*i+3,0,by simp,by omega,by omega,by omega,by omega,by omega⟩
   . have a:b_ cell 0=true:=iA (by decide) (by decide)
     refine⟨[.int 0,.int (cell % 2305843009213693951+7919*i+3),.int 0],by simp[Si,hc,a,f,c],?_⟩;exact⟨0,cell % 2305843009213693951+7919*i+3,0,by simp,by omega,by omega,by omega,by omega,by omega⟩
 by_cases h:i<ns.length
 . obtain⟨xs,e,b⟩:=fin ns[i]
   refine⟨xs,xX (σ':=[some (.lst (ns.map .int)),some (.int i),some (.int ns[i])]) rfl ?_,b⟩;unfold uC;refine(dE (hG (d:=.int 0) (g1:=g) rfl)).trans ?_;refine(dE (σ1:=[some (.lst (ns.map .int)),some (.int i),some (.int ns[i])]) (g1:=g) ((oZ (g1:=g) ?_).trans (hG ?_))).trans e
   . have:(i:Int)<(ns.length:Int):=by omega
     simp[this]
   . have k:cA (ns.map D.int) (i:Int)=some (.int ns[i]):=gF (by simp[h])
     simp[k]
 . obtain⟨xs,e,b⟩:=fin 0
   refine⟨xs,xX (σ':=[some (.lst (ns.map .int)),some (.int i),some (.int 0)]) rfl ?_,b⟩;unfold uC;refine(dE (hG (d:=.int 0) (g1:=g) rfl)).trans ?_;refine(dE (σ1:=[some (.lst (ns.map .int)),some (.int i),some (.int 0)]) (g1:=g) ((dh (g1:=g) ?_).trans rfl)).trans e;have:¬(i:Int)<(ns.length:Int):=by omega
   simp[this]
theorem ny.w {f:Fn}(h:ny f){ns:List Int}{i:Nat}{g:G}{Q:D×G->Prop}(b:i<=100)(q:∀xs,Hd (g ++ [xs]) g.length 0->Q (.ref g.length,g ++ [xs])):wp (f [.lst (ns.map .int),.int i] g) Q:=by obtain⟨xs,e,a⟩:=h ns i g b;exact⟨_,e,q xs a⟩
noncomputable def eS (i:Int)(n:Nat):List D:=(ZN n).map λ(k:Nat)=>D.int (i+k)
theorem dq {i n}:(eS i n).length=n:=by simp[eS]
theorem j_ {fr:FA}{σ:Sg}{g:G}{Q:List D×G->Prop}(h:wp (fr σ g) λr=>∃j:Int,r.1 = [.int j] /\ -1000000<=j/\j<=1000000/\Q (eS 0 j.toNat,r.2)):wp (gI fr σ g) Q:=by obtain⟨⟨ds,c⟩,e,j,rfl,b,a,q⟩:=h;refine⟨_,?_,q⟩;unfold gI;rw[e];simp only[Zt];rw[if_pos (fz.of b a)];rfl
theorem Jl {i:Int}{n j:Nat}{d:D}(h:(eS i n)[j]? = some d):j<n/\d = .int (i+j):=by
 unfold eS at h;rw[ZE]at h;cases hj:(ZN n)[j]? with
 |none=>rw[hj]at h;cases h
 |some x =>
  rw[hj]at h;have a:=(Zq.mp hj).1;have:x=j:=by rw[abN (by simpa using a)]at hj;cases hj;rfl
  subst this;cases h;exact⟨by simpa using a,rfl⟩
theorem fP {n j:Nat}{d:D}(h:(eS 0 n)[j]? = some d):j<n/\d = .int j:=by obtain⟨a,rfl⟩:=Jl h;exact⟨a,by simp⟩
theorem Nc {mk:List D->G->Option (D×G)}{i:FI}{fr:List (Option Nat)}{t:FG}{c:FT}{e:FE}{σ:Sg}{g:G}{Q:D×G->Prop}(h:wp (i σ g) λr=>aA r.1.length=true/\wp (cy t c e r.1 (bM fr σ) r.2) λq=>wp (mk q.1 q.2) Q):wp (bq mk i fr t c e σ g) Q:=by obtain⟨⟨ds,f⟩,b,a,q⟩:=h;rw[eA,b];simp only[Zt];rw[if_pos a,wp_bind];exact q
theorem gM {n:Nat}:∀{xs:List D},(∀x∈xs,bQ n x=true)->aN n xs=true
 | [],_=>rfl|x::xs,h=>by simp only[aN,Zr];exact⟨h x (by simp),gM λy a=>h y (by simp[a])⟩
theorem wy {n:Nat}:∀{xs:List D},aN n xs=true->∀x∈xs,bQ n x=true
 | [],_,x,hx=>by simp at hx
 |y::xs,h,x,hx=>by
  simp only[aN,Zr]at h;rcases Zx.mp hx with rfl|hx
  . exact h.1
  . exact wy h.2 x hx
theorem kW {xs:List D}{n:Nat}{d:D}(h:xs[n]? = some d):cA xs (n:Int)=some d:=by
 have c:=(Zq.mp h).1;have b:(0:Int)<=n:=by omega
 have a:(n:Int)<(xs.length:Int):=by omega
 unfold cA kC;rw[if_pos b,if_pos a];simpa using h
theorem Qf {a b:D}:cA [a,b] 0=some a:=rfl
theorem Av {a b:D}:cA [a,b] 1=some b:=rfl
theorem ints_map:∀vs:List Int,fA (vs.map .int)=some vs
 | []=>rfl|v::vs=>by simp[fA,ints_map vs]
end Pd
namespace Wd
open L3 L2 RI
open Pd
noncomputable def qu (pick:Fn):FS:=aI (ao fG (aa (bq bw (gI (aa (af 1) ag)) [none,none,some 0] (gN 1) bF (ao pick (aa (af 2) (aa (aJ gv (aa (fC (.int 0)) (aa (fC (.int 1)) (aa (fC (.int 2)) (aa (fC (.int 3)) (aa (fC (.int 8)) (aa (fC (.int 9)) (aa (fC (.int 11)) ag)))))))) ag)))) ag))
noncomputable def uE (take pick:Fn):FS:=ax (aF (ao take (aa (af 0) (aa (fC (.int 8)) ag))) (gN 1)) (ax (bP (aD (ak oEq (af 1) (fC (.int 0)))) (aI (aJ az (aa (ao take (aa (af 0) (aa (fC (.int 5)) ag))) (aa (aJ az (aa (ak (bU di (· - ·)) (ao take (aa (af 0) (aa (fC (.int 3)) ag))) (fC (.int 1))) (aa (aJ az ag) ag))) ag)))) aQ) (ax (bP (aD (ak oEq (af 1) (fC (.int 1)))) (aI (ao pick (aa (af 0) (aa (aJ gv (aa (pM lG (fC (.int 1))) (aa (ak (bU di (· - ·)) (ak (bU jg (λi j=>i ^ j.toNat)) (fC (.int 10)) (fC (.int 12))) (fC (.int 1))) (aa (ak (bU di (· - ·)) (fC (.int 1)) (ak (bU jg (λi j=>i ^ j.toNat)) (fC (.int 10)) (fC (.int 12)))) (aa (aJ az ag) (aa (aJ az (aa (fC (.int 0)) ag)) ag)))))) ag)))) aQ) (aI (ao take (aa (af 0) (aa (fC (.int 7)) ag))))))
noncomputable def W0 (h b:Nat)(l:Int)(s r:Nat):List D:=[.str "hand",.ref h,.str "boxes",.aX b,.str "left",.int l,.str "steps",.ref s,.str "reads",.ref r]
noncomputable def gk:List D->Bool
 |k::_::r=>aU 6 k&&gk r| []=>true|_=>false
theorem ke {k v:D}(c:aU 6 k=true):∀{xs:List D},gk xs=true->bh (bA xs k v) k=some v
 | [],_=>by simp only[bA,bh];rw[if_pos ((DK.fJ k k c c).mpr rfl)]| [_],h=>by cases h
 |a::b::r,h=>by
  simp only[gk,Zr]at h;simp only[bA];by_cases e:aH a k=true
  . rw[if_pos e];simp only[bh];rw[if_pos e]
  . rw[if_neg e];simp only[bh];rw[if_neg e];exact ke c h.2
theorem kX {k i v:D}(j:aU 6 k=true)(l:aU 6 i=true)(n:k≠i):∀{xs:List D},gk xs=true->bh (bA xs k v) i=bh xs i
 | [],_=>by simp only[bA,bh];rw[if_neg λz=>n ((DK.fJ k i j l).mp z)]| [_],h=>by cases h
 |a::b::r,h=>by
  simp only[gk,Zr]at h;simp only[bA];by_cases e:aH a k=true
  . have f:=(DK.fJ a k h.1 j).mp e
    subst f;have c:¬aH a i=true:=λz=>n ((DK.fJ a i j l).mp z);rw[if_pos e];simp only[bh];rw[if_neg c,if_neg c]
  . rw[if_neg e]
    simp only[bh];rw[kX j l n h.2]
theorem lY {k v:D}(c:aU 6 k=true):∀{xs:List D},gk xs=true->gk (bA xs k v)=true
 | [],_=>by simp[bA,gk,c]| [_],h=>by cases h
 |a::b::r,h=>by
  simp only[gk,Zr]at h;simp only[bA];split
  . simp[gk,h]
  . simp[gk,h,lY c h.2]
theorem jS {n:Nat}{k v:D}(e:bQ n k=true)(c:bQ n v=true):∀{xs:List D},aN n xs=true->aN n (bA xs k v)=true
 | [],_=>by simp[bA,aN,e,c]| [_],_=>by simp[bA,aN,e,c]
 |a::b::r,h=>by
  simp only[aN,Zr]at h;simp only[bA];split
  . simp[aN,h,c]
  . simp[aN,h,jS e c h.2.2]
mutual
theorem dG {n:Nat}:∀d:D,flat d=true->bQ n d=true
 |.ay,_=>rfl|.bl _,_=>rfl|.int _,_=>rfl|.str _,_=>rfl|.tup xs,h=>by simp only[bQ];exact d_ xs (by simpa[flat]using h)|.lst xs,h=>by simp only[bQ];exact d_ xs (by simpa[flat]using h)|.dZ,h=>by simp[flat]at h|.ref _,h=>by simp[flat]at h|.aX _,h=>by simp[flat]at h|.fn _ _,h=>by simp[flat]at h
theorem d_ {n:Nat}:∀ds:List D,bt ds=true->aN n ds=true
 | [],_=>rfl|d::ds,h=>by simp only[bt,Zr]at h;simp only[aN,dG d h.1,d_ ds h.2,ael]
end
noncomputable def own (nm:Str)(j:Nat):D:=.tup [.str nm,.int j]
noncomputable def yz (nm:Str)(n:Nat):List D:=(ZN n).map λj=>.tup [.str "read",own nm j]
theorem rP {nm n}:(yz nm n).length=n:=by simp[yz]
def Bd (g:G):Prop:=∀(i:Nat) xs,g[i]? = some xs->aN g.length xs=true
theorem o_ {n m:Nat}(h:n<=m):∀{xs:List D},aN n xs=true->aN m xs=true:=by
 have main:∀d:D,bQ n d=true->bQ m d=true:=λd=>by
  refine D.rec (motive_1:=λd=>bQ n d=true->bQ m d=true) (motive_2:=λds=>aN n ds=true->aN m ds=true) ?_ ?_ ?_ ?_ ?_ ?_ ?_ ?_ ?_ ?_ ?_ ?_ d
  . intro h;rfl
  . intro b h;rfl
  . intro b h;rfl
  . intro b h;rfl
  . intro xs ih h;simpa[bQ]using ih (by simpa[bQ]using h)
  . intro xs ih h;simpa[bQ]using ih (by simpa[bQ]using h)
  . intro h;rfl
  . intro k h;simp only[bQ,decide_eq_true_eq]at h ⊢;omega
  . intro k h;simp only[bQ,decide_eq_true_eq]at h ⊢;omega
  . intro x xs ih h;simpa[bQ]using ih (by simpa[bQ]using h)
  . intro h;rfl
  . intro x xs c a h
    simp only[aN,Zr]at h ⊢;exact⟨c h.1,a h.2⟩
 intro xs h;exact gM λx e=>main x (wy h x e)
theorem XS {i j:Nat}{x y:D}{σ:Sg}{g:G}:gT 2 (cu (gN i) (cu (gN j) gw)) (.tup [x,y]) σ g=some ((σ.set i (some x)).set j (some y),g):=by simp
def vG (d:D):Prop:=flat d=true/\dep d<=3
def nA (f:Fn):Prop:=∀n g B,B+3<2 ^ 40->Hd g n B->∃d g',f [.ref n] g=some (d,g')/\vG d/\Hd g' n (B+3)/\Fr n g g'
theorem Jm {take pick:Fn}(A:eJ take)(C:iV pick):nA (aq false 2 1 (uE take pick)):=λn g B z hd=>by
 have key:wp (aq false 2 1 (uE take pick) [.ref n] g) λq=>vG q.1/\Hd q.2 n (B+3)/\Fr n g q.2:=by
  refine wp_run rfl ?_;simp[uE];refine A.w (by omega) (by decide) (by decide) hd λr g1 h b c f1=>?_;simp;by_cases h0:r=0
  . subst h0
    simp;refine A.w (by omega) (by decide) (by decide) c λy g2 h b hd2 f2=>?_;simp;refine A.w (by omega) (by decide) (by decide) hd2 λr3 g3 h b x i=>?_;have l:aA 2=true:=rfl;have f:aA 0=true:=rfl;simp[l,f];exact⟨(f1.trans (f2.trans i)).1,⟨by simp[flat,bt],by simp[dep,da]⟩,x.mono (by omega),f1.trans (f2.trans i)⟩
  . by_cases a:r=1
    . subst a
      have s:aA 5=true:=rfl;have f:aA 0=true:=rfl;have j:aA 1=true:=rfl;simp[s,f,j,Sj];refine C.w (by omega) (by simp) (by simp) c λd g2 hm hd2 f2=>?_;refine⟨(f1.trans f2).1,?_,hd2.mono (by omega),f1.trans f2⟩;simp only[Zx,aaF,or_false]at hm;rcases hm with rfl|rfl|rfl|rfl|rfl<;>exact⟨by simp[flat,bt],by simp[dep,da]⟩
    . simp[h0,a]
      refine A.w (by omega) (by decide) (by decide) c λy g2 h b hd2 f2=>?_;exact⟨(f1.trans f2).1,⟨by simp[flat],by simp[dep]⟩,hd2.mono (by omega),f1.trans f2⟩
 obtain⟨⟨d,u⟩,e,a,k,o⟩:=key;exact⟨d,u,e,a,k,o⟩
def rQ (f:Fn):Prop:=∀n (k:Nat) g (B:Int),k<=20->B+k<2 ^ 40->Hd g n B->∃(is:List Nat) (g':G),f [.ref n,.int k] g=some (.tup (is.map λ(i:Nat)=>D.int i),g')/\is.length=k/\Hd g' n (B+k)/\Fr n g g'
theorem EN {pick:Fn}(A:iV pick):rQ (aq false 2 2 (qu pick)):=λn k g B z y hd=>by
 have key:wp (aq false 2 2 (qu pick) [.ref n,.int k] g) λq=>∃is:List Nat,q.1 = .tup (is.map λ(i:Nat)=>D.int i)/\is.length=k/\Hd q.2 n (B+k)/\Fr n g q.2:=by
  refine wp_run rfl ?_;simp[qu];refine j_ ?_;have l:aA k=true:=aO (by omega);simp[dq,l];refine⟨by omega,?_⟩;refine ip (λj acc σ b=>(∃h,σ = [none,h,some (.ref n)])/\(∃is:List Nat,acc=is.map (λ(i:Nat)=>D.int i)/\is.length=j)/\Hd b n (B+j)/\Fr n g b) _ 0 _ _ [] ⟨⟨none,rfl⟩,⟨[],by simp,rfl⟩,by simpa using hd,.refl⟩ ?_ ?_
  . rintro j d acc σ b u ⟨⟨h,rfl⟩,⟨is,rfl,a⟩,c,f⟩
    obtain⟨Sk,rfl⟩:=fP u;have x:aA 7=true:=rfl;simp[x];refine A.w (by omega) (by simp) (by simp) c λd g2 hm hd2 f2=>?_;have:∃k:Nat,d = .int k:=by
     simp only[Zx,aaF,or_false]at hm;rcases hm with rfl|rfl|rfl|rfl|rfl|rfl|rfl
     . exact⟨0,rfl⟩
     . exact⟨1,rfl⟩
     . exact⟨2,rfl⟩
     . exact⟨3,rfl⟩
     . exact⟨8,rfl⟩
     . exact⟨9,rfl⟩
     . exact⟨11,rfl⟩
    obtain⟨i,rfl⟩:=this;simp at a;exact⟨⟨is ++ [i],by simp,by simp[a]⟩,hd2.mono (by omega),f.trans f2⟩
  . rintro xs σ b ⟨_,⟨is,e,a⟩,c,f⟩
    simp[dq]at e a c;subst e;simp[bw,a,l];exact⟨f.1,is,rfl,a,c,f⟩
 obtain⟨⟨d,b⟩,e,is,rfl,s,o,r⟩:=key;exact⟨is,b,e,s,o,r⟩
theorem Sd {a b:Int}:aH (.int a) (.int b)=decide (a=b):=by simp only[aH];rw[Bool.eq_iff_iff];simp
theorem Bd.app {g ys:G}(h:Bd g)(a:∀y∈ys,aN (g.length+ys.length) y=true):Bd (g++ys):=λi xs e=>by
 rw[ZH];by_cases hi:i<g.length
 . rw[ZI hi]at e
   exact o_ (abR _ _) (h i xs e)
 . rw[ZX (by omega)]at e
   exact a xs (ZP e)
theorem Bd.set {g:G}{n:Nat}{y:List D}(h:Bd g)(b:aN g.length y=true):Bd (g.set n y):=λi xs e=>by
 rw[aeW];by_cases hi:i=n
 . subst hi
   have a:i<g.length:=by have:=(Zq.mp e).1;simpa using this
   rw[Z0 a]at e;cases e;exact b
 . rw[abm (abi hi)]at e
   exact h i xs e
theorem CS {g:G}{h m:Nat}{B:Int}{xs:List D}(i:Hd g h B)(e:g[h]? = some xs):aN m xs=true:=by obtain⟨a,b,c,f,_⟩:=i;rw[f]at e;cases e;simp[aN,bQ]
theorem Bd.fr {g g':G}{h:Nat}{B:Int}(b:Bd g)(f:Fr h g g')(a:Hd g' h B):Bd g':=λi xs e=>by
 by_cases hi:i=h
 . subst hi;exact CS a e
 . rw[f.1];rw[f.2 i hi]at e;exact b i xs e
theorem Bd.hand {g:G}{xs:List D}{B:Int}(b:Bd g)(c:Hd (g ++ [xs]) g.length B):Bd (g ++ [xs]):=b.app λy a=>by simp at a;subst a;exact CS c (by simp)
end Wd
namespace Wd
open L3 L2 RI Pd
noncomputable def nB:FS:=ax (aF (ak (bU dF (· / ·)) (ao bz (aa (af 0) ag)) (fC (.int 2))) (gN 1)) (aI (bq bw (gI (aa (af 1) ag)) [none,none,some 1,some 0] (gN 1) (aD (ak dD (ak av (ak av (af 3) (af 1)) (fC (.int 1))) (ak av (ak av (af 3) (ak aT (af 2) (af 1))) (fC (.int 1))))) (af 1)))
noncomputable def iW:FT:=aD (ak oLe (ak aT (af 6) (af 1)) (ao bz (aa (af 3) ag)))
noncomputable def EO (R:Str->Option Fn):FS:=oW 6 (λi j=>i+j) (af 0)
noncomputable def pb (R:Str->Option Fn):FS:=ax (bP (aD (ak BM (ao bz (aa (af 9) ag)) (fC (.int 0)))) (aI (aJ az (aa (af 6) (aa (ao ((ji km gZ)) (aa (af 9) ag)) ag)))) aQ) (EO R)
noncomputable def Nd (R:Str->Option Fn):FS:=ax (aF (bq bw (bW (af 7)) [none,none,some 2,some 5] (gN 1) (aD (ak oEq (ak av (af 3) (af 1)) (af 2))) (af 1)) (gN 9)) (pb R)
noncomputable def Nf (R:Str->Option Fn):FS:=ax (fg (bW (af 7)) (gN 8) (aF (ak aT (iu iI i0 (af 5) (aa (af 8) (aa (fC (.int 0)) ag))) (fC (.int 1))) (iq (af 5) (af 8)))) (Nd R)
noncomputable def ER (R:Str->Option Fn):FS:=ax (bP (aD (ak oEq (ao bz (aa (af 7) ag)) (fC (.int 0)))) (aI (aJ az (aa (af 6) (aa (fC .ay) ag)))) aQ) (Nf R)
noncomputable def fq (R:Str->Option Fn):FS:=ax (aF (eI R 4 (aa (cR (af 3) (aY (af 6)) (aY (ak aT (af 6) (af 1)))) ag)) (gN 7)) (ER R)
noncomputable def cI (R:Str->Option Fn):FS:=ax (aF pZ (gN 5)) (ax (aF (fC (.int 0)) (gN 6)) (ax (BA 1000000 (aD (ak oLe (ak aT (af 6) (af 1)) (ao bz (aa (af 3) ag)))) (ax (aF (eI R 4 (aa (cR (af 3) (aY (af 6)) (aY (ak aT (af 6) (af 1)))) ag)) (gN 7)) (ax (bP (aD (ak oEq (ao bz (aa (af 7) ag)) (fC (.int 0)))) (aI (aJ az (aa (af 6) (aa (fC .ay) ag)))) aQ) (ax (fg (bW (af 7)) (gN 8) (aF (ak aT (iu iI i0 (af 5) (aa (af 8) (aa (fC (.int 0)) ag))) (fC (.int 1))) (iq (af 5) (af 8)))) (ax (aF (bq bw (bW (af 7)) [none,none,some 2,some 5] (gN 1) (aD (ak oEq (ak av (af 3) (af 1)) (af 2))) (af 1)) (gN 9)) (ax (bP (aD (ak BM (ao bz (aa (af 9) ag)) (fC (.int 0)))) (aI (aJ az (aa (af 6) (aa (ao ((ji km gZ)) (aa (af 9) ag)) ag)))) aQ) (oW 6 (λi j=>i+j) (af 0)))))))) (aI (fC .ay))))
noncomputable def num:D->Int
 |.tup (_ :: .int m::_)=>m|_=>0
def mC (c:D):Prop:=∃v m r,c = .tup (v :: .int m::r)
noncomputable def CT (a b:List D)(j:Nat):Bool:=!(num (a.getD j .ay)== num (b.getD j .ay))
noncomputable def bD (a b:List D):List Nat:=(ZN a.length).filter (CT a b)
noncomputable def dN (l:List Nat):List D:=l.map λ(j:Nat)=>D.int j
theorem Ng {a b:List D}{j:Nat}(h:j∈bD a b):j<a.length:=by simp only[bD,aa5,aap]at h;exact h.1
theorem Nh {a b:List D}:(bD a b).Nodup:=adq.sublist abO
theorem bY {l}:(dN l).length=l.length:=by simp[dN]
theorem UP {v d:D}{r:List D}:cA (v::d::r) 1=some d:=kW (n:=1) rfl
def lZ (f:Fn):Prop:=∀(a b:List D) (g:G),a.length=b.length->a.length<=20->(∀c∈a,mC c)->(∀c∈b,mC c)->f [.tup (a++b)] g=some (.lst (dN (bD a b)),g)
theorem pd:lZ (aq false 2 1 nB):=λa b g hl hn z hb=>by
 have key:wp (aq false 2 1 nB [.tup (a++b)] g) λq=>q=(.lst (dN (bD a b)),g):=by
  refine wp_run rfl ?_;have y:(((a.length:Int)+(b.length:Int)) / 2)=(a.length:Int):=by omega
  have zn:aA a.length=true:=aO (by omega);have hd:∀i,dF i 2=true:=λi=>iB (by decide) (by decide);simp[nB,hd,y];refine j_ ?_;simp[dq,zn];refine⟨by omega,?_⟩;refine ip (λi acc σ f=>(∃o,σ = [none,o,some (.int a.length),some (.tup (a++b))])/\acc=dN ((ZN i).filter (CT a b))/\f=g) _ 0 _ _ [] ⟨⟨none,rfl⟩,rfl,rfl⟩ ?_ ?_
  . rintro i d acc σ f x ⟨⟨o,rfl⟩,rfl,rfl⟩
    obtain⟨c,rfl⟩:=fP x;simp only[aa3];have u:(a++b)[i]? = some a[i]:=by rw[ZI c];exact Zn c
    have k:(a++b)[a.length+i]? = some b[i]:=by rw[ZX (by omega)];simp[Zn (show i<b.length by omega)]
    obtain⟨v,m,r,l⟩:=z a[i] (Z6 c);obtain⟨v',m',r',s⟩:=hb b[i] (Z6 (by omega));rw[l]at u;rw[s]at k;have q1:=kW u;have j:=kW k;simp only[Int.natCast_add]at j;have f1:num (a.getD i .ay)=m:=by rw[ZQ,Zn c,l];rfl
    have f2:num (b.getD i .ay)=m':=by rw[ZQ,Zn (show i<b.length by omega),s];rfl
    have h:CT a b i = !(m == m'):=by unfold CT;rw[f1,f2]
    simp[q1,j,UP,flat,dep,Sd,List.range_succ,af4,dN,h];by_cases hm:m=m'
    . simp[hm,h]
    . simp[hm,h]
  . rintro xs σ f ⟨_,e,rfl⟩
    simp[dq]at e;subst e;simp[bD]
 obtain⟨q,e,rfl⟩:=key;exact e
noncomputable def cnt (cs:List (List D)):Nat->Nat->Nat
 | 0,_=>0|k+1,j=>cnt cs k j+if j∈bD (cs.getD k []) (cs.getD (k+1) [])then 1 else 0
structure SD (sd:List D)(f:Nat->Nat)(N:Nat):Prop where
 ka:gk sd=true
 at_:∀j:Nat,bh sd (.int j)=if f j=0 then none else some (.int (f j))
 len:sd.length<=N
 nr:aN 0 sd=true
theorem SD.put {l f N}(h:SD l f N)(j:Nat):SD (bA l (.int j) (.int (f j+1:Nat))) (λi=>f i+if i=j then 1 else 0) (N+2):=by
 refine⟨lY rfl h.ka,λi=>?_,?_,jS rfl rfl h.nr⟩
 . by_cases e:i=j
   . subst e
     rw[ke rfl h.ka];simp
   . rw[kX rfl rfl (λz=>e (by injection z with z;omega)) h.ka,h.at_]
     simp[e]
 . have:∀(xs:List D) k v,(bA xs k v).length<=xs.length+2:=λxs k v=>by
     have:∀(n:Nat) (xs:List D),xs.length<=n->(bA xs k v).length<=xs.length+2:=λn=>by
      induction n with
      |zero=>intro xs c;match xs,c with| [],_=>simp[bA]
      |succ n ih =>
       intro xs c;match xs,c with
       | [],_=>simp[bA]| [a],_=>simp[bA]
       |a::b::r,c =>
        simp only[bA];split
        . simp
        . have:=ih r (by simp at c;omega)
          simp;omega
     exact this _ xs (Zu _)
   have:=this l (.int j) (.int (f j+1:Nat));have:=h.len;omega
noncomputable def cZ (n:Nat)(mv:D)(rd:List D)(nm:Str)(q:Nat)(start:Nat)(o7 o8 o9:Option D):Sg:=[some (.int n),some (.int (2*n:Nat)),some mv,some (.tup rd),some (.fn nm []),some (.aX q),some (.int start),o7,o8,o9]
noncomputable def cP (f:Nat->Nat)(l:List Nat):Nat->Nat:=λi=>f i+if i∈l then 1 else 0
noncomputable def fQ (f:Nat->Nat)(mv:D)(l:List Nat):List Nat:=l.filter λj=>aH (.int (f j:Nat)) mv
theorem kY {rd:List D}{s m:Nat}(h:s+m<=rd.length):cutD rd (some (s:Int)) (some ((s+m:Nat):Int))=(rd.drop s).take m:=by unfold cutD;rw[jJ (by omega),vC h,show s+m-s=m by omega]
theorem yB {q:Nat}{σ:Sg}{g:G}{l:List Nat}{x:List D}{f:Nat->Nat}{N:Nat}(A:g[q]? = some x)(S:SD x f N)(nd:l.Nodup)(B:N+2*l.length<=900)(C:σ[5]? = some (some (.aX q)))(y:σ.length=10):
  ∃sd' o8,forL (gN 8) (aF (ak aT (iu iI i0 (af 5) (aa (af 8) (aa (fC (.int 0)) ag))) (fC (.int 1))) (iq (af 5) (af 8))) (dN l) σ g=some (.nx,σ.set 8 o8,g.set q sd')/\SD sd' (cP f l) (N+2*l.length)/\(l = []->σ.set 8 o8=σ):=by
 induction l generalizing σ g x f N with
 |nil =>
  refine⟨x,σ[8]'(by omega),?_,⟨S.ka,λj=>by simp[cP,S.at_],S.len,S.nr⟩,λ_=>by simp⟩;simp only[dN,afU,forL];rw[aat];obtain⟨c,e⟩:=Zq.mp A;rw[<- e,aat]
 |cons j l ih =>
  rw[aaU]at nd;simp only[aaz]at B;have c:=(Zq.mp A).1;have s:=S.put j;have o:(bh x (.int j)).getD (.int 0)= .int (f j:Nat):=by
    rw[S.at_ j];by_cases e:f j=0
    . simp[e]
    . simp[e]
  have r:oD x=true:=by unfold oD;exact aO (by have:=S.len;omega)
  have b:(σ.set 8 (some (.int j)))[5]? = some (some (.aX q)):=by rw[abm (by decide)];exact C
  have k:(σ.set 8 (some (D.int j)))[8]? = some (some (.int j)):=Z0 (by omega);have u:aF (ak aT (iu iI i0 (af 5) (aa (af 8) (aa (fC (.int 0)) ag))) (fC (.int 1))) (iq (af 5) (af 8)) (σ.set 8 (some (.int j))) g=some (.nx,σ.set 8 (some (.int j)),g.set q (bA x (.int j) (.int (f j+1:Nat)))):=by simp[b,k,A,o,r]
  obtain⟨sd',o8,h,a,_⟩:=ih (σ:=σ.set 8 (some (.int j))) (g:=g.set q (bA x (.int j) (.int (f j+1:Nat)))) (Z0 c) s nd.2 (by omega) b (by simp[y]);refine⟨sd',o8,?_,?_,λz=>by cases z⟩
  . simp only[dN,aaE,forL]at h ⊢
    rw[show gN 8 (D.int j) σ g=some (σ.set 8 (some (.int j)),g) from rfl];simp only[Zt,u];rw[h,abV,abV]
  . refine⟨a.ka,λi=>?_,by have:=a.len;simp only[aaz];omega,a.nr⟩
    rw[a.at_ i];have:cP (λi=>f i+if i=j then 1 else 0) l i=cP f (j::l) i:=by
      unfold cP;by_cases e:i=j
      . subst e;simp[nd.1]
      . simp[e]
    rw[this]
theorem pe {q:Nat}{g:G}{c:List D}{f:Nat->Nat}{mv:D}(k:g[q]? = some c)(o:flat mv=true):∀(l:List Nat),(∀j∈l,bh c (.int j)=some (.int (f j:Nat)))->∀o1,cy (gN 1) (aD (ak oEq (ak av (af 3) (af 1)) (af 2))) (af 1) (dN l) [none,o1,some mv,some (.aX q)] g=some (dN (fQ f mv l),g)
 | [],_,_=>rfl
 |j::l,h,o1=>by
  have ih:=pe (f:=f) k o l (λi a=>h i (by simp[a])) (some (.int j));have b:=h j (by simp);have e:oEq (.int (f j:Nat)) mv g=some (.bl (aH (.int (f j:Nat)) mv),g):=by simp[oEq,flat,o,dep]
  simp only[dN,aaE]at ih ⊢;simp only[cy];simp[k,b,e];by_cases hc:aH (.int (f j:Nat)) mv=true
  . simp[hc,ih,fQ,dN]
  . simp[hc,ih,fQ,dN]
section
variable {R:Str->Option Fn}{fn:Fn}{nm:Str}{n q start N:Nat}{mv:D}{rd a b sd:List D}{f:Nat->Nat}{g:G}{o7 o8 o9:Option D}
structure yC (R:Str->Option Fn)(fn:Fn)(nm:Str)(n q start N:Nat)(mv:D)(rd a b sd:List D)(f:Nat->Nat)(g:G):Prop where
 hR:R nm=some fn
 hf:lZ fn
 hw:(rd.drop start).take (2*n)=a++b
 ha:a.length=n
 hb:b.length=n
 ca:∀c∈a,mC c
 cb:∀c∈b,mC c
 n1:1<=n
 CU:n<=20
 hs:start+2*n<=rd.length
 hq:g[q]? = some sd
 S:SD sd f N
 hN:N+2*n<=900
 fm:flat mv=true
theorem wz (H:yC R fn nm n q start N mv rd a b sd f g):(aF (eI R 4 (aa (cR (af 3) (aY (af 6)) (aY (ak aT (af 6) (af 1)))) ag)) (gN 7)) (cZ n mv rd nm q start o7 o8 o9) g=some (.nx,cZ n mv rd nm q start (some (.lst (dN (bD a b)))) o8 o9,g):=by
 have e:=H.hf a b g (by rw[H.ha,H.hb]) (by rw[H.ha];exact H.CU) H.ca H.cb;have c:=kY (rd:=rd) (s:=start) (m:=2*n) H.hs;rw[H.hw]at c;have i:eI R 4 (aa (cR (af 3) (aY (af 6)) (aY (ak aT (af 6) (af 1)))) ag) (cZ n mv rd nm q start o7 o8 o9) g=some (.lst (dN (bD a b)),g):=by
  rw[CG (y:=nm) (fn:=fn) rfl H.hR];have h:(start:Int)+((2*n:Nat):Int)=((start+2*n:Nat):Int):=by simp
  simp[cZ];simp only[agO]at h c;simp[fj];have j:cutD rd (some (start:Int)) (some ((start:Int)+2*(n:Int)))=a++b:=by rw[<- c];simp
  rw[j];exact e
 rw[nL,i];rfl
theorem Jn (H:yC R fn nm n q start N mv rd a b sd f g)(e:bD a b = []):∃σ',fq R (cZ n mv rd nm q start o7 o8 o9) g=some (.rt (.tup [.int start,.ay]),σ',g):=by have c:aA 2=true:=rfl;refine⟨cZ n mv rd nm q start (some (.lst (dN (bD a b)))) o8 o9,?_⟩;unfold fq;rw[dE (wz H)];unfold ER;simp[cZ,e,dN,c]
theorem CV (H:yC R fn nm n q start N mv rd a b sd f g)(A:bD a b ≠ []):∃sd' p8,fq R (cZ n mv rd nm q start o7 o8 o9) g=pb R (cZ n mv rd nm q start (some (.lst (dN (bD a b)))) p8 (some (.lst (dN (fQ (cP f (bD a b)) mv (bD a b)))))) (g.set q sd')/\SD sd' (cP f (bD a b)) (N+2*n):=by
 have hl:(bD a b).length<=n:=by have:(bD a b).length<=(ZN a.length).length:=abj _ _;rw[agl,H.ha]at this;exact this
 obtain⟨sd',p8,k,c,_⟩:=yB (l:=bD a b) (σ:=cZ n mv rd nm q start (some (.lst (dN (bD a b)))) o8 o9) H.hq H.S Nh (by have:=H.hN;omega) rfl rfl;have h:SD sd' (cP f (bD a b)) (N+2*n):=⟨c.ka,c.at_,by have:=c.len;omega,c.nr⟩
 have y:(g.set q sd')[q]? = some sd':=Z0 (Zq.mp H.hq).1;have x:=pe (f:=cP f (bD a b)) y H.fm (bD a b) (λj hj=>by rw[h.at_ j,if_neg];simp[cP,hj]) none
 refine⟨sd',p8,?_,h⟩;have u:¬(((bD a b).length:Int)=0):=λz=>A (abL.mp (by omega));have zl:aA (bD a b).length=true:=aO (by have:=H.CU;omega);unfold fq;rw[dE (wz H)];unfold ER;have o:(bP (aD (ak oEq (ao bz (aa (af 7) ag)) (fC (.int 0)))) (aI (aJ az (aa (af 6) (aa (fC .ay) ag)))) aQ) (cZ n mv rd nm q start (some (.lst (dN (bD a b)))) o8 o9) g=some (.nx,cZ n mv rd nm q start (some (.lst (dN (bD a b)))) o8 o9,g):=by simp[cZ,bY,u,A]
 rw[dE o];unfold Nf;have s:(fg (bW (af 7)) (gN 8) (aF (ak aT (iu iI i0 (af 5) (aa (af 8) (aa (fC (.int 0)) ag))) (fC (.int 1))) (iq (af 5) (af 8)))) (cZ n mv rd nm q start (some (.lst (dN (bD a b)))) o8 o9) g=some (.nx,cZ n mv rd nm q start (some (.lst (dN (bD a b)))) p8 o9,g.set q sd'):=by have e:bW (af 7) (cZ n mv rd nm q start (some (.lst (dN (bD a b)))) o8 o9) g=some (dN (bD a b),g):=rfl;show((bW (af 7) (cZ n mv rd nm q start (some (.lst (dN (bD a b)))) o8 o9) g).bind λr=>forL _ _ r.1 _ r.2)=_;rw[e,Zt,k];rfl
 rw[dE s];unfold Nd;have i:(aF (bq bw (bW (af 7)) [none,none,some 2,some 5] (gN 1) (aD (ak oEq (ak av (af 3) (af 1)) (af 2))) (af 1)) (gN 9)) (cZ n mv rd nm q start (some (.lst (dN (bD a b)))) p8 o9) (g.set q sd')=some (.nx,cZ n mv rd nm q start (some (.lst (dN (bD a b)))) p8 (some (.lst (dN (fQ (cP f (bD a b)) mv (bD a b))))),g.set q sd'):=by refine hG ?_;have e:bW (af 7) (cZ n mv rd nm q start (some (.lst (dN (bD a b)))) p8 o9) (g.set q sd')=some (dN (bD a b),g.set q sd'):=rfl;simp only[eA,e,Zt,bY,zl,if_true];show((cy (gN 1) _ _ (dN (bD a b)) [none,none,some mv,some (.aX q)] (g.set q sd')).bind _)=_;rw[x];rfl
 rw[dE i]
end
section
variable {R:Str->Option Fn}{fn:Fn}{nm:Str}{n q start N:Nat}{mv:D}{rd a b sd:List D}{f:Nat->Nat}{g:G}{o7 o8 o9:Option D}
theorem GH (H:yC R fn nm n q start N mv rd a b sd f g)(h:bD a b ≠ [])(c:fQ (cP f (bD a b)) mv (bD a b)= []):∃sd' p7 p8 p9,fq R (cZ n mv rd nm q start o7 o8 o9) g=some (.nx,cZ n mv rd nm q (start+n) p7 p8 p9,g.set q sd')/\SD sd' (cP f (bD a b)) (N+2*n):=by obtain⟨sd',p8,e,S⟩:=CV (o7:=o7) (o8:=o8) (o9:=o9) H h;refine⟨sd',some (.lst (dN (bD a b))),p8,some (.lst (dN [])),?_,S⟩;rw[e,c];unfold pb EO;simp[cZ,dN]
theorem CW {l:List Nat}{i:Nat}{g:G}(h:i∈l)(k:∀j∈l,i<=j):ji km gZ [.lst (dN l)] g=some (.int i,g):=by
 have e:fA (dN l)=some (l.map λ(j:Nat)=>(j:Int)):=by have:=ints_map (l.map λ(j:Nat)=>(j:Int));rw[abx]at this;exact this
 have m:(l.map λ(j:Nat)=>(j:Int)).min? = some (i:Int):=by rw[afn];refine⟨ZK.mpr ⟨i,h,rfl⟩,λb c=>?_⟩;obtain⟨j,a,rfl⟩:=ZK.mp c;have:=k j a;omega
 show gZ [.lst (dN l)] g=_;simp[jh,e,m]
theorem Ni (H:yC R fn nm n q start N mv rd a b sd f g)(r:bD a b ≠ []){k:Nat}(l:k∈fQ (cP f (bD a b)) mv (bD a b))(o:∀j∈fQ (cP f (bD a b)) mv (bD a b),k<=j):∃sd' σ',fq R (cZ n mv rd nm q start o7 o8 o9) g=some (.rt (.tup [.int start,.int k]),σ',g.set q sd'):=by obtain⟨sd',c,e,S⟩:=CV (o7:=o7) (o8:=o8) (o9:=o9) H r;refine⟨sd',cZ n mv rd nm q start (some (.lst (dN (bD a b)))) c (some (.lst (dN (fQ (cP f (bD a b)) mv (bD a b))))),?_⟩;rw[e];have hm:=CW (g:=g.set q sd') l o;have h:0<(fQ (cP f (bD a b)) mv (bD a b)).length:=afc l;have i:aA 2=true:=rfl;unfold pb;simp[cZ,bY,h,hm,i]
end
theorem iX {n:Nat}{rest:List D}:∀{cs:List (List D)} {k:Nat},(∀c∈cs,c.length=n)->k<=cs.length->(cs.flatten++rest).drop (k*n)=(cs.drop k).flatten++rest
 |cs,0,_,_=>by simp| [],k+1,_,h=>by simp at h|c::cs,k+1,hl,h=>by have b:c.length=n:=hl c (by simp);have ih:=iX (rest:=rest) (cs:=cs) (k:=k) (λx a=>hl x (by simp[a])) (by simpa using h);rw[aaj,Z3,show(k+1)*n=c.length+k*n by rw[aau,b];omega,List.drop_length_add_append,ih];simp
theorem gC {n:Nat}:∀{cs:List (List D)},(∀c∈cs,c.length=n)->cs.flatten.length=cs.length*n
 | [],_=>by simp|c::cs,h=>by rw[aaj,ZH,gC λx a=>h x (by simp[a]),h c (by simp),aaz,aau];omega
theorem ES {n k:Nat}{rest:List D}{cs:List (List D)}(f:∀c∈cs,c.length=n)(h:k+1<cs.length):((cs.flatten++rest).drop (k*n)).take (2*n)=cs.getD k []++cs.getD (k+1) []:=by
 rw[iX f (by omega)];have e:cs.drop k=cs.getD k []::cs.getD (k+1) []::cs.drop (k+2):=by rw[aak (by omega),aak (by omega)];simp[ZQ,Zn h,Zn (show k<cs.length by omega)]
 have b:(cs.getD k []).length=n:=by rw[ZQ,Zn (show k<cs.length by omega)];exact f _ (Z6 _)
 have a:(cs.getD (k+1) []).length=n:=by rw[ZQ,Zn h];exact f _ (Z6 _)
 rw[e,aaj,aaj,<- Z3,Z3,abK (by rw[ZH,b,a];omega),aal (by rw[ZH,b,a];omega)]
theorem kZ {cs:List (List D)}{k:Nat}:cP (cnt cs k) (bD (cs.getD k []) (cs.getD (k+1) []))=cnt cs (k+1):=rfl
def Goes (mv:D)(cs:List (List D))(i:Nat):Prop:=bD (cs.getD i []) (cs.getD (i+1) []) ≠ []/\fQ (cnt cs (i+1)) mv (bD (cs.getD i []) (cs.getD (i+1) []))= []
noncomputable def wA (mv:D)(cs:List (List D))(i:Nat):Option Nat->Prop
 |none=>bD (cs.getD i []) (cs.getD (i+1) [])= []|some j=>bD (cs.getD i []) (cs.getD (i+1) []) ≠ []/\j∈fQ (cnt cs (i+1)) mv (bD (cs.getD i []) (cs.getD (i+1) [])) /\ ∀k∈fQ (cnt cs (i+1)) mv (bD (cs.getD i []) (cs.getD (i+1) [])),j<=k
noncomputable def eD:Option Nat->D
 |none=>.ay|some j=>.int j
structure k5 (n:Nat)(cs:List (List D)):Prop where
 len:∀c∈cs,c.length=n
 all:∀c∈cs,∀x∈c,mC x
 n1:1<=n
 CU:n<=20
 oF:cs.length*n<=400
theorem k5.getD {n cs k}(h:k5 n cs)(a:k<cs.length):(cs.getD k []).length=n /\ ∀x∈cs.getD k [],mC x:=by rw[ZQ,Zn a];exact⟨h.len _ (Z6 _),h.all _ (Z6 _)⟩
section
variable {R:Str->Option Fn}{fn:Fn}{nm:Str}{n q:Nat}{mv:D}{rest:List D}{cs:List (List D)}
theorem wB (hR:R nm=some fn)(l:lZ fn)(D:k5 n cs)(o:flat mv=true){k:Nat}{g:G}{j:List L3.D}(h:k+1<cs.length)(r:g[q]? = some j)(S:SD j (cnt cs k) (k*(2*n))):
   yC R fn nm n q (k*n) (k*(2*n)) mv (cs.flatten++rest) (cs.getD k []) (cs.getD (k+1) []) j (cnt cs k) g:=by
 obtain⟨b,f⟩:=D.getD (k:=k) (by omega);obtain⟨a,c⟩:=D.getD (k:=k+1) h;refine⟨hR,l,ES D.len h,b,a,f,c,D.n1,D.CU,?_,r,S,?_,o⟩
 . rw[ZH,gC D.len]
   have:(k+2)*n<=cs.length*n:=adP _ (by omega);rw[aau]at this;omega
 . have i:=D.oF
   have:(k+2)*n<=cs.length*n:=adP _ (by omega);rw[aau]at this;have e:k*(2*n)=2*(k*n):=by rw[Nat.mul_left_comm]
   omega
theorem l5 {start:Nat}{rd:List L3.D}{o7 o8 o9:Option L3.D}{g:G}(h:start+2*n<=rd.length):iW (cZ n mv rd nm q start o7 o8 o9) g=some (true,g):=by
 have e:((start:Int)+2*(n:Int)<=(rd.length:Int)):=by omega
 simp[iW,cZ,d6,e]
theorem tJ {start:Nat}{rd:List L3.D}{o7 o8 o9:Option L3.D}{g:G}(h:rd.length<start+2*n):iW (cZ n mv rd nm q start o7 o8 o9) g=some (false,g):=by
 have e:¬((start:Int)+2*(n:Int)<=(rd.length:Int)):=by omega
 simp[iW,cZ,d6,e]
theorem yD (hR:R nm=some fn)(u:lZ fn)(D:k5 n cs)(x:flat mv=true)(y:rest.length<n):∀(m k fuel:Nat) (g:G) (sd:List L3.D) (o7 o8 o9:Option L3.D),k+1+m=cs.length->m<fuel->g[q]? = some sd->SD sd (cnt cs k) (k*(2*n))->(∀i,k<=i->i+1<cs.length->Goes mv cs i) ->
  ∃σ' sd',gj iW (fq R) fuel (cZ n mv (cs.flatten++rest) nm q (k*n) o7 o8 o9) g=some (.nx,σ',g.set q sd')/\aN 0 sd'=true
 | 0,k,fuel+1,g,sd,o7,o8,o9,hk,wC,hq,S,hg=>by
  refine⟨cZ n mv (cs.flatten++rest) nm q (k*n) o7 o8 o9,sd,?_,S.nr⟩;simp only[gj];rw[tJ (by rw[ZH,gC D.len,<- hk];simp only[Nat.add_zero];rw[aau];omega)]
  obtain⟨b,e⟩:=Zq.mp hq;simp only[Zt,ZJ,if_false];rw[<- e,aat]
 |m+1,k,fuel+1,g,sd,o7,o8,o9,hk,wC,hq,S,hg=>by have H:=wB (rest:=rest) hR u D x (show k+1<cs.length by omega) hq S;obtain⟨h0,r⟩:=hg k (Zu _) (by omega);obtain⟨sd',o,c,h,e,a⟩:=GH (o7:=o7) (o8:=o8) (o9:=o9) H h0 (by rw[kZ];exact r);rw[kZ]at a;have b:=(Zq.mp hq).1;obtain⟨σ',f,j,l⟩:=yD hR u D x y m (k+1) fuel (g.set q sd') sd' o c h (by omega) (by omega) (Z0 b) ⟨a.ka,a.at_,by have:=a.len;rw[aau];omega,a.nr⟩ λi s=>hg i (by omega);refine⟨σ',f,?_,l⟩;simp only[gj];rw[l5 H.hs];simp only[Zt,if_true,e];rw[show k*n+n=(k+1)*n by rw[aau];omega,j,abV]
theorem yE (hR:R nm=some fn)(z:lZ fn)(D:k5 n cs)(A:flat mv=true){en:Option Nat}:∀(m k fuel:Nat) (g:G) (sd:List L3.D) (o7 o8 o9:Option L3.D),k+2+m=cs.length->m<fuel->g[q]? = some sd->SD sd (cnt cs k) (k*(2*n))->(∀i,k<=i->i+2<cs.length->Goes mv cs i)->wA mv cs (cs.length-2) en ->
  ∃σ' sd',gj iW (fq R) fuel (cZ n mv (cs.flatten++rest) nm q (k*n) o7 o8 o9) g=some (.rt (.tup [.int ((cs.length-2)*n:Nat),eD en]),σ',g.set q sd')
 | 0,k,fuel+1,g,sd,o7,o8,o9,hk,wC,hq,S,hg,he=>by
  have H:=wB (rest:=rest) hR z D A (show k+1<cs.length by omega) hq S;have h:cs.length-2=k:=by omega
  rw[h]at he ⊢;cases en with
  |none =>
   obtain⟨σ',e⟩:=Jn (o7:=o7) (o8:=o8) (o9:=o9) H he;refine⟨σ',sd,?_⟩;simp only[gj];rw[l5 H.hs];simp only[Zt,if_true,e];obtain⟨f,u⟩:=Zq.mp hq;rw[<- u,aat];rfl
  |some j =>
   obtain⟨h0,b,c⟩:=he;rw[<- kZ]at b c;obtain⟨sd',σ',e⟩:=Ni (o7:=o7) (o8:=o8) (o9:=o9) H h0 b c;refine⟨σ',sd',?_⟩;simp only[gj];rw[l5 H.hs];simp only[Zt,if_true,e];rfl
 |m+1,k,fuel+1,g,sd,o7,o8,o9,hk,wC,hq,S,hg,he=>by have H:=wB (rest:=rest) hR z D A (show k+1<cs.length by omega) hq S;obtain⟨h0,b⟩:=hg k (Zu _) (by omega);obtain⟨sd',x,l,r,e,a⟩:=GH (o7:=o7) (o8:=o8) (o9:=o9) H h0 (by rw[kZ];exact b);rw[kZ]at a;have f:=(Zq.mp hq).1;obtain⟨σ',o,s⟩:=yE hR z D A (en:=en) m (k+1) fuel (g.set q sd') sd' x l r (by omega) (by omega) (Z0 f) ⟨a.ka,a.at_,by have:=a.len;rw[aau];omega,a.nr⟩ (λi y=>hg i (by omega)) he;refine⟨σ',o,?_⟩;simp only[gj];rw[l5 H.hs];simp only[Zt,if_true,e];rw[show k*n+n=(k+1)*n by rw[aau];omega,s,abV]
end
theorem last_eq {R:Str->Option Fn}:cI R=ax (aF pZ (gN 5)) (ax (aF (fC (.int 0)) (gN 6)) (ax (BA 1000000 iW (fq R)) (aI (fC .ay)))):=rfl
section
variable {R:Str->Option Fn}{fn:Fn}{nm:Str}{n:Nat}{mv:D}{rest:List D}{cs:List (List D)}{g:G}
theorem CY {g g':G}(h:Bd g)(e:g'.take g.length=g):(g'.take g.length).all (aN g.length)=true:=by rw[e,aaX];intro x a;obtain⟨i,b⟩:=ady.mp a;exact h i x b
theorem take_set {g:G}{a:List D}:((g ++ [[]]).set g.length a).take g.length=g:=by rw[acv _ _ (Zu _)];simp
theorem last_run {d:D}{σ':Sg}{sd' rd:List D}(b:Bd g)(a:bQ g.length d=true)(h:gj iW (fq R) 1000000 (cZ n mv rd nm g.length 0 none none none) (g ++ [[]])=some (.rt d,σ',(g ++ [[]]).set g.length sd')):aq false 10 5 (cI R) [.int n,.int (2*n:Nat),mv,.tup rd,.fn nm []] g=some (d,g):=by
 have key:wp (aq false 10 5 (cI R) [.int n,.int (2*n:Nat),mv,.tup rd,.fn nm []] g) λq=>q=(d,g):=by
  refine jq rfl ?_;have e:cI R ([D.int n,.int (2*n:Nat),mv,.tup rd,.fn nm []].map some++ZA (10-5) none) g=some (.rt d,σ',(g ++ [[]]).set g.length sd'):=by rw[last_eq,dE (σ1:=[some (.int n),some (.int (2*n:Nat)),some mv,some (.tup rd),some (.fn nm []),some (.aX g.length),none,none,none,none]) (g1:=g ++ [[]]) rfl,dE (σ1:=cZ n mv rd nm g.length 0 none none none) (g1:=g ++ [[]]) rfl];exact nz h
  rw[e];simp only[fW];exact⟨a,CY b take_set,by simp,by rw[take_set]⟩
 obtain⟨q,e,rfl⟩:=key;exact e
theorem tK {σ':Sg}{sd' rd:List D}(a:Bd g)(h:gj iW (fq R) 1000000 (cZ n mv rd nm g.length 0 none none none) (g ++ [[]])=some (.nx,σ',(g ++ [[]]).set g.length sd')):aq false 10 5 (cI R) [.int n,.int (2*n:Nat),mv,.tup rd,.fn nm []] g=some (.ay,g):=by
 have key:wp (aq false 10 5 (cI R) [.int n,.int (2*n:Nat),mv,.tup rd,.fn nm []] g) λq=>q=(.ay,g):=by
  refine jq rfl ?_;have e:cI R ([D.int n,.int (2*n:Nat),mv,.tup rd,.fn nm []].map some++ZA (10-5) none) g=some (.rt .ay,σ',(g ++ [[]]).set g.length sd'):=by rw[last_eq,dE (σ1:=[some (.int n),some (.int (2*n:Nat)),some mv,some (.tup rd),some (.fn nm []),some (.aX g.length),none,none,none,none]) (g1:=g ++ [[]]) rfl,dE (σ1:=cZ n mv rd nm g.length 0 none none none) (g1:=g ++ [[]]) rfl];exact(dE h).trans rfl
  rw[e];simp only[fW];exact⟨rfl,CY a take_set,by simp,by rw[take_set]⟩
 obtain⟨q,e,rfl⟩:=key;exact e
theorem CZ (hR:R nm=some fn)(f:lZ fn)(b:k5 n cs)(l:flat mv=true)(h:rest.length<n)(c:Bd g)(k:∀i,i+1<cs.length->Goes mv cs i):aq false 10 5 (cI R) [.int n,.int (2*n:Nat),mv,.tup (cs.flatten++rest),.fn nm []] g=some (.ay,g):=by
 by_cases h0:cs = []
 . subst h0
   refine tK (sd':=[]) (σ':=cZ n mv rest nm g.length 0 none none none) c ?_;show((iW _ _).bind _)=_;rw[abS,abh,tJ (by omega)];simp only[Zt,ZJ,if_false];rw[acv _ _ (Zu _)];simp
 . have a:0<cs.length:=adT.mpr h0
   obtain⟨σ',sd',e,_⟩:=yD (q:=g.length) (rest:=rest) hR f b l h (cs.length-1) 0 1000000 (g ++ [[]]) [] none none none (by omega) (by have:=b.oF;have:=aeU cs.length b.n1;omega) (by simp) (by rw[acw];exact⟨rfl,λj=>by simp[bh,cnt],by simp,rfl⟩) λi _=>k i;rw[acw]at e;exact tK c e
theorem C0 (hR:R nm=some fn)(f:lZ fn)(c:k5 n cs)(k:flat mv=true)(o:Bd g)(r:2<=cs.length){en:Option Nat}(h:∀i,i+2<cs.length->Goes mv cs i)(l:wA mv cs (cs.length-2) en):aq false 10 5 (cI R) [.int n,.int (2*n:Nat),mv,.tup (cs.flatten++rest),.fn nm []] g=some (.tup [.int ((cs.length-2)*n:Nat),eD en],g):=by obtain⟨b,a,e⟩:=yE (q:=g.length) (rest:=rest) hR f c k (cs.length-2) 0 1000000 (g ++ [[]]) [] none none none (by omega) (by have:=c.oF;have:=aeU cs.length c.n1;omega) (by simp) (by rw[acw];exact⟨rfl,λj=>by simp[bh,cnt],by simp,rfl⟩) (λi _=>h i) l;rw[acw]at e;refine last_run o ?_ e;cases en<;>simp[bQ,aN,eD]
end
noncomputable def Nj (nm:Str)(a b moves:Fn):FS:=aI (aJ az (aa (aJ az (aa (fC (.str "told")) (aa (ak av (ak av (af 5) (ak av (af 3) (fC (.int 1)))) (fC (.int 2))) ag))) (aa (af 4) ag)))
noncomputable def Nk (nm:Str)(a b moves:Fn):FS:=ax (bP (aD (ak kO (ak av (af 3) (fC (.int 1))) (fC .ay))) (aI (aJ az (aa (aJ az (aa (fC (.str "told")) (aa (ao fG (aa (bq bw (bW (af 5)) [none,none] (gN 1) bF (ak av (af 1) (fC (.int 0)))) ag)) ag))) (aa (af 4) ag)))) aQ) (Nj nm a b moves)
noncomputable def Nl (nm:Str)(a b moves:Fn):FS:=ax (aF (cR (af 1) (aY (ak (bU di (· - ·)) (af 4) (af 2))) (aY (af 4))) (gN 5)) (Nk nm a b moves)
noncomputable def Nm (nm:Str)(a b moves:Fn):FS:=ax (aF (ak aT (ak av (af 3) (fC (.int 0))) (ak bJ (fC (.int 2)) (af 2))) (gN 4)) (Nl nm a b moves)
noncomputable def ET (nm:Str)(a b moves:Fn):FS:=ax (bP (aD (ak kO (af 3) (fC .ay))) (aI (aJ az (aa (aJ az (aa (fC (.str "read")) (aa (aJ az (aa (fC (.str "own")) (aa (ak (bU dj (· % ·)) (ao bz (aa (af 1) ag)) (af 2)) ag))) ag))) (aa (ao bz (aa (af 1) ag)) ag)))) aQ) (Nm nm a b moves)
noncomputable def EU (nm:Str)(b a moves:Fn):FS:=ax (aF (ao a (aa (af 2) (aa (ak bJ (fC (.int 2)) (af 2)) (aa (ao moves (aa (af 0) ag)) (aa (af 1) (aa (fC (.fn nm [])) ag)))))) (gN 3)) (ET nm b a moves)
noncomputable def nC (nm:Str)(a b moves:Fn):FS:=ax (aF (ao a (aa (af 0) ag)) (gN 2)) (EU nm a b moves)
noncomputable def Aw:D->D
 |.tup (v::_)=>v|_=>.ay
noncomputable def XT:D->D
 |.tup (_::_::w::_)=>w|_=>.ay
noncomputable def l6 (c:List D):Option Nat->D
 |none=>.tup (c.map Aw)|some j=>XT (c.getD j .ay)
section
variable {R:Str->Option Fn}{fn:Fn}{nm:Str}{n:Nat}{mv m:D}{rest:List D}{cs:List (List D)}{g:G}{hands moves:Fn}
theorem yF (hh:∀g,hands [m] g=some (.int n,g))(x:∀g,moves [m] g=some (mv,g))(hR:R nm=some fn)(o:lZ fn)(l:k5 n cs)(u:flat mv=true)(r:rest.length<n)(y:Bd g)(s:∀i,i+1<cs.length->Goes mv cs i):
  aq false 6 2 (nC nm hands (aq false 10 5 (cI R)) moves) [m,.tup (cs.flatten++rest)] g=some (.tup [.tup [.str "read",own "own" ((cs.flatten++rest).length % n)],.int (cs.flatten++rest).length],g):=by
 have e:=CZ hR o l u r y s;have k:=l.n1;have j:((n:Int))≠0:=by omega
 have f:aA 2=true:=rfl;have c:b_ 2 (n:Int)=true:=iz (by decide) (by decide);have h:∀i:Int,dj i (n:Int)=true:=λi=>fO (by omega);have b:((2*n:Nat):Int)=2*(n:Int):=by simp
 rw[b]at e;have key:wp (aq false 6 2 (nC nm hands (aq false 10 5 (cI R)) moves) [m,.tup (cs.flatten++rest)] g) λq=>q=(.tup [.tup [.str "read",own "own" ((cs.flatten++rest).length % n)],.int (cs.flatten++rest).length],g):=by generalize cs.flatten++rest=rd at e ⊢;refine wp_run rfl ?_;simp[nC,hh];unfold EU;simp[hh,x,c,e];unfold ET;have a:kO .ay .ay g=some (.bl true,g):=rfl;simp[a,f,h,own,show fV .ay=true from rfl]
 obtain⟨q,e,rfl⟩:=key;exact e
theorem EV {k:Nat}(b:k5 n cs)(h:k<cs.length):((cs.flatten++rest).drop (k*n)).take n=cs.getD k []:=by rw[iX b.len (by omega),aak h,aaj,Z3];have a:cs[k].length=n:=b.len _ (Z6 _);rw[abK (by omega),aal (by omega),ZQ,Zn h];rfl
theorem jG {g:G}:∀(c:List D),(∀x∈c,mC x)->∀o1,cy (gN 1) bF (ak av (af 1) (fC (.int 0))) c [none,o1] g=some (c.map Aw,g)
 | [],_,_=>rfl|x::c,h,o1=>by have ih:=jG (g:=g) c (λy b=>h y (by simp[b])) (some x);obtain⟨v,m,r,rfl⟩:=h x (by simp);have a:cA (v :: .int m::r) 0=some v:=kW (n:=0) rfl;simp only[cy];simp[a,ih,Aw]
theorem Jo (hh:∀g,hands [m] g=some (.int n,g))(J:∀g,moves [m] g=some (mv,g))(hR:R nm=some fn)(E:lZ fn)(A:k5 n cs)(I:flat mv=true)(K:Bd g)(C:2<=cs.length){en:Option Nat}(H:∀i,i+2<cs.length->Goes mv cs i)(B:wA mv cs (cs.length-2) en)
  (L:en≠none->∀c∈cs,∀x∈c,∃v m w,x = .tup [v,.int m,w]):
  aq false 6 2 (nC nm hands (aq false 10 5 (cI R)) moves) [m,.tup (cs.flatten++rest)] g=some (.tup [.tup [.str "told",l6 (cs.getD (cs.length-1) []) en],.int (cs.length*n:Nat)],g):=by
 have e:=C0 (rest:=rest) hR E A I K C H B;have n1:=A.n1;have h:aA 2=true:=rfl;have r:b_ 2 (n:Int)=true:=iz (by decide) (by decide);have e2:((2*n:Nat):Int)=2*(n:Int):=by simp
 rw[e2]at e;have hlen:cs.length*n<=(cs.flatten++rest).length:=by rw[ZH,gC A.len];omega
 have f:(((cs.length-2)*n:Nat):Int)+2*(n:Int)=((cs.length*n:Nat):Int):=by
  have:(cs.length-2)*n+2*n=cs.length*n:=by rw[<- aau];congr 1;omega
  rw[<- this];simp
 have ed:((cs.length*n:Nat):Int)-(n:Int)=(((cs.length-1)*n:Nat):Int):=by
  have:(cs.length-1)*n+n=cs.length*n:=by rw[show(cs.length-1)*n+n=(cs.length-1+1)*n by rw[aau];omega];congr 1;omega
  omega
 have ec:cutD (cs.flatten++rest) (some (((cs.length-1)*n:Nat):Int)) (some ((cs.length*n:Nat):Int))=cs.getD (cs.length-1) []:=by
  have h1:(cs.length-1)*n+n=cs.length*n:=by rw[show(cs.length-1)*n+n=(cs.length-1+1)*n by rw[aau];omega];congr 1;omega
  have:=kY (rd:=cs.flatten++rest) (s:=(cs.length-1)*n) (m:=n) (by omega);rw[h1]at this;rw[this,EV A (by omega)]
 obtain⟨b,l⟩:=A.getD (k:=cs.length-1) (by omega);have o:cs.getD (cs.length-1) []∈cs:=by rw[ZQ,Zn (show cs.length-1<cs.length by omega)];exact Z6 _
 have key:wp (aq false 6 2 (nC nm hands (aq false 10 5 (cI R)) moves) [m,.tup (cs.flatten++rest)] g) λq=>q=(.tup [.tup [.str "told",l6 (cs.getD (cs.length-1) []) en],.int (cs.length*n:Nat)],g):=by
  generalize cs.flatten++rest=rd at e ec hlen ⊢;generalize hL:cs.getD (cs.length-1) []=c at ec b l o ⊢;generalize (cs.length-2)*n=u0 at e f;generalize cs.length*n=u1 at *;generalize (cs.length-1)*n=u2 at *;refine wp_run rfl ?_;simp[nC,hh];unfold EU;simp[hh,J,r,e];unfold ET;have y:fV (.tup [.int u0,eD en])=false:=rfl;simp[y];unfold Nm;simp[Qf,r,f];unfold Nl;simp[ed,fj,ec];unfold Nk;cases en with
  |none =>
   have zc:aA c.length=true:=by rw[b];exact aO (by have:=A.CU;omega)
   have cv:=jG (g:=g) c l none;simp[Av,eD,show fV .ay=true from rfl,zc,cv,h,l6]
  |some j =>
   obtain⟨_,hj,_⟩:=B;have a:j<c.length:=by have:=Ng (aa5.mp hj).1;obtain⟨l3,_⟩:=A.getD (k:=cs.length-2) (by omega);omega
   obtain⟨v,k,w,u⟩:=L (by simp) c o c[j] (Z6 a);have a1:cA c (j:Int)=some (.tup [v,.int k,w]):=kW (by rw[Zn a,u]);have a2:cA [v,.int k,w] 2=some w:=rfl;have z:l6 c (some j)=w:=by simp only[l6];rw[ZQ,Zn a,u];rfl
   simp[Av,eD,show fV (.int (j:Int))=false from rfl];unfold Nj;simp[Av,a1,a2,h,z]
 obtain⟨q,e,rfl⟩:=key;exact e
end
theorem wp_seq {f1 f2:FS}{σ:Sg}{g:G}{Q:F×Sg×G->Prop}(h:wp (f1 σ g) λr=>r.1 = .nx/\wp (f2 r.2.1 r.2.2) Q):wp (ax f1 f2 σ g) Q:=by obtain⟨⟨r,c,g1⟩,e,b,a⟩:=h;dsimp only at b a;subst b;rw[qZ,e];exact a
end Wd
namespace Wg
open L3 L2 RI Pd Wd
section
variable {σ σ1:Sg}{g g1 g2:G}{f f':FE}{f1 f2:FS}{c:FT}{d d':D}{i j n:Nat}{x:Option (F×Sg×G)}{Q:F×Sg×G->Prop}
theorem bG (h:f1 σ g=some (.nx,σ1,g1))(k:f2 σ1 g1=x):ax f1 f2 σ g=x:=(dE h).trans k
theorem aR (h:f σ g=some (d,g1))(k:f2 (σ.set i (some d)) g1=x):ax (aF f (gN i)) f2 σ g=x:=bG (hG h) k
theorem eE (t:c σ g=some (true,g1))(h:f σ g1=some (d,g2)):ax (bP c (aI f) f1) f2 σ g=some (.rt d,σ,g2):=nz ((oZ t).trans (cF h))
theorem uF (h:f1 σ g=some (.nx,σ1,g1))(k:wp (f2 σ1 g1) Q):wp (ax f1 f2 σ g) Q:=by rw[dE h];exact k
theorem jj (h:f σ g=some (d,g1))(k:wp (f2 (σ.set i (some d)) g1) Q):wp (ax (aF f (gN i)) f2 σ g) Q:=uF (hG h) k
theorem GI {k:Nat}(t:c σ g=some (true,g1))(h:f1 σ g1=some (.nx,σ1,g2)):gj c f1 (k+1) σ g=gj c f1 k σ1 g2:=by simp only[gj,t,Zt,if_true,h]
theorem GJ {k:Nat}(t:c σ g=some (true,g1))(h:f1 σ g1=some (.rt d,σ1,g2)):gj c f1 (k+1) σ g=some (.rt d,σ1,g2):=by simp only[gj,t,Zt,if_true,h]
theorem eB {o:D->D->G->Option (D×G)}(h:f σ g=some (d,g1))(k:f' σ g1=some (d',g2)):ak o f f' σ g=o d d' g2:=by simp[h,k]
theorem EW (h:f σ g=some (d,g1))(k:f' σ g1=some (d',g2)):oV i j (aa f (aa f' ag)) σ g=some (.nx,(σ.set i (some d)).set j (some d'),g2):=by simp[h,k]
theorem qw {fr:FA}(h:fr σ g=some ([.int n],g1))(b:n<=1000):gI fr σ g=some (eS 0 n,g1):=by obtain⟨q,a,e⟩:=j_ (fr:=fr) (σ:=σ) (g:=g) (Q:=λq=>q=(eS 0 n,g1)) ⟨_,h,n,rfl,by omega,by omega,by simp⟩;rw[a,e]
theorem rR {l:List Nat}:bt (dN l)=true:=by
 induction l with
 |nil=>rfl|cons x l ih=>exact ih
end
noncomputable def eX (n:Nat)(mv:D)(rd:List D)(a:D)(q:Nat)(start:Nat)(o7 o8 o9:Option D):Sg:=[some (.int n),some (.int n),some mv,some (.tup rd),some a,some (.aX q),some (.int start),o7,o8,o9]
theorem tL {R:Str->Option Fn}{i:Nat}{fr:FA}{σ:Sg}{g:G}{y:Str}{ds:List D}{fn:Fn}(h:σ[i]? = some (some (.fn y ds)))(a:R y=some fn):eI R i fr σ g=(fr σ g).bind λq=>fn (ds++q.1) q.2:=by unfold eI;rw[h];simp[a]
section
variable {R:Str->Option Fn}{fn:Fn}{nm:Str}{cap:List D}{n q start N:Nat}{mv:D}{rd w sd:List D}{ms:List Nat}{f:Nat->Nat}{g:G}{o7 o8 o9:Option D}
structure yG (R:Str->Option Fn)(fn:Fn)(nm:Str)(cap:List D)(n q start N:Nat)(mv:D)(rd w:List D)(ms:List Nat)(sd:List D)(f:Nat->Nat)(g:G):Prop where
 hR:R nm=some fn
 hw:(rd.drop start).take n=w
 hf:∀g,fn (cap ++ [.tup w]) g=some (.lst (dN ms),g)
 nd:ms.Nodup
 ml:ms.length<=20
 hs:start+n<=rd.length
 hq:g[q]? = some sd
 S:SD sd f N
 hN:N+40<=900
 fm:flat mv=true
theorem wF (H:yG R fn nm cap n q start N mv rd w ms sd f g):(aF (eI R 4 (aa (cR (af 3) (aY (af 6)) (aY (ak aT (af 6) (af 1)))) ag)) (gN 7)) (eX n mv rd (.fn nm cap) q start o7 o8 o9) g=some (.nx,eX n mv rd (.fn nm cap) q start (some (.lst (dN ms))) o8 o9,g):=by have a:=kY (rd:=rd) (s:=start) (m:=n) H.hs;rw[H.hw]at a;refine hG ?_;rw[tL (y:=nm) (ds:=cap) (fn:=fn) rfl H.hR];simp[eX,fj];rw[show(start:Int)+(n:Int)=((start+n:Nat):Int) by simp,a];exact H.hf g
theorem Jp (H:yG R fn nm cap n q start N mv rd w ms sd f g)(b:ms = []):∃σ',fq R (eX n mv rd (.fn nm cap) q start o7 o8 o9) g=some (.rt (.tup [.int start,.ay]),σ',g):=by have a:aA 2=true:=rfl;exact⟨_,bG (wF H) (eE (g1:=g) (d:=.tup [.int start,.ay]) (g2:=g) (by simp[eX,b,dN]) (by simp[eX,a]))⟩
theorem C2 (H:yG R fn nm cap n q start N mv rd w ms sd f g)(r:ms ≠ []):∃sd' p8,fq R (eX n mv rd (.fn nm cap) q start o7 o8 o9) g=pb R (eX n mv rd (.fn nm cap) q start (some (.lst (dN ms))) p8 (some (.lst (dN (fQ (cP f ms) mv ms))))) (g.set q sd')/\SD sd' (cP f ms) (N+40):=by
 have o:=H.ml;obtain⟨sd',p8,k,a,_⟩:=yB (l:=ms) (σ:=eX n mv rd (.fn nm cap) q start (some (.lst (dN ms))) o8 o9) H.hq H.S H.nd (by have:=H.hN;omega) rfl rfl;have b:SD sd' (cP f ms) (N+40):=⟨a.ka,a.at_,by have:=a.len;omega,a.nr⟩
 have i:(g.set q sd')[q]? = some sd':=Z0 (Zq.mp H.hq).1;have e:=pe (f:=cP f ms) i H.fm ms (λj h=>by rw[b.at_ j,if_neg];simp[cP,h]) none
 have c:¬((ms.length:Int)=0):=λz=>r (abL.mp (by omega));have zl:aA ms.length=true:=aO (by omega);exact⟨sd',p8,bG (wF H) (bG ((dh (g1:=g) (by simp[eX,bY,c,r])).trans rfl) (bG (f1:=fg (bW (af 7)) (gN 8) (aF (ak aT (iu iI i0 (af 5) (aa (af 8) (aa (fC (.int 0)) ag))) (fC (.int 1))) (iq (af 5) (af 8)))) k (aR (d:=.lst (dN (fQ (cP f ms) mv ms))) (g1:=g.set q sd') (by simp[eX,bW,bb,bY,zl,bM,e,bw]) rfl))),b⟩
theorem GK (H:yG R fn nm cap n q start N mv rd w ms sd f g)(b:ms ≠ [])(a:fQ (cP f ms) mv ms = []):∃sd' p7 p8 p9,fq R (eX n mv rd (.fn nm cap) q start o7 o8 o9) g=some (.nx,eX n mv rd (.fn nm cap) q (start+n) p7 p8 p9,g.set q sd')/\SD sd' (cP f ms) (N+40):=by obtain⟨sd',p8,e,S⟩:=C2 (o7:=o7) (o8:=o8) (o9:=o9) H b;refine⟨sd',some (.lst (dN ms)),p8,some (.lst (dN [])),?_,S⟩;rw[e,a];unfold pb EO;simp[eX,dN]
theorem Np (H:yG R fn nm cap n q start N mv rd w ms sd f g)(l:ms ≠ []){h:Nat}(i:h∈fQ (cP f ms) mv ms)(k:∀j∈fQ (cP f ms) mv ms,h<=j):∃sd' σ',fq R (eX n mv rd (.fn nm cap) q start o7 o8 o9) g=some (.rt (.tup [.int start,.int h]),σ',g.set q sd'):=by obtain⟨sd',a,e,S⟩:=C2 (o7:=o7) (o8:=o8) (o9:=o9) H l;refine⟨sd',eX n mv rd (.fn nm cap) q start (some (.lst (dN ms))) a (some (.lst (dN (fQ (cP f ms) mv ms)))),?_⟩;rw[e];have hm:=CW (g:=g.set q sd') i k;have b:0<(fQ (cP f ms) mv ms).length:=afc i;have c:aA 2=true:=rfl;unfold pb;simp[eX,bY,b,hm,c]
end
noncomputable def i4 (ps:List (List Nat)):Nat->Nat->Nat
 | 0,_=>0|k+1,j=>i4 ps k j+if j∈ps.getD k []then 1 else 0
theorem wG {ps:List (List Nat)}{k:Nat}:cP (i4 ps k) (ps.getD k [])=i4 ps (k+1):=rfl
def nY (mv:D)(ps:List (List Nat))(i:Nat):Prop:=ps.getD i [] ≠ []/\fQ (i4 ps (i+1)) mv (ps.getD i [])= []
noncomputable def uG (mv:D)(ps:List (List Nat))(i:Nat):Option Nat->Prop
 |none=>ps.getD i []= []|some j=>ps.getD i [] ≠ []/\j∈fQ (i4 ps (i+1)) mv (ps.getD i []) /\ ∀k∈fQ (i4 ps (i+1)) mv (ps.getD i []),j<=k
structure yH (fn:Fn)(cap:List D)(n:Nat)(ws:List (List D))(ps:List (List Nat)):Prop where
 len:∀w∈ws,w.length=n
 lp:ps.length=ws.length
 n1:1<=n
 oF:ws.length<=20
 at_:∀i,i<ws.length->(∀g,fn (cap ++ [.tup (ws.getD i [])]) g=some (.lst (dN (ps.getD i [])),g))/\(ps.getD i []).Nodup/\(ps.getD i []).length<=20
section
variable {R:Str->Option Fn}{fn:Fn}{nm:Str}{cap:List L3.D}{n q:Nat}{mv:L3.D}{rest:List L3.D}{ws:List (List L3.D)}{ps:List (List Nat)}
theorem Jq {k:Nat}(a:∀w∈ws,w.length=n)(h:k<ws.length):((ws.flatten++rest).drop (k*n)).take n=ws.getD k []:=by
 rw[iX a (by omega),aak h,aaj,Z3];have e:ws.getD k []=ws[k]:=by rw[ZQ,Zn h];rfl
 rw[e,abK (by rw[a _ (Z6 h)];exact Zu _),aal (by rw[a _ (Z6 h)];exact Zu _)]
theorem wH (hR:R nm=some fn)(D:yH fn cap n ws ps)(c:flat mv=true){k:Nat}{g:G}{b:List L3.D}(h:k<ws.length)(e:g[q]? = some b)(S:SD b (i4 ps k) (k*40)):
   yG R fn nm cap n q (k*n) (k*40) mv (ws.flatten++rest) (ws.getD k []) (ps.getD k []) b (i4 ps k) g:=by
 obtain⟨a1,a2,a⟩:=D.at_ k h;refine⟨hR,Jq D.len h,a1,a2,a,?_,e,S,?_,c⟩
 . rw[ZH,gC D.len]
   have:(k+1)*n<=ws.length*n:=adP _ (by omega);rw[aau]at this;omega
 . have:=D.oF;omega
theorem l7 {start:Nat}{rd:List L3.D}{a:L3.D}{o7 o8 o9:Option L3.D}{g:G}(h:start+n<=rd.length):iW (eX n mv rd a q start o7 o8 o9) g=some (true,g):=by
 have e:((start:Int)+(n:Int)<=(rd.length:Int)):=by omega
 simp[iW,eX,d6,e]
theorem C3 {start:Nat}{rd:List L3.D}{a:L3.D}{o7 o8 o9:Option L3.D}{g:G}(h:rd.length<start+n):iW (eX n mv rd a q start o7 o8 o9) g=some (false,g):=by
 have e:¬((start:Int)+(n:Int)<=(rd.length:Int)):=by omega
 simp[iW,eX,d6,e]
theorem yI (hR:R nm=some fn)(D:yH fn cap n ws ps)(u:flat mv=true)(x:rest.length<n):∀(m k fuel:Nat) (g:G) (sd:List L3.D) (o7 o8 o9:Option L3.D),k+m=ws.length->m<fuel->g[q]? = some sd->SD sd (i4 ps k) (k*40)->(∀i,k<=i->i<ws.length->nY mv ps i) ->
  ∃σ' sd',gj iW (fq R) fuel (eX n mv (ws.flatten++rest) (.fn nm cap) q (k*n) o7 o8 o9) g=some (.nx,σ',g.set q sd')/\aN 0 sd'=true
 | 0,k,fuel+1,g,sd,o7,o8,o9,hk,wC,hq,S,hg=>by
  refine⟨eX n mv (ws.flatten++rest) (.fn nm cap) q (k*n) o7 o8 o9,sd,?_,S.nr⟩;simp only[gj];rw[C3 (by rw[ZH,gC D.len,<- hk];simp only[Nat.add_zero];omega)]
  obtain⟨b,e⟩:=Zq.mp hq;simp only[Zt,ZJ,if_false];rw[<- e,aat]
 |m+1,k,fuel+1,g,sd,o7,o8,o9,hk,wC,hq,S,hg=>by have H:=wH (rest:=rest) hR D u (show k<ws.length by omega) hq S;obtain⟨h0,r⟩:=hg k (Zu _) (by omega);obtain⟨sd',o,c,h,e,a⟩:=GK (o7:=o7) (o8:=o8) (o9:=o9) H h0 (by rw[wG];exact r);rw[wG]at a;have b:=(Zq.mp hq).1;obtain⟨σ',f,j,l⟩:=yI hR D u x m (k+1) fuel (g.set q sd') sd' o c h (by omega) (by omega) (Z0 b) ⟨a.ka,a.at_,by have:=a.len;rw[aau];omega,a.nr⟩ λi s=>hg i (by omega);refine⟨σ',f,(GI (l7 H.hs) e).trans ?_,l⟩;rw[show k*n+n=(k+1)*n by rw[aau];omega,j,abV]
theorem yJ (hR:R nm=some fn)(D:yH fn cap n ws ps)(z:flat mv=true){en:Option Nat}:∀(m k fuel:Nat) (g:G) (sd:List L3.D) (o7 o8 o9:Option L3.D),k+1+m=ws.length->m<fuel->g[q]? = some sd->SD sd (i4 ps k) (k*40)->(∀i,k<=i->i+1<ws.length->nY mv ps i)->uG mv ps (ws.length-1) en ->
  ∃σ' sd',gj iW (fq R) fuel (eX n mv (ws.flatten++rest) (.fn nm cap) q (k*n) o7 o8 o9) g=some (.rt (.tup [.int ((ws.length-1)*n:Nat),eD en]),σ',g.set q sd')
 | 0,k,fuel+1,g,sd,o7,o8,o9,hk,wC,hq,S,hg,he=>by
  have H:=wH (rest:=rest) hR D z (show k<ws.length by omega) hq S;have h:ws.length-1=k:=by omega
  rw[h]at he ⊢;cases en with
  |none =>
   obtain⟨σ',e⟩:=Jp (o7:=o7) (o8:=o8) (o9:=o9) H he;refine⟨σ',sd,(GJ (l7 H.hs) e).trans ?_⟩;obtain⟨f,u⟩:=Zq.mp hq;rw[<- u,aat];rfl
  |some j =>
   obtain⟨h0,b,c⟩:=he;rw[<- wG]at b c;obtain⟨sd',σ',e⟩:=Np (o7:=o7) (o8:=o8) (o9:=o9) H h0 b c;exact⟨σ',sd',GJ (l7 H.hs) e⟩
 |m+1,k,fuel+1,g,sd,o7,o8,o9,hk,wC,hq,S,hg,he=>by have H:=wH (rest:=rest) hR D z (show k<ws.length by omega) hq S;obtain⟨h0,b⟩:=hg k (Zu _) (by omega);obtain⟨sd',x,l,r,e,a⟩:=GK (o7:=o7) (o8:=o8) (o9:=o9) H h0 (by rw[wG];exact b);rw[wG]at a;have f:=(Zq.mp hq).1;obtain⟨σ',o,s⟩:=yJ hR D z (en:=en) m (k+1) fuel (g.set q sd') sd' x l r (by omega) (by omega) (Z0 f) ⟨a.ka,a.at_,by have:=a.len;rw[aau];omega,a.nr⟩ (λi y=>hg i (by omega)) he;refine⟨σ',o,(GI (l7 H.hs) e).trans ?_⟩;rw[show k*n+n=(k+1)*n by rw[aau];omega,s,abV]
theorem tM {d:L3.D}{σ':Sg}{sd' rd:List L3.D}{a:L3.D}(b:bQ 0 d=true)(h:ax (BA 1000000 iW (fq R)) (aI (fC .ay)) (eX n mv rd a 0 0 none none none) [[]]=some (.rt d,σ',[sd'])):aq false 10 5 (cI R) [.int n,.int n,mv,.tup rd,a] []=some (d,[]):=by
 have key:wp (aq false 10 5 (cI R) [.int n,.int n,mv,.tup rd,a] []) λq=>q=(d,[]):=by refine jq rfl ?_;rw[last_eq];refine jj (d:=.aX 0) (g1:=[[]]) rfl (jj (d:=.int 0) (g1:=[[]]) rfl ⟨_,h,?_⟩);exact⟨b,by simp,by simp,by simp⟩
 obtain⟨q,e,rfl⟩:=key;exact e
theorem Nq {N:Nat}:SD [] (i4 ps 0) N:=⟨rfl,λj=>by simp[bh,i4],by simp,rfl⟩
theorem qx (hR:R nm=some fn)(D:yH fn cap n ws ps)(h:flat mv=true)(c:rest.length<n)(f:∀i,i<ws.length->nY mv ps i):aq false 10 5 (cI R) [.int n,.int n,mv,.tup (ws.flatten++rest),.fn nm cap] []=some (.ay,[]):=by obtain⟨b,a,e,_⟩:=yI (q:=0) (rest:=rest) hR D h c ws.length 0 1000000 [[]] [] none none none (by omega) (by have:=D.oF;omega) rfl Nq λi _=>f i;rw[acw]at e;exact tM rfl ((dE e).trans rfl)
theorem qy (hR:R nm=some fn)(D:yH fn cap n ws ps)(f:flat mv=true)(j:1<=ws.length){en:Option Nat}(c:∀i,i+1<ws.length->nY mv ps i)(h:uG mv ps (ws.length-1) en):aq false 10 5 (cI R) [.int n,.int n,mv,.tup (ws.flatten++rest),.fn nm cap] []=some (.tup [.int ((ws.length-1)*n:Nat),eD en],[]):=by obtain⟨b,a,e⟩:=yJ (q:=0) (rest:=rest) hR D f (ws.length-1) 0 1000000 [[]] [] none none none (by omega) (by have:=D.oF;omega) rfl Nq (λi _=>c i) h;rw[acw]at e;refine tM ?_ (nz e);cases en<;>simp[bQ,aN,eD]
end
end Wg
namespace Wg
open L3 L2 RI Pd Wd SJ
theorem tN (val:Nat->Int):∀(n:Nat) (k:Int),k∈bT val n ↔ ∃i,i<n/\val i=k
 | 0,k=>by simp[bT]
 |n+1,k=>by
  have ih:=tN val n;unfold bT SJ.jy;have:k∈(if val n∈bT val n then bT val n else bT val n ++ [val n])↔ k∈bT val n\/k=val n:=by
    split
    . rename_i h
      exact⟨.inl,λa=>by rcases a with a|rfl;exact a;exact h⟩
    . simp
  rw[this,ih];constructor
  . rintro(⟨i,b,a⟩|rfl)
    . exact⟨i,by omega,a⟩
    . exact⟨n,by omega,rfl⟩
  . rintro⟨i,b,a⟩
    by_cases e:i=n
    . subst e;exact .inr a.symm
    . exact .inl ⟨i,by omega,a⟩
theorem wI (val:Nat->Int):∀n,(bT val n).Nodup
 | 0=>abB
 |n+1=>by
  have ih:=wI val n;unfold bT SJ.jy;split
  . exact ih
  . rename_i h
    rw[abr];exact⟨ih,by simp,λa e b c z=>by simp at c;subst c;subst z;exact h e⟩
theorem EX (ns:List Int)(k:Int):k∈bT (λi=>ns.getD i 0) ns.length ↔ k∈ns:=by
 rw[tN,aaW];constructor
 . rintro⟨i,a,b⟩
   exact⟨i,a,by simpa[a]using b⟩
 . rintro⟨i,a,b⟩
   exact⟨i,a,by simpa[a]using b⟩
theorem Nr {L f:List Nat}(h:∀j,j∈f ↔ j∈L)(nd:f.Nodup)(l:f.Pairwise (· <= ·)):abJ (bT (λi=>(L.map λ(j:Nat)=>(j:Int)).getD i 0) (L.map λ(j:Nat)=>(j:Int)).length)=f.map λ(j:Nat)=>(j:Int):=by
 refine(aeQ ((List.perm_ext_iff_of_nodup (L3.nodup_map_on (λa _ b _ e=>by omega) nd) (wI _ _)).mpr λk=>?_) ?_).symm
 . rw[EX]
   simp only[ZK];exact⟨λ⟨j,c,e⟩=>⟨j,(h j).mp c,e⟩,λ⟨j,c,e⟩=>⟨j,(h j).mpr c,e⟩⟩
 . rw[agk]
   exact l.imp λh=>by omega
noncomputable def eL (n o:Nat):List Nat:=(ZN n).filter λj=>!(j == o)
noncomputable def aB (n o sh:Nat):List Nat:=if sh=1 then eL n o else []
theorem js {n o j:Nat}:j∈eL n o ↔ j<n/\j≠o:=by simp[eL]
theorem C4 {n o:Nat}:(eL n o).Nodup:=adq.sublist abO
theorem k6 {n o:Nat}:(eL n o).length<=n:=by have:=abj (λj=>!(j == o)) (ZN n);rw[agl]at this;exact this
theorem gO {n o sh:Nat}:(aB n o sh).length<=n:=by
 unfold aB;split
 . exact k6
 . simp
theorem gP {n o sh j:Nat}:j∈aB n o sh ↔ sh=1/\j<n/\j≠o:=by
 unfold aB;split
 . rename_i h;rw[js];simp[h]
 . rename_i h;simp[h]
theorem Nt {n o sh:Nat}:(aB n o sh).Nodup:=by
 unfold aB;split
 . exact C4
 . exact abB
inductive SC (n:Nat):D->Prop
 |mk (v:D) (bs:List Int) (t:Int) (vw:List D) (hv:vG v) (hb:bs.length=n) (hw:vw.length=n) (ha:∀x∈vw,vG x):SC n (.tup [v,.tup (bs.map .int),.int t,.tup vw])
noncomputable def C5 (c:D)(i:Nat):D:=match c with
 |.tup xs=>xs.getD i .ay|_=>.ay
noncomputable def GL:D->Int
 |.int i=>i|_=>0
noncomputable def cB (c:D)(j:Nat):Int:=GL (C5 (C5 c 1) j)
noncomputable def cT (c:D):Int:=GL (C5 c 2)
noncomputable def cV (c:D):D:=C5 c 0
noncomputable def cW (c:D):D:=C5 c 3
theorem GN {a b c d:D}:cA [a,b,c,d] 1=some b:=rfl
theorem Qg {a b c d:D}:cA [a,b,c,d] 2=some c:=rfl
theorem Qh {a b c d:D}:cA [a,b,c,d] 3=some d:=rfl
theorem Qi {a b c d:D}:cA [a,b,c,d] 0=some a:=rfl
section
variable {n o:Nat}{c:D}{g:G}
theorem SC.bit (h:SC n c)(b:o<n):(av c (.int 1) g).bind (λr=>av r.1 (.int o) r.2)=some (.int (cB c o),g):=by
 cases h with
 |mk v bs t vw hv hb hw ha =>
  have e:(bs.map D.int)[o]? = some (.int bs[o]):=by rw[ZE,Zn (by omega)];rfl
  have a:cB (.tup [v,.tup (bs.map .int),.int t,.tup vw]) o=bs[o]:=by show GL ((bs.map D.int).getD o .ay)=_;rw[ZQ,e];rfl
  simp[d9,GN,gF e,a]
theorem SC.Sl (h:SC n c):av c (.int 2) g=some (.int (cT c),g):=by
 cases h with
 |mk v bs t vw hv hb hw ha=>simp[d9,Qg];rfl
theorem SC.val (h:SC n c):av c (.int 0) g=some (cV c,g):=by
 cases h with
 |mk v bs t vw hv hb hw ha=>simp[d9,Qi];rfl
theorem SC.view (h:SC n c):av c (.int 3) g=some (cW c,g):=by
 cases h with
 |mk v bs t vw hv hb hw ha=>simp[d9,Qh];rfl
end
structure ij (n o sh:Nat)(ks fs ss:List D):Prop where
 kl:ks.length=(aB n o sh).length
 fl:fs.length=n
 sl:ss.length=n
 ka:∀c∈ks,SC n c
 fa:∀c∈fs,SC n c
 sa:∀c∈ss,SC n c
noncomputable def dI (ks:List D):List D:=ks.flatMap λc=>[c,.ay]
theorem f_ {ks:List D}:(dI ks).length=2*ks.length:=by
 induction ks with
 |nil=>rfl|cons c ks ih=>simp[dI]at ih ⊢;omega
theorem qz {ks:List D}{p:Nat}{c:D}(h:ks[p]? = some c):(dI ks)[2*p]? = some c:=by
 induction ks generalizing p with
 |nil=>simp at h
 |cons d ks ih =>
  cases p with
  |zero=>simp at h;subst h;rfl
  |succ p =>
   have:=ih (p:=p) (by simpa using h);simp only[dI,aaR]at this ⊢;rw[show 2*(p+1)=2*p+2 by omega];simpa using this
noncomputable def cC (ks fs ss:List D):List D:=dI ks++fs++ss
noncomputable def sgn (n o sh:Nat)(ks:List D)(j:Nat):Int:=cB (ks.getD ((aB n o sh).idxOf j) .ay) o
noncomputable def qA (tg:Nat)(fs ss:List D)(j:Nat):Bool:=decide (tg=1)&&decide (cT (fs.getD j .ay)≠cT (ss.getD j .ay))
noncomputable def k8 (n o sh:Nat)(ks fs ss:List D)(j:Nat):Bool:=decide (sh=1)&&(decide (cB (fs.getD j .ay) o≠sgn n o sh ks j)||decide (cB (ss.getD j .ay) o≠sgn n o sh ks j))
noncomputable def hJ (n o tg sh:Nat)(ks fs ss:List D):List Nat:=(eL n o).filter λj=>qA tg fs ss j||k8 n o sh ks fs ss j
theorem C6 {ks fs ss:List D}{n:Nat}{a b:Int}(h:fs.length=n)(i:ss.length=n)(j:1<=n)(k:a = -(2*(n:Int)))(l:b = -(n:Int)):cutD (cC ks fs ss) (some a) (some b)=fs:=by
 have c:(cC ks fs ss).length=(dI ks).length+n+n:=by simp[cC,h,i];omega
 unfold cutD;have f:HT.bf (cC ks fs ss).length 0 (some a)=(dI ks).length:=by show(if a<0 then(a+((cC ks fs ss).length:Int)).toNat else _)=_;rw[if_pos (by omega),c];omega
 have e:HT.bf (cC ks fs ss).length (cC ks fs ss).length (some b)=(dI ks).length+n:=by show(if b<0 then(b+((cC ks fs ss).length:Int)).toNat else _)=_;rw[if_pos (by omega),c];omega
 rw[f,e];unfold cC;rw[Z3,acx,show(dI ks).length+n-(dI ks).length=fs.length by omega,adZ]
theorem Ax {ks fs ss:List D}{n:Nat}{b:Int}(e:fs.length=n)(f:ss.length=n)(h:1<=n)(i:b = -(n:Int)):cutD (cC ks fs ss) (some b) none=ss:=by
 have a:(cC ks fs ss).length=(dI ks++fs).length+n:=by simp[cC,e,f];omega
 unfold cutD;have c:HT.bf (cC ks fs ss).length 0 (some b)=(dI ks++fs).length:=by show(if b<0 then(b+((cC ks fs ss).length:Int)).toNat else _)=_;rw[if_pos (by omega),a];omega
 rw[c,HT.ly];unfold cC at a ⊢;rw[acx,a];exact aal (by omega)
noncomputable def GO:FT:=aD (ak dD (ak av (ak av (af 2) (af 1)) (fC (.int 2))) (ak av (ak av (af 3) (af 1)) (fC (.int 2))))
noncomputable def Nu:FS:=ax (aF (ak av (ak av (ak av (af 2) (ak bJ (fC (.int 2)) (af 7))) (fC (.int 1))) (af 1)) (gN 9)) (bP (Bu (aD (ak dD (ak av (ak av (ak av (af 4) (af 8)) (fC (.int 1))) (af 1)) (af 9))) (aD (ak dD (ak av (ak av (ak av (af 5) (af 8)) (fC (.int 1))) (af 1)) (af 9)))) (lE (iu isRef iy (af 6) (aa (af 8) ag))) aQ)
noncomputable def wJ (a:Fn):FS:=ax (fg (ui (ao a (aa (af 0) (aa (af 1) ag)))) (gT 2 (cu (gN 7) (cu (gN 8) gw))) Nu) (aI (rO (af 6)))
noncomputable def Nv (num a b:Fn):FS:=ax (bP (aD (ak oEq (ao num (aa (af 0) (aa (fC (.str "toggles")) ag))) (fC (.int 1)))) (aF (bq iZ (bW (ao a (aa (af 0) (aa (af 1) ag)))) [none,none,some 4,some 5] (gN 1) GO (af 1)) (gN 6)) aQ) (wJ b)
noncomputable def pf (num a b c:Fn):FS:=ax (aF (ao a (aa (af 0) ag)) (gN 3)) (ax (aF (cR (af 2) (aY (ak bJ (pM lG (fC (.int 2))) (af 3))) (aY (pM lG (af 3)))) (gN 4)) (ax (aF (cR (af 2) (aY (pM lG (af 3))) eh) (gN 5)) (ax (aF (aJ mkRef ag) (gN 6)) (Nv num b c))))
section
variable {n o tg sh:Nat}{m:D}{ks fs ss:List D}{g:G}{num hands bp aG:Fn}
theorem ne_int {i j:Int}:dD (.int i) (.int j) g=some (.bl (decide (i≠j)),g):=by
 by_cases e:i=j
 . subst e;simp[dD,flat,dep,aH]
 . simp[dD,flat,dep,aH,e]
theorem C7 {xs:List D}{j:Nat}(h:j<xs.length):cA xs j=some (xs.getD j .ay):=gF (by rw[ZQ,Zn h];rfl)
theorem mem_getD {xs:List D}{j:Nat}(h:j<xs.length):xs.getD j .ay∈xs:=by rw[ZQ,Zn h];exact Z6 h
theorem Ay {c:D}{σ:Sg}{b:FE}(j:b σ g=some (c,g)){i:Nat}(k:σ[i]? = some (some (.int o)))(h:SC n c)(f:o<n):ak av (ak av b (fC (.int 1))) (af i) σ g=some (.int (cB c o),g):=by
 have:=h.bit (g:=g) f;simp only[vA,j,Zt,zL,gK,k];cases e:av c (.int 1) g with
 |none=>rw[e]at this;cases this
 |some r =>
  rw[e]at this;have a:r.2=g:=by
   cases h with
   |mk v bs t vw hv hb hw ha=>simp[d9,GN]at e;rw[<- e]
  simp only[Zt]at this ⊢;rw[a]at this;rw[a];simpa using this
theorem Qj {j:Nat}{c d:D}(a:cA fs j=some c)(f:cA ss j=some d)(e:av c (.int 2) g=some (.int (cT c),g))(b:av d (.int 2) g=some (.int (cT d),g)):GO [none,some (.int j),some (.tup fs),some (.tup ss)] g=some (decide (cT c≠cT d),g):=by unfold GO;rw[fH,eB (d:=.int (cT c)) (d':=.int (cT d)) (g1:=g) (g2:=g) (by simp[d9,bb,a,e]) (by simp[d9,bb,f,b]),ne_int];rfl
theorem wK (R:ij n o sh ks fs ss):∀(l:List Nat),(∀j∈l,j<n)->∀o1,cy (gN 1) GO (af 1) (dN l) [none,o1,some (.tup fs),some (.tup ss)] g=some (dN (l.filter λj=>decide (cT (fs.getD j .ay)≠cT (ss.getD j .ay))),g)
 | [],_,_=>rfl
 |j::l,h,o1=>by
  have ih:=wK R l (λi c=>h i (by simp[c])) (some (.int j));have a:=h j (by simp);have q:=(R.fa _ (mem_getD (xs:=fs) (j:=j) (by rw[R.fl];exact a))).Sl (g:=g);have f:=(R.sa _ (mem_getD (xs:=ss) (j:=j) (by rw[R.sl];exact a))).Sl (g:=g);have k:=C7 (xs:=fs) (j:=j) (by rw[R.fl];exact a);have e:=C7 (xs:=ss) (j:=j) (by rw[R.sl];exact a);have b:=Qj (g:=g) k e q f;simp only[dN,aaE]at ih ⊢;simp only[cy];rw[show gN 1 (D.int j) [none,o1,some (.tup fs),some (.tup ss)] g=some ([none,some (.int j),some (.tup fs),some (.tup ss)],g) from rfl];simp only[Zt,b,ih];by_cases hc:cT (fs.getD j .ay)≠cT (ss.getD j .ay)
  . rw[aeR,if_pos (decide_eq_true hc),if_pos (decide_eq_true hc),show af 1 [none,some (D.int j),some (.tup fs),some (.tup ss)] g=some (.int j,g) from rfl,Zt,ih]
    rfl
  . rw[aeR,if_neg (by simpa using hc),if_neg (by simpa using hc)]
theorem Qk {c b:FE}{σ:Sg}{x y z:Int}(f:c σ g=some (.int x,g))(i:b σ g=some (.int y,g))(e:σ[9]? = some (some (.int z))):Bu (aD (ak dD c (af 9))) (aD (ak dD b (af 9))) σ g=some (decide (x≠z)||decide (y≠z),g):=by
 have t1:aD (ak dD c (af 9)) σ g=some (decide (x≠z),g):=by rw[fH,vA,f];simp only[Zt,gK,e,ne_int,d6]
 have a:aD (ak dD b (af 9)) σ g=some (decide (y≠z),g):=by rw[fH,vA,i];simp only[Zt,gK,e,ne_int,d6]
 rw[LR,t1,Zt,a];by_cases h:x≠z
 . rw[if_pos (decide_eq_true h),decide_eq_true h];rfl
 . rw[if_neg (by simpa using h),decide_eq_false h];rfl
theorem Nw {t:FT}{σ:Sg}{b:Bool}{q j:Nat}{L:List Nat}(f:t σ g=some (b,g))(h:σ[6]? = some (some (.ref q)))(i:σ[8]? = some (some (.int j)))(e:g[q]? = some (dN L))(hz:L.length<900):bP t (lE (iu isRef iy (af 6) (aa (af 8) ag))) aQ σ g=some (.nx,σ,g.set q (dN (L++if b then [j]else []))):=by
 have z:aA ((dN L).length+1)=true:=aO (by rw[bY];omega);rw[vB,f];cases b with
 |true =>
  rw[bY]at z;simp[h,i,e,z,dN]
 |false =>
  obtain⟨c,a⟩:=Zq.mp e;simp only[Zt,ZJ,if_false,aaL];rw[<- a,aat];rfl
noncomputable def mE (m:D)(o n q:Nat)(W fs ss:List D)(a b c:Option D):Sg:=[some m,some (.int o),some (.tup W),some (.int n),some (.tup fs),some (.tup ss),some (.ref q),a,b,c]
theorem yK (R:ij n o sh ks fs ss)(A:o<n)(C:n<=5)(B:sh=1):∀(r:Nat) (p:Nat) (L:List Nat) (q:Nat) (g:G) (o7 o8 o9:Option D),p+r=(aB n o sh).length->g[q]? = some (dN L)->L.length+r<=18 ->
  ∃σ',forL (gT 2 (cu (gN 7) (cu (gN 8) gw))) Nu (((dN (aB n o sh)).zipIdx.drop p).map λx=>.tup [.int (x.2:Nat),x.1]) (mE m o n q (cC ks fs ss) fs ss o7 o8 o9) g=some (.nx,σ',g.set q (dN (L++((aB n o sh).drop p).filter λj=>k8 n o sh ks fs ss j)))/\σ'[6]? = some (some (.ref q))
 | 0,p,L,q,g,o7,o8,o9,hp,hq,h=>by have e:(aB n o sh).drop p = []:=acE.mpr (by omega);have e2:(dN (aB n o sh)).zipIdx.drop p = []:=acE.mpr (by simp[bY];omega);refine⟨mE m o n q (cC ks fs ss) fs ss o7 o8 o9,?_,rfl⟩;rw[e,e2];simp only[afU,forL,agS,aaL];obtain⟨h,e3⟩:=Zq.mp hq;rw[<- e3,aat]
 |r+1,p,L,q,g,o7,o8,o9,hp,hq,h=>by
  have a:p<(aB n o sh).length:=by omega
  have k:=Z6 a;generalize c:(aB n o sh)[p]=j at k;obtain⟨_,b,Za⟩:=gP.mp k;have f:p<ks.length:=by rw[R.kl];exact a
  have ek:ks[p]? = some (ks.getD p .ay):=by rw[ZQ,Zn f];rfl
  have y:(aB n o sh).idxOf j=p:=by rw[<- c];exact Nt.idxOf_getElem p a
  have XW:=R.ka _ (mem_getD (xs:=ks) f);have s:=R.fa _ (mem_getD (xs:=fs) (j:=j) (by rw[R.fl];exact b));have XY:=R.sa _ (mem_getD (xs:=ss) (j:=j) (by rw[R.sl];exact b));have x0:(cC ks fs ss)[2*p]? = some (ks.getD p .ay):=by unfold cC;rw[Z3,ZI (by rw[f_];omega)];exact qz ek
  have d1:(aB n o sh).drop p=j::(aB n o sh).drop (p+1):=by rw[aak a,c]
  have d2:(dN (aB n o sh)).zipIdx.drop p=(.int j,p)::(dN (aB n o sh)).zipIdx.drop (p+1):=by rw[aak (by simp[bY];exact a)];congr 1;simp[dN,c]
  have hlen:=(Zq.mp hq).1;have hz:aA ((dN L).length+1)=true:=aO (by rw[bY];omega);have z:sgn n o sh ks j=cB (ks.getD p .ay) o:=by unfold sgn;rw[y]
  have i:=gF x0;rw[show((2*p:Nat):Int)=2*(p:Int) by simp]at i;have om:b_ 2 (p:Int)=true:=rfl;have u:=C7 (xs:=fs) (j:=j) (by rw[R.fl];exact b);have l:=C7 (xs:=ss) (j:=j) (by rw[R.sl];exact b);have step:Nu (mE m o n q (cC ks fs ss) fs ss (some (.int p)) (some (.int j)) o9) g=some (.nx,mE m o n q (cC ks fs ss) fs ss (some (.int p)) (some (.int j)) (some (.int (sgn n o sh ks j))),g.set q (dN (L ++ [j].filter λj=>k8 n o sh ks fs ss j))):=by rw[aeR,agS];unfold k8;rw[decide_eq_true B,Bool.true_and,z];exact aR (Ay (by simp[mE,om,d9,bb,i]) rfl XW A) (Nw (Qk (Ay (by simp[mE,d9,bb,u]) rfl s A) (Ay (by simp[mE,d9,bb,l]) rfl XY A) rfl) rfl rfl hq (by omega))
  obtain⟨σ',e,h6⟩:=yK R A C B r (p+1) (L ++ [j].filter λj=>k8 n o sh ks fs ss j) q (g.set q (dN (L ++ [j].filter λj=>k8 n o sh ks fs ss j))) (some (.int p)) (some (.int j)) (some (.int (sgn n o sh ks j))) (by omega) (Z0 hlen) (by have:=abj (λj=>k8 n o sh ks fs ss j) [j];simp only[ZH,aaz,aeX]at this ⊢;omega)
  refine⟨σ',?_,h6⟩;rw[d2,d1,aaE];simp only[forL];rw[XS];simp only[Zt,mE,afX,aec]at step e ⊢;rw[step];simp only[Zt];rw[e,abV,Z3,<- af4];rfl
end
section
variable {n o tg sh:Nat}{m:D}{ks fs ss:List D}{g:G}{num hands bp aG:Fn}
theorem yL {j:Nat}:j∈hJ n o tg sh ks fs ss ↔ (j∈eL n o/\qA tg fs ss j=true)\/(j∈aB n o sh/\k8 n o sh ks fs ss j=true):=by
 unfold hJ;rw[aa5,aac];constructor
 . rintro⟨h,a|a⟩
   . exact .inl ⟨h,a⟩
   . refine .inr ⟨?_,a⟩
     have:sh=1:=by unfold k8 at a;simp at a;exact a.1
     rw[gP];exact⟨this,js.mp h⟩
 . rintro(⟨h,a⟩|⟨h,a⟩)
   . exact⟨h,.inl a⟩
   . exact⟨js.mpr (gP.mp h).2,.inr a⟩
theorem C8:(hJ n o tg sh ks fs ss).Nodup:=C4.sublist abO
theorem Ny:(hJ n o tg sh ks fs ss).Pairwise (· <= ·):=by
 have:(ZN n).Pairwise (· <= ·):=List.pairwise_lt_range.imp λh=>aco h
 exact(this.sublist (abO (p:=λj=>!(j == o)))).sublist abO
theorem Jr:(hJ n o tg sh ks fs ss).length<=n:=Z4 (abj _ _) k6
structure yM (m:D)(n o tg sh:Nat)(num hands bp aG:Fn):Prop where
 hh:∀g,hands [m] g=some (.int n,g)
 ht:∀g,num [m,.str "toggles"] g=some (.int tg,g)
 ho:∀g,bp [m,.int o] g=some (.lst (dN (eL n o)),g)
 hs:∀g,aG [m,.int o] g=some (.lst (dN (aB n o sh)),g)
 on:o<n
 n5:n<=5
noncomputable def mσ (m:D)(o n:Nat)(ks fs ss:List D)(q:Nat):Sg:=mE m o n q (cC ks fs ss) fs ss none none none
theorem C9 (S:yM m n o tg sh num hands bp aG)(R:ij n o sh ks fs ss){q:Nat}{L:List Nat}(z:g[q]? = some (dN L))(B:L.length<=10)(A:∀j,j∈hJ n o tg sh ks fs ss ↔ j∈L\/(j∈aB n o sh/\k8 n o sh ks fs ss j=true)):∃σ' g',wJ aG (mσ m o n ks fs ss q) g=some (.rt (.lst (dN (hJ n o tg sh ks fs ss))),σ',g'):=by
 have hlen:=(Zq.mp z).1;have fin:∀(a:List Nat) (σ':Sg),σ'[6]? = some (some (.ref q))->a.length<=18->(∀j,j∈hJ n o tg sh ks fs ss ↔ j∈a)->aI (rO (af 6)) σ' (g.set q (dN a))=some (.rt (.lst (dN (hJ n o tg sh ks fs ss))),σ',g.set q (dN a)):=λa σ' c y h=>by
   have e:=Nr h C8 Ny;have h4:=(aeh (bT (λi=>(a.map λ(j:Nat)=>(j:Int)).getD i 0) (a.map λ(j:Nat)=>(j:Int)).length)).length_eq.symm.trans (congrArg ae4 e)
   replace h4:=afV h4
   replace h4:=Z4 h4 (Z4 (Z4 (afV (Z2 _)) (abj _ _)) ((show ∀n,n<=5->∀o,o<n->(eL n o).length<=4 by decide) n S.n5 o S.on))
   have r:fA (dN a)=some (a.map λ(j:Nat)=>(j:Int)):=by have:=ints_map (a.map λ(j:Nat)=>(j:Int));rw[abx]at this;exact this
   rw[xV,Jf,gK,c];simp only[Zt,jh,Z0 hlen,r];have l:∀i,i<(a.map λ(j:Nat)=>(j:Int)).length->0<=(a.map λ(j:Nat)=>(j:Int)).getD i 0/\(a.map λ(j:Nat)=>(j:Int)).getD i 0<=7:=λi b=>by rw[Z2]at b;have:a[i]< n:=(js.mp (aa5.mp ((h _).mpr (Z6 b))).1).1;have:=S.n5;rw[ZQ,ZE,Zn b];exact⟨afY _,by show(a[i]:Int)<=7;omega⟩
   rw[if_pos (decide_eq_true ⟨h4,l⟩),e];simp[dN,abx,aaQ]
 unfold wJ;by_cases u6:sh=1
 . obtain⟨σ',e,c⟩:=yK (m:=m) R S.on S.n5 u6 (aB n o sh).length 0 L q g none none none (by omega) z (by have:=gO (n:=n) (o:=o) (sh:=sh);have:=S.n5;omega)
   rw[acu,acu]at e;refine⟨_,_,bG (σ1:=σ') ?_ (fin (L++(aB n o sh).filter λj=>k8 n o sh ks fs ss j) σ' c ?_ λj=>?_)⟩
   . rw[kN,vI,show ao aG (aa (af 0) (aa (af 1) ag)) (mσ m o n ks fs ss q) g=_ from S.hs g]
     exact e
   . have x:=abj (λj=>k8 n o sh ks fs ss j) (aB n o sh)
     have u:=gO (n:=n) (o:=o) (sh:=sh);have:=S.n5;rw[ZH];omega
   . rw[A j,Zy,aa5]
 . have k:aB n o sh = []:=by unfold aB;rw[if_neg u6]
   have f:=S.hs g;rw[k]at f;refine⟨_,_,bG (σ1:=mσ m o n ks fs ss q) ?_ (fin L _ rfl (by omega) λj=>?_)⟩
   . rw[kN,vI,show ao aG (aa (af 0) (aa (af 1) ag)) (mσ m o n ks fs ss q) g=_ from f]
     obtain⟨B,s⟩:=Zq.mp z;rw[<- s,aat];rfl
   rw[A j,k];simp
theorem Nz (S:yM m n o tg sh num hands bp aG)(R:ij n o sh ks fs ss):aq false 10 3 (pf num hands bp aG) [m,.int o,.tup (cC ks fs ss)] []=some (.lst (dN (hJ n o tg sh ks fs ss)),[]):=by
 have l:1<=n:=by have:=S.on;omega
 have key:∃i f,pf num hands bp aG ([m,.int o,.tup (cC ks fs ss)].map some++ZA (10-3) none) []=some (.rt (.lst (dN (hJ n o tg sh ks fs ss))),i,f):=by
  have x:b_ (-2) (n:Int)=true:=rfl;have r:=C6 (ks:=ks) (a:=-2*(n:Int)) (b:=-(n:Int)) R.fl R.sl l (by omega) rfl;have u:=Ax (ks:=ks) (b:=-(n:Int)) R.fl R.sl l rfl
  suffices h:∃i f,Nv num bp aG (mσ m o n ks fs ss 0) [[]]=some (.rt (.lst (dN (hJ n o tg sh ks fs ss))),i,f) by obtain⟨i,f,h⟩:=h;exact⟨i,f,aR (S.hh []) (aR (d:=.tup fs) (g1:=[]) (by simp[fj,x,r]) (aR (d:=.tup ss) (g1:=[]) (by simp[fj,u]) (aR (d:=.ref 0) (g1:=[[]]) rfl h)))⟩
  by_cases h:tg=1
  . have z:aA (eL n o).length=true:=aO (by have:=k6 (n:=n) (o:=o);have:=S.n5;omega)
    have c:=wK (g:=[[]]) R (eL n o) (λj hj=>(js.mp hj).1) none;have y:(λj=>qA tg fs ss j)=λj=>decide (cT (fs.getD j .ay)≠cT (ss.getD j .ay)):=by funext j;simp[qA,h]
    rw[<- y]at c
    suffices k:∃i f,wJ aG (mσ m o n ks fs ss 1) [[],dN ((eL n o).filter λj=>qA tg fs ss j)]=some (.rt (.lst (dN (hJ n o tg sh ks fs ss))),i,f) by obtain⟨i,f,e⟩:=k;exact⟨i,f,bG ((oZ (g1:=[[]]) (by simp[mσ,mE,S.ht,d6,h])).trans (hG (d:=.ref 1) (by simp[mσ,mE,S.ho,bW,bb,bY,z,bM,c,iZ]))) e⟩
    refine C9 S R (L:=(eL n o).filter λj=>qA tg fs ss j) rfl ?_ λj=>?_
    . have h1:=abj (λj=>qA tg fs ss j) (eL n o)
      have:=k6 (n:=n) (o:=o);have:=S.n5;omega
    . rw[yL,aa5]
  . have s:¬((tg:Int)=1):=by omega
    suffices k:∃i f,wJ aG (mσ m o n ks fs ss 0) [[]]=some (.rt (.lst (dN (hJ n o tg sh ks fs ss))),i,f) by obtain⟨i,f,e⟩:=k;exact⟨i,f,bG ((dh (g1:=[[]]) (by simp[mσ,mE,S.ht,d6,s])).trans rfl) e⟩
    refine C9 S R (L:=[]) rfl (by simp) λj=>?_;rw[yL];simp[qA,h]
 obtain⟨i,f,e⟩:=key;have w:wp (aq false 10 3 (pf num hands bp aG) [m,.int o,.tup (cC ks fs ss)] []) λq=>q=(.lst (dN (hJ n o tg sh ks fs ss)),[]):=by refine jq rfl ?_;rw[e];simp only[fW];refine⟨?_,by simp,by simp,by simp⟩;simp only[bQ];exact d_ _ rR
 obtain⟨q,e,rfl⟩:=w;exact e
end
mutual
theorem gE:∀d:D,flat d=true->j6 d=true
 |.ay,_=>rfl|.bl _,_=>rfl|.int _,_=>rfl|.str _,_=>rfl|.tup xs,h=>by simp only[j6];exact gQ xs (by simpa[flat]using h)|.lst xs,h=>by simp only[j6];exact gQ xs (by simpa[flat]using h)|.dZ,_=>rfl|.ref _,_=>rfl|.aX _,_=>rfl|.fn _ _,h=>by simp[flat]at h
theorem gQ:∀ds:List D,bt ds=true->fL ds=true
 | [],_=>rfl|d::ds,h=>by simp only[bt,Zr]at h;simp only[fL,gE d h.1,gQ ds h.2,ael]
end
theorem fR {ds:List D}(h:∀d∈ds,flat d=true):bt ds=true:=by
 induction ds with
 |nil=>rfl|cons d ds ih=>simp only[bt,h d (by simp),ih λx a=>h x (by simp[a]),ael]
theorem k9 {ds:List D}{k:Nat}(h:∀d∈ds,dep d<=k):da ds<=k:=by
 induction ds with
 |nil=>simp[da]|cons d ds ih=>simp only[da];exact Nat.max_le.mpr ⟨h d (by simp),ih λx a=>h x (by simp[a])⟩
theorem SC.flat {n:Nat}{c:D}(h:SC n c):L3.flat c=true:=by
 cases h with
 |mk v bs t vw hv hb hw ha =>
  have b:bt (bs.map D.int)=true:=fR λd hd=>by obtain⟨i,_,rfl⟩:=ZK.mp hd;rfl
  have a:bt vw=true:=fR λd hd=>(ha d hd).1;simp[L3.flat,bt,hv.1,b,a]
theorem SC.dep {n:Nat}{c:D}(h:SC n c):L3.dep c<=9:=by
 cases h with
 |mk v bs t vw hv hb hw ha =>
  have b:da (bs.map D.int)<=5:=k9 λd hd=>by obtain⟨i,_,rfl⟩:=ZK.mp hd;simp[L3.dep]
  have a:da vw<=5:=k9 λd hd=>Z4 (ha d hd).2 (by decide);have:=hv.2;simp only[L3.dep,da];omega
section
variable {n o sh:Nat}{c:D}{g:G}{ks fs ss:List D}
noncomputable def Az:FE:=ak av (ak av (af 1) (fC (.int 1))) (af 0)
theorem Js (h:SC n c)(f:o<n):dk (bO 1 1 Az) [.int o,c] g=some (.int (cB c o),g):=by
 have a:fL [.int o,c]=true:=by simp[fL,j6,gE c h.flat]
 have b:aN 0 [.int o,c]=true:=by simp[aN,bQ,dG c h.flat]
 have e:bO 1 1 Az [.int o,c] []=some (.int (cB c o),[]):=by unfold bO;rw[if_pos (show [D.int o,c].length=1+1 from rfl)];exact Ay (σ:=[some (.int o),some c]) rfl rfl h f
 unfold dk eU;rw[if_pos a,if_pos b,e];rfl
noncomputable def i9 (R:Str->Option Fn):FS:=ax (aF (ak (bU dF (· / ·)) (ao bz (aa (af 3) ag)) (fC (.int 2))) (gN 4)) (ax (bP (aD (ak oEq (ak (bU dj (· % ·)) (ao bz (aa (af 3) ag)) (fC (.int 2))) (fC (.int 0)))) (aI (aJ az (aa (fC (.str "read")) (aa (ak av (af 0) (af 4)) ag)))) aQ) (aI (aJ az (aa (fC (.str "write")) (aa (ak av (af 1) (af 4)) (aa (eI R 2 (aa (ak av (af 3) (pM lG (fC (.int 1)))) ag)) ag))))))
theorem qB {R:Str->Option Fn}{h i rd:List D}{j d:D}{p:Nat}(l:rd.length=2*p)(k:h[p]? = some d):aq false 5 4 (i9 R) [.lst h,.lst i,j,.tup rd] []=some (.tup [.str "read",d],[]):=by
 have f:((rd.length:Int) / 2)=(p:Int):=by omega
 have a:((rd.length:Int) % 2)=0:=by omega
 have c:aA 2=true:=rfl;have e:dF (rd.length:Int) 2=true:=rfl;have b:dj (rd.length:Int) 2=true:=rfl;refine aM (σ':=[some (.lst h),some (.lst i),some j,some (.tup rd),some (.int p)]) rfl ?_ rfl;have x:=gF k;simp[i9,e,b,f,a,x,c]
theorem tO {R:Str->Option Fn}{fn:Fn}{nm:Str}{cap:List D}{l q rd:List D}{c d b:D}{p:Nat}(hR:R nm=some fn)(s:fn (cap ++ [c]) []=some (b,[]))(r:(rd ++ [c]).length=2*p+1)(u:q[p]? = some d):aq false 5 4 (i9 R) [.lst l,.lst q,.fn nm cap,.tup (rd ++ [c])] []=some (.tup [.str "write",d,b],[]):=by
 have k:rd.length=2*p:=by simpa using r
 have i:(((rd ++ [c]).length:Int) / 2)=(p:Int):=by rw[r];omega
 have e:¬(((rd ++ [c]).length:Int) % 2)=0:=by rw[r];omega
 have a:aA 3=true:=rfl;have h:dF ((rd ++ [c]).length:Int) 2=true:=rfl;have f:dj ((rd ++ [c]).length:Int) 2=true:=rfl;have x:=gF u;have a1:cA (rd ++ [c]) (-1)=some c:=DV rd c;generalize j:rd ++ [c]=W at *;refine aM (σ':=[some (.lst l),some (.lst q),some (.fn nm cap),some (.tup W),some (.int p)]) rfl ?_ rfl;have ec:eI R 2 (aa (ak av (af 3) (pM lG (fC (.int 1)))) ag) [some (.lst l),some (.lst q),some (.fn nm cap),some (.tup W),some (.int p)] []=some (b,[]):=by rw[tL (y:=nm) (ds:=cap) (fn:=fn) rfl hR];simp[d9,bb,a1,s]
 simp[i9,h,f,i,e,x,a,ec]
noncomputable def cg (o j:Nat):D:=.tup [.str "sign",.int o,.int j]
noncomputable def stK (o:Nat)(a:Nat×D):List D:=[.tup [.str "read",own "own" a.1],.tup [.str "write",cg o a.1,.int (cB a.2 o)]]
noncomputable def wM (n o sh:Nat)(ks:List D):List D:=((aB n o sh).zip ks).flatMap (stK o)++yz "own" n++yz "own" n
theorem nZ {o:Nat}:∀{l:List (Nat×D)},(l.flatMap (stK o)).length=2*l.length
 | []=>rfl|x::l=>by rw[aaR,ZH,nZ];simp[stK];omega
theorem wN {o:Nat}:∀{l:List (Nat×D)} {p:Nat} {x:Nat×D},l[p]? = some x->(l.flatMap (stK o))[2*p]? = some (.tup [.str "read",own "own" x.1])
 | [],p,x,h=>by simp at h|y::l,0,x,h=>by simp at h;subst h;rfl|y::l,p+1,x,h=>by have:=wN (o:=o) (l:=l) (p:=p) (x:=x) (by simpa using h);rw[aaR,show 2*(p+1)=(stK o y).length+2*p by simp[stK];omega,ZX (by omega)];simpa using this
theorem yN {o:Nat}:∀{l:List (Nat×D)} {p:Nat} {x:Nat×D},l[p]? = some x->(l.flatMap (stK o))[2*p+1]? = some (.tup [.str "write",cg o x.1,.int (cB x.2 o)])
 | [],p,x,h=>by simp at h|y::l,0,x,h=>by simp at h;subst h;rfl|y::l,p+1,x,h=>by have:=yN (o:=o) (l:=l) (p:=p) (x:=x) (by simpa using h);rw[aaR,show 2*(p+1)+1=(stK o y).length+(2*p+1) by simp[stK];omega,ZX (by omega)];simpa using this
theorem ij.zl (R:ij n o sh ks fs ss):((aB n o sh).zip ks).length=(aB n o sh).length:=by rw[acR,R.kl];omega
theorem ij.wl (R:ij n o sh ks fs ss):(cC ks fs ss).length=2*(aB n o sh).length+2*n:=by simp[cC,f_,R.kl,R.fl,R.sl];omega
theorem ij.Ka (R:ij n o sh ks fs ss){i:Nat}(b:1<=n)(a:2*(aB n o sh).length<=i)(f:i<2*(aB n o sh).length+2*n):(wM n o sh ks)[i]? = some (.tup [.str "read",own "own" ((i-2*(aB n o sh).length) % n)]):=by
 unfold wM;rw[Z3,ZX (by rw[nZ,R.zl];exact a),nZ,R.zl];have he:i-2*(aB n o sh).length<2*n:=by omega
 generalize i-2*(aB n o sh).length=e at *;have tI:∀{e:Nat},e<n->(yz "own" n)[e]? = some (.tup [.str "read",own "own" e]):=fun {e} h=>by simp[yz,h]
 by_cases h:e<n
 . rw[ZI (by rw[rP];exact h),adu h];exact tI h
 . rw[ZX (by rw[rP];omega),rP,af5 (by omega),adu (by omega)];exact tI (by omega)
end
noncomputable def EY:FE:=bq bw (bW (af 3)) [none,none] (gN 1) bF (aJ az (aa (fC (.str "own")) (aa (af 1) ag)))
noncomputable def EZ:FE:=bq bw (bW (af 3)) [none,none,some 1] (gN 1) bF (aJ az (aa (fC (.str "sign")) (aa (af 2) (aa (af 1) ag))))
noncomputable def yO (a c b:Fn)(nm:Str):FS:=ax (aF (ao c (aa (af 0) (aa (af 1) ag))) (gN 3)) (ax (bP (aD (ak oLt (ao bz (aa (af 2) ag)) (ak bJ (fC (.int 2)) (ao bz (aa (af 3) ag))))) (ax (aF EY (gN 4)) (ax (aF EZ (gN 5)) (aI (ao (gy b) (aa (af 4) (aa (af 5) (aa (lR nm [1]) (aa (af 2) ag)))))))) aQ) (aI (aJ az (aa (fC (.str "read")) (aa (aJ az (aa (fC (.str "own")) (aa (ak (bU dj (· % ·)) (ak (bU di (· - ·)) (ao bz (aa (af 2) ag)) (ak bJ (fC (.int 2)) (ao bz (aa (af 3) ag)))) (ao a (aa (af 0) ag))) ag))) ag)))))
section
variable {n o tg sh:Nat}{m:D}{ks fs ss:List D}{g:G}{num hands bp aG:Fn}
theorem ij.flat (R:ij n o sh ks fs ss):∀x∈cC ks fs ss,L3.flat x=true:=λx a=>by
 unfold cC dI at a;rcases Zy.mp a with a|a
 . rcases Zy.mp a with a|a
   . obtain⟨c,b,a⟩:=adv.mp a
     simp only[Zx,aaF,or_false]at a;rcases a with rfl|rfl
     . exact(R.ka _ b).flat
     . rfl
   . exact(R.fa _ a).flat
 . exact(R.sa _ a).flat
theorem NA {S:List Nat}(hz:S.length<=20){σ:Sg}(i:σ[3]? = some (some (.lst (dN S)))):EY σ g=some (.lst (S.map λj=>own "own" j),g):=by
 have b:aA S.length=true:=aO (by omega);have f:aA 2=true:=rfl;have c:=cM (t:=gN 1) (c:=bF) (e:=aJ az (aa (fC (.str "own")) (aa (af 1) ag))) (h:=λd=>D.tup [.str "own",d]) (λσ=>∃a,σ = [none,a]) (dN S) [none,none] g ⟨_,rfl⟩ (by rintro t hm σ ⟨a,rfl⟩;exact⟨[none,some t],by simp,by simp,by simp[f],_,rfl⟩)
 simp[EY,i,bW,bb,bY,bM,c,bw,b];simp[dN,own,aaQ]
theorem NB {S:List Nat}(hz:S.length<=20){σ:Sg}(i:σ[1]? = some (some (.int o)))(k:σ[3]? = some (some (.lst (dN S)))):EZ σ g=some (.lst (S.map λj=>cg o j),g):=by
 have f:aA S.length=true:=aO (by omega);have b:aA 3=true:=rfl;have c:=cM (t:=gN 1) (c:=bF) (e:=aJ az (aa (fC (.str "sign")) (aa (af 2) (aa (af 1) ag)))) (h:=λd=>D.tup [.str "sign",.int o,d]) (λσ=>∃a,σ = [none,a,some (.int o)]) (dN S) [none,none,some (.int o)] g ⟨_,rfl⟩ (by rintro t hm σ ⟨a,rfl⟩;exact⟨[none,some t,some (.int o)],by simp,by simp,by simp[b],_,rfl⟩)
 simp[EZ,i,k,bW,bb,bY,bM,c,bw,f];simp[dN,cg,aaQ]
theorem iC {fn:Fn}{ds:List D}{d:D}(c:aN 0 ds=true)(b:fn ds []=some (d,[]))(a:flat d=true):gy fn ds g=some (d,g):=by unfold gy eU;rw[if_pos c,b];simp only[Zt];rw[if_pos (dG d a)];simp only[Zt];rw[if_pos (gE d a)]
theorem Ql {A:Str->Option Fn}{nm:Str}(hR:A nm=some (dk (bO 1 1 Az)))(S:yM m n o tg sh num hands bp aG)(R:ij n o sh ks fs ss){i:Nat}(B:i<2*(aB n o sh).length+2*n):
   ∃x,(wM n o sh ks)[i]? = some x/\aq false 6 3 (yO hands aG (aq false 5 4 (i9 A)) nm) [m,.int o,.tup ((cC ks fs ss).take i)] g=some (x,g):=by
 have u:=R.wl;have n5:=S.n5;have q:1<=n:=by have:=S.on;omega
 have sl:=gO (n:=n) (o:=o) (sh:=sh);have lt:((cC ks fs ss).take i).length=i:=by rw[aah,u];omega
 have f:b_ 2 ((aB n o sh).length:Int)=true:=rfl;by_cases h:i<2*(aB n o sh).length
 . have b:i / 2<(aB n o sh).length:=by omega
   have c:i / 2<ks.length:=by rw[R.kl];exact b
   have k:((aB n o sh).zip ks)[i / 2]? = some ((aB n o sh)[i / 2],ks[i / 2]):=by rw[acQ];exact⟨Zn b,Zn c⟩
   have a1:aN 0 ((aB n o sh).map λj=>own "own" j)=true:=gM λx a=>by obtain⟨j,_,rfl⟩:=ZK.mp a;rfl
   have a2:aN 0 ((aB n o sh).map λj=>cg o j)=true:=gM λx a=>by obtain⟨j,_,rfl⟩:=ZK.mp a;rfl
   have s:aN 0 ((cC ks fs ss).take i)=true:=gM λx a=>dG x (R.flat x (aaJ a));obtain⟨x,y,z,a⟩:∃x,(((aB n o sh).zip ks).flatMap (stK o))[i]? = some x/\L3.flat x=true/\aq false 5 4 (i9 A) [.lst ((aB n o sh).map λj=>own "own" j),.lst ((aB n o sh).map λj=>cg o j),.fn nm [.int o],.tup ((cC ks fs ss).take i)] []=some (x,[]):=by
     by_cases he:i % 2=0
     . have:=wN (o:=o) k
       rw[show 2*(i / 2)=i by omega]at this;exact⟨_,this,rfl,qB (p:=i / 2) (by rw[lt];omega) (by rw[ZE,Zn b];rfl)⟩
     . have r:(cC ks fs ss)[2*(i / 2)]? = some ks[i / 2]:=by
         unfold cC;rw[Z3,ZI (by rw[f_];omega)];exact qz (Zn c)
       have e:(cC ks fs ss).take i=(cC ks fs ss).take (2*(i / 2)) ++ [ks[i / 2]]:=by
         conv=>lhs;rw[show i=2*(i / 2)+1 by omega]
         rw[ad0,r];rfl
       have:=yN (o:=o) k;rw[show 2*(i / 2)+1=i by omega]at this;refine⟨_,this,rfl,?_⟩;rw[e];refine tO (p:=i / 2) hR (Js (R.ka _ (Z6 c)) S.on) ?_ ?_
       . rw[<- e,lt];omega
       . rw[ZE,Zn b];rfl
   refine⟨x,?_,?_⟩
   . unfold wM
     rw[Z3,ZI (by rw[nZ,R.zl];exact h)];exact y
   generalize (cC ks fs ss).take i=W at *;refine aM rfl (aR (S.hs g) (nz ((oZ (g1:=g) ?_).trans (aR (NA (by omega) rfl) (aR (NB (o:=o) (by omega) rfl rfl) (cF (iC (by simp[aN,bQ,a1,a2,s]) a z))))))) rfl;simp[bY,f,d6,lt];omega
 . refine⟨_,R.Ka q (by omega) B,?_⟩
   have l:aA 2=true:=rfl;have Nn:dj ((i:Int)-2*((aB n o sh).length:Int)) (n:Int)=true:=fO (by omega);have em:((i:Int)-2*((aB n o sh).length:Int)) % (n:Int)=(((i-2*(aB n o sh).length) % n:Nat):Int):=by rw[show(i:Int)-2*((aB n o sh).length:Int)=((i-2*(aB n o sh).length:Nat):Int) by omega];exact(Int.natCast_emod _ _).symm
   have NC:¬((i:Int)<2*((aB n o sh).length:Int)):=by omega
   generalize (cC ks fs ss).take i=W at *;refine aM rfl (aR (S.hs g) (bG (g1:=g) ((dh (g1:=g) (by simp[bY,f,d6,lt,NC])).trans rfl) (cF ?_))) rfl;simp[bY,f,lt,S.hh g,Nn,em,l,own]
end
abbrev R3:=List D×List D×List D
noncomputable def cL (r:R3):List D:=cC r.1 r.2.1 r.2.2
noncomputable def bV (n o sh:Nat):Nat:=2*(aB n o sh).length+2*n
noncomputable def UR:FS:=aI (aJ az (aa (aJ az (aa (fC (.str "told")) (aa (ak av (ak av (af 7) (ak av (af 5) (fC (.int 1)))) (fC (.int 3))) ag))) (aa (af 6) ag)))
noncomputable def ND:FS:=ax (bP (aD (ak kO (ak av (af 5) (fC (.int 1))) (fC .ay))) (aI (aJ az (aa (aJ az (aa (fC (.str "told")) (aa (ao fG (aa (bq bw (bW (af 7)) [none,none] (gN 1) bF (ak av (af 1) (fC (.int 0)))) ag)) ag))) (aa (af 6) ag)))) aQ) UR
noncomputable def US:FS:=ax (aF (cR (af 2) (aY (ak (bU di (· - ·)) (af 6) (af 3))) (aY (af 6))) (gN 7)) ND
noncomputable def UT:FS:=ax (aF (ak aT (ak av (af 5) (fC (.int 0))) (af 4)) (gN 6)) US
noncomputable def NF (rstep:Fn):FS:=ax (bP (aD (ak kO (af 5) (fC .ay))) (aI (aJ az (aa (ao rstep (aa (af 0) (aa (af 1) (aa (cR (af 2) (aY (ak bJ (ak (bU dF (· / ·)) (ao bz (aa (af 2) ag)) (af 4)) (af 4))) eh) ag)))) (aa (ao bz (aa (af 2) ag)) ag)))) aQ) UT
noncomputable def UU (num a rstep:Fn)(nm:Str):FS:=ax (aF (ao (gy a) (aa (af 4) (aa (af 4) (aa (ao num (aa (af 0) (aa (fC (.str "moves")) ag))) (aa (af 2) (aa (lR nm [0,1]) ag)))))) (gN 5)) (NF rstep)
noncomputable def yP (num a c b rstep:Fn)(nm:Str):FS:=ax (aF (ao a (aa (af 0) ag)) (gN 3)) (ax (aF (ak aT (ak bJ (fC (.int 2)) (ao bz (aa (ao c (aa (af 0) (aa (af 1) ag))) ag))) (ak bJ (fC (.int 2)) (af 3))) (gN 4)) (UU num b rstep nm))
noncomputable def tP (a:Fn):FE:=ao a (aa (af 0) (aa (af 1) (aa (af 2) ag)))
section
variable {n o tg sh mo:Nat}{m:D}{g:G}{num hands bp aG:Fn}{rs:List R3}
structure oG (n o sh:Nat)(rs:List R3):Prop where
 all:∀r∈rs,ij n o sh r.1 r.2.1 r.2.2
 oF:rs.length<=20
noncomputable def mF (n o tg sh:Nat)(r:R3):List Nat:=hJ n o tg sh r.1 r.2.1 r.2.2
theorem oG.So (S:yM m n o tg sh num hands bp aG)(y:flat m=true)(W:oG n o sh rs):yH (dk (bO 2 1 (tP (aq false 10 3 (pf num hands bp aG))))) [m,.int o] (bV n o sh) (rs.map cL) (rs.map (mF n o tg sh)):=by
 have x:1<=n:=by have:=S.on;omega
 refine⟨λw hw=>?_,by simp,by unfold bV;omega,by simpa using W.oF,λi k=>?_⟩
 . obtain⟨r,j,rfl⟩:=ZK.mp hw
   exact(W.all r j).wl
 . have a:i<rs.length:=by simpa using k
   have h:(rs.map cL).getD i []=cL rs[i]:=by simp[ZQ,ZE,Zn a]
   have s:(rs.map (mF n o tg sh)).getD i []=mF n o tg sh rs[i]:=by simp[ZQ,ZE,Zn a]
   have R:=W.all _ (Z6 a);rw[h,s];refine⟨λg=>?_,C8,by have:=Jr (n:=n) (o:=o) (tg:=tg) (sh:=sh) (ks:=rs[i].1) (fs:=rs[i].2.1) (ss:=rs[i].2.2);have:=S.n5;show(hJ _ _ _ _ _ _ _).length<=20;omega⟩;have b:bt (cL rs[i])=true:=fR R.flat;have c:fL ([m,.int o] ++ [.tup (cL rs[i])])=true:=by simp[fL,j6,gE m y,gQ _ b]
   have f:aN 0 ([m,.int o] ++ [.tup (cL rs[i])])=true:=by simp[aN,bQ,dG m y,d_ _ b]
   have e:bO 2 1 (tP (aq false 10 3 (pf num hands bp aG))) ([m,.int o] ++ [.tup (cL rs[i])]) []=some (.lst (dN (mF n o tg sh rs[i])),[]):=by unfold bO;rw[if_pos (show([m,.int o] ++ [.tup (cL rs[i])]:List D).length=2+1 from rfl)];exact Nz S R
   have fl:=rR (l:=mF n o tg sh rs[i]);have q:bQ 0 (.lst (dN (mF n o tg sh rs[i])))=true:=by simp only[bQ];exact d_ _ fl
   have u:j6 (.lst (dN (mF n o tg sh rs[i])))=true:=by simp only[j6];exact gQ _ fl
   unfold dk eU;rw[if_pos c,if_pos f,e];simp only[Zt];rw[if_pos q];simp only[Zt];rw[if_pos u]
structure C_ (m:D)(n o tg sh mo:Nat)(num hands bp aG:Fn)(R R':Str->Option Fn)(nm nD:Str):Prop where
 S:yM m n o tg sh num hands bp aG
 hm:∀g,num [m,.str "moves"] g=some (.int mo,g)
 fm:flat m=true
 h1:R nm=some (dk (bO 2 1 (tP (aq false 10 3 (pf num hands bp aG)))))
 h2:R' nD=some (dk (bO 1 1 Az))
variable {R R':Str->Option Fn}{nm nD:Str}
theorem yQ (F:C_ m n o tg sh mo num hands bp aG R R' nm nD){c rstep:Fn}{rd:List D}{en:D}(f:gy c [.int (bV n o sh),.int (bV n o sh),.int mo,.tup rd,.fn nm [m,.int o]] g=some (en,g)):
   yP num hands aG c rstep nm ([m,.int o,.tup rd].map some++ZA (8-3) none) g=NF rstep [some m,some (.int o),some (.tup rd),some (.int n),some (.int (bV n o sh)),some en,none,none] g:=by
 have e:(2*((aB n o sh).length:Int)+2*(n:Int))=((bV n o sh:Nat):Int):=by unfold bV;omega
 refine aR (F.S.hh g) (aR (d:=.int (bV n o sh)) (g1:=g) ?_ (aR (d:=en) (g1:=g) ?_ rfl))
 . have b:b_ 2 ((aB n o sh).length:Int)=true:=rfl
   have a:b_ 2 (n:Int)=true:=rfl;simp[F.S.hs g,bY,b,a,e]
 . simp[F.hm g,lR,rG,f]
theorem yR (S:yM m n o tg sh num hands bp aG):1<=bV n o sh:=by have:=S.on;unfold bV;omega
theorem Jt (W:oG n o sh rs){rest:List D}(c:∀x∈rest,flat x=true):bt ((rs.map cL).flatten++rest)=true:=fR λx a=>by
 rcases Zy.mp a with a|a
 . obtain⟨w,hw,a⟩:=List.mem_flatten.mp a
   obtain⟨r,b,rfl⟩:=ZK.mp hw;exact(W.all r b).flat x a
 . exact c x a
theorem De (W:oG n o sh rs){rest:List D}:((rs.map cL).flatten++rest).length=rs.length*bV n o sh+rest.length:=by rw[ZH,gC (n:=bV n o sh) (λw hw=>by obtain⟨r,a,rfl⟩:=ZK.mp hw;exact(W.all r a).wl),Z2]
theorem tR (F:C_ m n o tg sh mo num hands bp aG R R' nm nD)(W:oG n o sh rs){rest:List D}(a:∀x∈rest,flat x=true):aN 0 [.int (bV n o sh),.int (bV n o sh),.int mo,.tup ((rs.map cL).flatten++rest),.fn nm [m,.int o]]=true:=by have:=d_ (n:=0) _ (Jt W a);simp[aN,bQ,dG m F.fm];simpa using this
theorem Df (F:C_ m n o tg sh mo num hands bp aG R R' nm nD)(W:oG n o sh rs){r:R3}(z:ij n o sh r.1 r.2.1 r.2.2){i:Nat}(A:i<bV n o sh)(B:∀k,k<rs.length->nY (.int mo) (rs.map (mF n o tg sh)) k):
  ∃x u,(wM n o sh r.1)[i]? = some x/\aq false 8 3 (yP num hands aG (aq false 10 5 (cI R)) (aq false 6 3 (yO hands aG (aq false 5 4 (i9 R')) nD)) nm) [m,.int o,.tup ((rs.map cL).flatten++(cL r).take i)] g=some (.tup [x,u],g):=by
 have sp:=yR F.S;have fr:∀x∈(cL r).take i,flat x=true:=λx a=>z.flat x (aaJ a);have lt:((cL r).take i).length=i:=by rw[aah,show(cL r).length=bV n o sh from z.wl];omega
 have f:=qx (rest:=(cL r).take i) (mv:=.int mo) F.h1 (W.So F.S F.fm) rfl (by rw[lt];exact A) (λk e=>B k (by simpa using e));have j:=iC (g:=g) (tR F W fr) f rfl;obtain⟨x,a,ex⟩:=Ql (g:=g) F.h2 F.S z (i:=i) A;refine⟨x,.int ((rs.length*bV n o sh+i:Nat):Int),a,?_⟩;have len:=De W (rest:=(cL r).take i);rw[lt]at len;have cut:cutD ((rs.map cL).flatten++(cL r).take i) (some ((rs.length*bV n o sh:Nat):Int)) none=(cL r).take i:=by unfold cutD;rw[HT.ly,jJ (by rw[len];omega),iX (n:=bV n o sh) (λw hw=>by obtain⟨q,l,rfl⟩:=ZK.mp hw;exact(W.all q l).wl) (by simp)];rw[show List.drop rs.length (rs.map cL)= [] from acE.mpr (by simp),abS,abh,len];exact aal (by rw[lt];omega)
 have h:((rs.length*bV n o sh+i:Nat):Int) / (bV n o sh:Int)*(bV n o sh:Int)=((rs.length*bV n o sh:Nat):Int):=by
  have:(rs.length*bV n o sh+i) / bV n o sh=rs.length:=by rw[adM,Nat.mul_add_div (by omega),agE A];omega
  rw[<- agF,this];simp
 have y:bV n o sh<=20:=by have:=F.S.n5;have:=gO (n:=n) (o:=o) (sh:=sh);unfold bV;omega
 generalize (rs.map cL).flatten++(cL r).take i=RD at *;change aq _ _ _ _ [m,.int o,.tup ((cL r).take i)] g=_ at ex;have st:=yQ (rstep:=aq false 6 3 (yO hands aG (aq false 5 4 (i9 R')) nD)) F j;generalize rs.length*bV n o sh+i=L at *;generalize rs.length*bV n o sh=U at *;generalize bV n o sh=p at *;have s:dF L p=true:=iB (by omega) (by omega);have b:b_ ((L:Int) / p) p=true:=iA (by omega) (by omega);have c:aA 2=true:=rfl;refine aM rfl (st.trans (eE (g1:=g) rfl ?_)) rfl;simp[len,s,b,h,fj,cut,ex,c]
theorem E2 (W:oG n o sh rs){r:R3}(j:ij n o sh r.1 r.2.1 r.2.2){rest:List D}:cutD (((rs ++ [r]).map cL).flatten++rest) (some (((rs.length+1)*bV n o sh-n:Nat):Int)) (some (((rs.length+1)*bV n o sh:Nat):Int))=r.2.2:=by
 have i:((rs.map cL).flatten++cL r).length=(rs.length+1)*bV n o sh:=by rw[De W,show(cL r).length=bV n o sh from j.wl,aau];omega
 have e:((rs ++ [r]).map cL).flatten++rest=((rs.map cL).flatten++(dI r.1++r.2.1))++(r.2.2++rest):=by simp[cL,cC]
 have b:n<=bV n o sh:=by unfold bV;omega
 have f:n<=(rs.length+1)*bV n o sh:=by rw[aau];omega
 have a:((rs.map cL).flatten++(dI r.1++r.2.1)).length=(rs.length+1)*bV n o sh-n:=by
  have h:((rs.map cL).flatten++cL r).length=((rs.map cL).flatten++(dI r.1++r.2.1)).length+n:=by simp only[cL,cC,ZH,j.sl];omega
  omega
 have c:(((rs ++ [r]).map cL).flatten++rest).length>=(rs.length+1)*bV n o sh:=by rw[e,ZH,a,ZH,j.sl];omega
 unfold cutD;rw[jJ (by omega),vC (by omega),e,<- a,acx,show(rs.length+1)*bV n o sh-((rs.map cL).flatten++(dI r.1++r.2.1)).length=r.2.2.length by rw[a,j.sl];omega,adZ]
noncomputable def l6 (ss:List D):Option Nat->D
 |none=>.tup (ss.map cV)|some j=>cW (ss.getD j .ay)
theorem Dg (F:C_ m n o tg sh mo num hands bp aG R R' nm nD)(W:oG n o sh rs){r:R3}(A:ij n o sh r.1 r.2.1 r.2.2)(I:rs.length<20){rest:List D}(C:∀x∈rest,flat x=true){en:Option Nat}(E:∀k,k<rs.length->nY (.int mo) ((rs ++ [r]).map (mF n o tg sh)) k)(H:uG (.int mo) ((rs ++ [r]).map (mF n o tg sh)) rs.length en)(B:∀j,en=some j->j<n){rstep:Fn}:
  aq false 8 3 (yP num hands aG (aq false 10 5 (cI R)) rstep nm) [m,.int o,.tup (((rs ++ [r]).map cL).flatten++rest)] g=some (.tup [.tup [.str "told",l6 r.2.2 en],.int (((rs.length+1)*bV n o sh:Nat):Int)],g):=by
 have sp:=yR F.S;have W':oG n o sh (rs ++ [r]):=⟨λq f=>by
  rcases Zy.mp f with f|f
  . exact W.all q f
  . simp at f;subst f;exact A,by simp;omega⟩
 have lw:((rs ++ [r]).map cL).length=rs.length+1:=by simp
 have s:=qy (rest:=rest) (mv:=.int mo) (en:=en) F.h1 (W'.So F.S F.fm) rfl (by omega) (λk hk=>E k (by rw[lw]at hk;omega)) (by rw[lw,af6];exact H);rw[lw,af6]at s;have hl:=iC (g:=g) (tR F W' C) s (by cases en<;>rfl);have hn:n<=bV n o sh:=by unfold bV;omega
 have cut:=E2 W A (rest:=rest);have l:aA 2=true:=rfl;have e6:((rs.length*bV n o sh:Nat):Int)+(bV n o sh:Int)=(((rs.length+1)*bV n o sh:Nat):Int):=by rw[aau];omega
 have e7:(((rs.length+1)*bV n o sh:Nat):Int)-(n:Int)=(((rs.length+1)*bV n o sh-n:Nat):Int):=by
  have:n<=(rs.length+1)*bV n o sh:=by rw[aau];omega
  omega
 generalize ((rs ++ [r]).map cL).flatten++rest=RD at *;generalize (rs.length+1)*bV n o sh=U at *;generalize rs.length*bV n o sh=S at *;rw[<- e7]at cut;have a0:∀a b:D,cA [a,b] 0=some a:=λ_ _=>rfl;have a1:∀a b:D,cA [a,b] 1=some b:=λ_ _=>rfl;obtain⟨σ,st,i,v6,u⟩:∃σ:Sg,yP num hands aG (aq false 10 5 (cI R)) rstep nm ([m,.int o,.tup RD].map some++ZA (8-3) none) g=ND σ g/\σ[5]? = some (some (.tup [.int S,eD en]))/\σ[6]? = some (some (.int U))/\σ[7]? = some (some (.tup r.2.2)):=
  ⟨_,(yQ F hl).trans (bG rfl (aR (d:=.int U) (g1:=g) (by simp[d9,bb,a0,e6]) (aR (d:=.tup r.2.2) (g1:=g) (by simp[fj,cut]) rfl))),rfl,rfl,rfl⟩
 cases en with
 |none =>
  refine aM rfl (st.trans (eE (g1:=g) (by simp[i,d9,bb,a1,eD,fV]) ?_)) rfl;have zs:aA r.2.2.length=true:=aO (by rw[A.sl];have:=F.S.n5;omega);have c:=cM (t:=gN 1) (c:=bF) (e:=ak av (af 1) (fC (.int 0))) (h:=cV) (λσ=>∃a,σ = [none,a]) r.2.2 [none,none] g ⟨_,rfl⟩ (by rintro t hm σ ⟨a,rfl⟩;exact⟨[none,some t],by simp,by simp,(A.sa t hm).val,⟨_,rfl⟩⟩)
  simp[v6,u,bW,bb,bM,zs,c,bw,l,l6]
 |some j =>
  have z:j<r.2.2.length:=by rw[A.sl];exact B j rfl
  have x:=C7 z;have sc:=(A.sa _ (mem_getD z)).view (g:=g);refine aM rfl (st.trans (bG (σ1:=σ) (g1:=g) (by simp[i,d9,bb,a1,eD,fV]) (cF ?_))) rfl;show _=some (D.tup [.tup [.str "told",cW (r.2.2.getD j .ay)],.int U],g);generalize r.2.2.getD j .ay=y at *;simp[i,v6,u,d9,bb,a1,eD,x,sc,l]
end
end Wg
namespace Qs
open L3 L2 RI Pd Wd Wg SJ
theorem wO {t:FG}{c:FT}{e:FE}{g:G}(P:Sg->Prop):∀(ds:List D) (σ:Sg),P σ->(∀d∈ds,∀σ,P σ->∃σ1,t d σ g=some (σ1,g)/\c σ1 g=some (false,g)/\P σ1)->cy t c e ds σ g=some ([],g)
 | [],_,_,_=>rfl|d::ds,σ,h,k=>by obtain⟨σ1,i,a,b⟩:=k d (by simp) σ h;have ih:=wO (e:=e) P ds σ1 b λx f=>k x (by simp[f]);simp[cy,i,a,ih]
theorem yS {t:FG}{b:FS}{g:G}(P:Sg->Prop):∀(ds:List D) (σ:Sg),P σ->(∀d∈ds,∀σ,P σ->∃σ1 σ2,t d σ g=some (σ1,g)/\b σ1 g=some (.nx,σ2,g)/\P σ2)->∃σ',forL t b ds σ g=some (.nx,σ',g)/\P σ'
 | [],σ,h,_=>⟨σ,rfl,h⟩|d::ds,σ,h,k=>by obtain⟨σ1,σ2,j,c,f⟩:=k d (by simp) σ h;obtain⟨σ',e,a⟩:=yS (b:=b) P ds σ2 f λx i=>k x (by simp[i]);exact⟨σ',by simp[forL,j,c,e],a⟩
theorem Dh {ks r:List D}{g:G}(o:ks.length<=20):rn (.tup (dI ks++r)) none (some ((2*ks.length:Nat):Int)) (some 2) g=some (.tup ks,g):=by
 have hw:(dI ks).length=2*ks.length:=f_;have len:(dI ks++r).length=2*ks.length+r.length:=by rw[ZH,hw]
 have f:(bu (2*ks.length+r.length) none (some ((2*ks.length:Nat):Int)) 2).2=ks.length:=by simp only[bu,aaI,aaY];simp;split<;>omega
 have e:(bu (2*ks.length+r.length) none (some ((2*ks.length:Nat):Int)) 2).1=0:=by simp only[bu,aaI,aaY];simp
 have i:aA ks.length=true:=aO (by omega);unfold rn;simp only[len,f,i,e];rw[if_pos (by decide)];congr 3;unfold fX;have:∀(l:List Nat) (a b:Nat->Option D),(∀k∈l,a k=b k)->l.filterMap a=l.filterMap b:=λl a b h=>by
  induction l with
  |nil=>rfl|cons x r ih=>rw[aax,aax,h x (by simp),ih λk c=>h k (by simp[c])]
 rw[this _ _ (λk=>ks[k]?) λk c=>by rw[aap]at c;rw[show((0:Int)+(k:Int)*2).toNat=2*k by omega,ZI (by omega),Zn c];exact qz (Zn c)]
 have j:∀(xs:List D),(ZN xs.length).filterMap (λk=>xs[k]?)=xs:=λxs=>by
  induction xs with
  |nil=>rfl
  |cons x xs ih =>
   rw[aaz,ae7,aax];simp only[ac8,afS]
   exact congrArg (x :: ·) ih
 exact j ks
def BC (c:D):Prop:=∃v a t,c = .tup [v,.int a,.int t]/\vG v
theorem BC.flat {c:D}(h:BC c):L3.flat c=true:=by obtain⟨v,a,t,rfl,b⟩:=h;simp[L3.flat,bt,b.1]
noncomputable def bI (ks:List Int):List D:=ks.map D.int
noncomputable def bC (ks:List Int)(bs:List D):List D:=dI (bI ks)++bs++bs++bI ks
structure kg (n p o sh:Nat)(ks:List Int)(bs:List D):Prop where
 kl:ks.length=(aB n o sh).length
 bl:bs.length=p
 ba:∀c∈bs,BC c
structure nF (m:D)(n p o tg sh mo:Nat)(num cN bp aG:Fn):Prop where
 hp:∀g,cN [m] g=some (.int p,g)
 ht:∀g,num [m,.str "toggles"] g=some (.int tg,g)
 hm:∀g,num [m,.str "moves"] g=some (.int mo,g)
 ho:∀g,bp [m,.int o] g=some (.lst (dN (eL n o)),g)
 hs:∀g,aG [m,.int o] g=some (.lst (dN (aB n o sh)),g)
 on:o<n
 n5:n<=5
 p1:1<=p
 p4:p<=4
 fm:flat m=true
section
variable {m:D}{n p o tg sh mo:Nat}{num cN bp aG:Fn}{ks:List Int}{bs:List D}{g:G}
theorem kg.wl (R:kg n p o sh ks bs):(bC ks bs).length=3*(aB n o sh).length+2*p:=by simp[bC,f_,bI,R.kl,R.bl];omega
theorem kg.fl (R:kg n p o sh ks bs):∀x∈bC ks bs,L3.flat x=true:=λx a=>by
 have b:∀x∈bI ks,L3.flat x=true:=λx a=>by obtain⟨i,_,rfl⟩:=ZK.mp a;rfl
 simp only[bC,Zy]at a;rcases a with((a|a)|a)|a
 . obtain⟨c,e,a⟩:=adv.mp a
   simp only[Zx,aaF,or_false]at a;rcases a with rfl|rfl
   . exact b _ e
   . rfl
 . exact(R.ba _ a).flat
 . exact(R.ba _ a).flat
 . exact b _ a
noncomputable def k_ (cN aG:Fn):FS:=ax (aF (ak (bU di (· - ·)) (ao bz (aa (af 2) ag)) (ao bz (aa (ao aG (aa (af 0) (aa (af 1) ag))) ag))) (gN 3)) (aI (cR (af 2) (aY (ak (bU di (· - ·)) (af 3) (ao cN (aa (af 0) ag)))) (aY (af 3))))
theorem NL (R:kg n p o sh ks bs):cutD (bC ks bs) (some ((2*(aB n o sh).length+p:Nat):Int)) (some ((2*(aB n o sh).length+2*p:Nat):Int))=bs:=by
 have hw:(dI (bI ks)).length=2*(aB n o sh).length:=by rw[f_,bI,Z2,R.kl]
 have:=kY (rd:=bC ks bs) (s:=2*(aB n o sh).length+p) (m:=p) (by rw[R.wl];omega);rw[show 2*(aB n o sh).length+2*p=2*(aB n o sh).length+p+p by omega,this];have e:bC ks bs=(dI (bI ks)++bs)++(bs++bI ks):=by simp[bC]
 rw[e,show 2*(aB n o sh).length+p=(dI (bI ks)++bs).length by rw[ZH,hw,R.bl],acx,show p=bs.length from R.bl.symm,adZ]
theorem NM (R:kg n p o sh ks bs):cutD (bC ks bs) (some ((2*(aB n o sh).length:Nat):Int)) (some ((2*(aB n o sh).length+p:Nat):Int))=bs:=by
 have hw:(dI (bI ks)).length=2*(aB n o sh).length:=by rw[f_,bI,Z2,R.kl]
 rw[kY (rd:=bC ks bs) (s:=2*(aB n o sh).length) (m:=p) (by rw[R.wl];omega)];have e:bC ks bs=dI (bI ks)++(bs++(bs++bI ks)):=by simp[bC]
 rw[e,<- hw,acx,show p=bs.length from R.bl.symm,adZ]
theorem NN (R:kg n p o sh ks bs):cutD (bC ks bs) (some ((2*(aB n o sh).length+2*p:Nat):Int)) none=bI ks:=by
 have hw:(dI (bI ks)).length=2*(aB n o sh).length:=by rw[f_,bI,Z2,R.kl]
 unfold cutD;rw[HT.ly,jJ (by rw[R.wl];omega)];have e:bC ks bs=(dI (bI ks)++bs++bs)++bI ks:=by simp[bC]
 rw[e,show 2*(aB n o sh).length+2*p=(dI (bI ks)++bs++bs).length by simp[hw,R.bl];omega,acx];exact aal (by simp;omega)
theorem GP (S:nF m n p o tg sh mo num cN bp aG)(R:kg n p o sh ks bs):aq false 4 3 (k_ cN aG) [m,.int o,.tup (bC ks bs)] g=some (.tup bs,g):=by
 have h:=R.wl;have e:((bC ks bs).length:Int)-((aB n o sh).length:Int)=((2*(aB n o sh).length+2*p:Nat):Int):=by rw[h];omega
 have f:((2*(aB n o sh).length+2*p:Nat):Int)-(p:Int)=((2*(aB n o sh).length+p:Nat):Int):=by omega
 have c:=NL R;generalize bC ks bs=W at *;refine aM rfl (aR (d:=.int ((2*(aB n o sh).length+2*p:Nat):Int)) (g1:=g) (by simp[S.hs g,bY,e]) (cF (d:=.tup bs) (g1:=g) ?_)) rfl;generalize i:((2*(aB n o sh).length+2*p:Nat):Int)=a at *;generalize ((2*(aB n o sh).length+p:Nat):Int)=b at *;simp[S.hp g,f,fj,c]
noncomputable def oH (num:Fn):FS:=ax (bP (aD (ak dD (ak av (af 1) (fC (.int 1))) (ak av (af 2) (fC (.int 1))))) (aI (fC (.bl true))) aQ) (aI (uc (ak oEq (ao num (aa (af 0) (aa (fC (.str "toggles")) ag))) (fC (.int 1))) (ak dD (ak av (af 1) (fC (.int 2))) (ak av (af 2) (fC (.int 2))))))
theorem AB {a b c:D}:cA [a,b,c] 1=some b:=rfl
theorem Qm {a b c:D}:cA [a,b,c] 2=some c:=rfl
theorem Qn {a b c:D}:cA [a,b,c] 0=some a:=rfl
theorem ne_self {d:D}(h:L3.flat d=true)(a:L3.dep d<=60):dD d d g=some (.bl false,g):=by simp[dD,h,a,jH d h]
theorem Qo {x:Int}(l:List Nat):∃b,lM (.int x) (.lst (dN l)) g=some (.bl b,g):=by
 have d:da (dN l)<=50:=k9 λy a=>by obtain⟨j,_,rfl⟩:=ZK.mp a;simp[dep]
 exact⟨(dN l).any λy=>aH y (.int x),by simp[lM,oC,bb,F9,L3.flat,rR,d]⟩
theorem Qp (S:nF m n p o tg sh mo num cN bp aG){c:D}(h:BC c):aq false 3 3 (oH num) [m,c,c] g=some (.bl false,g):=by obtain⟨v,a,t,rfl,b⟩:=h;refine aM (σ':=[some m,some (.tup [v,.int a,.int t]),some (.tup [v,.int a,.int t])]) rfl ?_ rfl;unfold oH;by_cases h1:(tg:Int)=1<;>simp[d9,bb,AB,Qm,S.ht g,d6,h1,L3.flat,L3.dep,aH]
noncomputable def wQ:FI:=qb (aa (af 7) (aa (af 8) ag))
noncomputable def AD:FI:=qb (aa (af 3) (aa (vJ (af 2) eh (aY (af 4)) (aY (fC (.int 2)))) (aa (af 5) ag)))
noncomputable def NO:FG:=gT 2 (cu (gN 10) (cu (gN 11) gw))
noncomputable def NP (a:Fn):FS:=bP (qT (aD (ak lM (ak av (af 11) (fC (.int 1))) (af 9))) (oP (ao a (aa (af 0) (aa (af 10) (aa (af 11) ag)))))) (lE (iu isRef iy (af 6) (aa (ak av (af 11) (fC (.int 1))) ag))) aQ
noncomputable def yT (m:D)(n o sh:Nat)(ks:List Int)(bs:List D)(a b:Option D):Sg:=[some m,some (.int o),some (.tup (bC ks bs)),some (.lst (dN (aB n o sh))),some (.int ((2*(aB n o sh).length:Nat):Int)),some (.tup (bI ks)),some (.ref 0),some (.tup bs),some (.tup bs),some (.lst (dN (eL n o))),a,b]
noncomputable def Di (num cN bp aG scF a:Fn):FS:=ax (aF (ao aG (aa (af 0) (aa (af 1) ag))) (gN 3)) (ax (aF (ak bJ (fC (.int 2)) (ao bz (aa (af 3) ag))) (gN 4)) (ax (aF (cR (af 2) (aY (ak (bU di (· - ·)) (ao bz (aa (af 2) ag)) (ao bz (aa (af 3) ag)))) eh) (gN 5)) (ax (aF (bq iZ AD [none,none,none,none] (gT 3 (cu (gN 1) (cu (gN 2) (cu (gN 3) gw)))) (aD (ak dD (af 2) (af 3))) (af 1)) (gN 6)) (ax (aF (cR (af 2) (aY (af 4)) (aY (ak aT (af 4) (ao cN (aa (af 0) ag))))) (gN 7)) (ax (aF (ao scF (aa (af 0) (aa (af 1) (aa (af 2) ag)))) (gN 8)) (ax (aF (ao bp (aa (af 0) (aa (af 1) ag))) (gN 9)) (ax (fg wQ NO (NP a)) (aI (rO (af 6))))))))))
theorem NR {σ:Sg}(b:σ[7]? = some (some (.tup bs)))(a:σ[8]? = some (some (.tup bs))):wQ σ g=some (bs.map λc=>.tup [c,c],g):=by
 have e:jN [bs,bs] bs.length=bs.map λc=>.tup [c,c]:=by
  unfold jN;refine acm λi=>?_;rw[ZE,ZE];by_cases h:i<bs.length
  . rw[abN h,Zn h];simp[h]
  . rw[aaO (by simpa using h),aaO (by omega)];rfl
 unfold wQ;simp[vU,b,a,nT,rD,e]
theorem NS {σ:Sg}{ss:List Nat}{r:List D}(u:ks.length=ss.length)(y:ss.length<=20)(k:σ[2]? = some (some (.tup (dI (bI ks)++r))))(x:σ[3]? = some (some (.lst (dN ss))))(s:σ[4]? = some (some (.int ((2*ss.length:Nat):Int))))(l:σ[5]? = some (some (.tup (bI ks)))):AD σ g=some ((ss.zip ks).map λq=>.tup [.int q.1,.int q.2,.int q.2],g):=by
 have a:(bI ks).length=ss.length:=by rw[bI,Z2,u]
 have pk:=Dh (ks:=bI ks) (r:=r) (g:=g) (by omega);rw[a]at pk;have e:jN [dN ss,bI ks,bI ks] ss.length=(ss.zip ks).map λq=>.tup [.int q.1,.int q.2,.int q.2]:=by
  unfold jN;refine acm λi=>?_;rw[ZE,ZE];by_cases h:i<ss.length
  . have b:i<ks.length:=by omega
    rw[abN h,Zn (show i<(ss.zip ks).length by rw[acR];omega)];simp[h,b,dN,bI]
  . rw[aaO (by simpa using h),aaO (by rw[acR];omega)];rfl
 unfold AD;have f:vJ (af 2) eh (aY (af 4)) (aY (fC (.int 2))) σ g=some (.tup (bI ks),g):=by generalize ((2*ss.length:Nat):Int)=z at *;rw[Ip];simp[k,s,pk]
 have c:af 3 σ g=some (.lst (dN ss),g):=by rw[gK,x]
 have j:af 5 σ g=some (.tup (bI ks),g):=by rw[gK,l]
 rw[vU];simp only[cz,c,f,j,cU,Zt];simp[nT,rD,a,bY,e]
theorem Qq (S:nF m n p o tg sh mo num cN bp aG)(R:kg n p o sh ks bs):aq false 12 3 (Di num cN bp aG (aq false 4 3 (k_ cN aG)) (aq false 3 3 (oH num))) [m,.int o,.tup (bC ks bs)] []=some (.lst [],[]):=by
 have hW:=R.wl;have z:((bC ks bs).length:Int)-((aB n o sh).length:Int)=((2*(aB n o sh).length+2*p:Nat):Int):=by rw[hW];omega
 have e2:(2:Int)*((aB n o sh).length:Int)=((2*(aB n o sh).length:Nat):Int):=by omega
 have e3:((2*(aB n o sh).length:Nat):Int)+(p:Int)=((2*(aB n o sh).length+p:Nat):Int):=by omega
 have om:b_ 2 ((aB n o sh).length:Int)=true:=rfl;have sl:=gO (n:=n) (o:=o) (sh:=sh);have n5:=S.n5;have y:=NN R;have c2:=NM R;have sc:=GP (g:=[[]]) S R;have eW:bC ks bs=dI (bI ks)++(bs++(bs++bI ks)):=by simp[bC]
 have zl:aA ((aB n o sh).zip ks).length=true:=aO (by rw[acR];omega);obtain⟨h,f,k⟩:∃h:Sg,Di num cN bp aG (aq false 4 3 (k_ cN aG)) (aq false 3 3 (oH num)) ([m,.int o,.tup (bC ks bs)].map some++ZA (12-3) none) []=some (.rt (.lst []),h,[[]])/\True:=by
  have z3:=NS (ss:=aB n o sh) (σ:=[some m,some (.int o),some (.tup (bC ks bs)),some (.lst (dN (aB n o sh))),some (.int ((2*(aB n o sh).length:Nat):Int)),some (.tup (bI ks)),none,none,none,none,none,none]) (g:=[]) R.kl (by omega) (by rw[eW];rfl) rfl rfl rfl;have l:cy (gT 3 (cu (gN 1) (cu (gN 2) (cu (gN 3) gw)))) (aD (ak dD (af 2) (af 3))) (af 1) (((aB n o sh).zip ks).map λq=>D.tup [.int q.1,.int q.2,.int q.2]) [none,none,none,none] []=some ([],[]):=by refine wO (λσ=>∃a b c,σ = [none,a,b,c]) _ _ ⟨_,_,_,rfl⟩ ?_;rintro d hd σ ⟨a,b,c,rfl⟩;obtain⟨q,_,rfl⟩:=ZK.mp hd;exact⟨[none,some (.int q.1),some (.int q.2),some (.int q.2)],by simp,by simp[d6,L3.flat,L3.dep,aH],_,_,_,rfl⟩
  have r:=NR (bs:=bs) (σ:=[some m,some (.int o),some (.tup (bC ks bs)),some (.lst (dN (aB n o sh))),some (.int ((2*(aB n o sh).length:Nat):Int)),some (.tup (bI ks)),some (.ref 0),some (.tup bs),some (.tup bs),some (.lst (dN (eL n o))),none,none]) (g:=[[]]) rfl rfl;obtain⟨h,ef,k⟩:=yS (g:=[[]]) (t:=NO) (b:=NP (aq false 3 3 (oH num))) (λσ=>∃a b,σ=yT m n o sh ks bs a b) (bs.map λc=>.tup [c,c]) (yT m n o sh ks bs none none) ⟨_,_,rfl⟩ (by
   rintro d hd σ ⟨a,b,rfl⟩;obtain⟨c,i,rfl⟩:=ZK.mp hd;have ir:=Qp (g:=[[]]) S (R.ba c i);obtain⟨v,x,t,rfl,hv⟩:=R.ba c i;obtain⟨q,hq⟩:=Qo (g:=[[]]) (x:=x) (eL n o);generalize f:yT m n o sh ks bs (some (.tup [v,.int x,.int t])) (some (.tup [v,.int x,.int t]))=σ1;refine⟨σ1,σ1,by subst f;rfl,?_,⟨_,_,f.symm⟩⟩;have e0:af 0 σ1 [[]]=some (m,[[]]):=by subst f;rfl
   have e9:af 9 σ1 [[]]=some (.lst (dN (eL n o)),[[]]):=by subst f;rfl
   have X0:af 10 σ1 [[]]=some (.tup [v,.int x,.int t],[[]]):=by subst f;rfl
   have j:af 11 σ1 [[]]=some (.tup [v,.int x,.int t],[[]]):=by subst f;rfl
   have t1:aD (ak lM (ak av (af 11) (fC (.int 1))) (af 9)) σ1 [[]]=some (q,[[]]):=by have X1:ak av (af 11) (fC (.int 1)) σ1 [[]]=some (.int x,[[]]):=(eB j rfl).trans (by simp[d9,bb,AB]);rw[fH,eB X1 e9,hq];rfl
   have t2:oP (ao (aq false 3 3 (oH num)) (aa (af 0) (aa (af 10) (aa (af 11) ag)))) σ1 [[]]=some (false,[[]]):=by simp only[Ig,fI,cz,e0,X0,j,cU,Zt,ir];rfl
   refine(dh (g1:=[[]]) ?_).trans rfl;rw[xS,t1];cases q
   . rfl
   . exact t2)
  obtain⟨a,b,rfl⟩:=k
  have s:cR (af 2) (aY (ak (bU di (· - ·)) (ao bz (aa (af 2) ag)) (ao bz (aa (af 3) ag)))) eh [some m,some (.int o),some (.tup (bC ks bs)),some (.lst (dN (aB n o sh))),some (.int ((2*(aB n o sh).length:Nat):Int)),none,none,none,none,none,none,none] []=some (.tup (bI ks),[]):=by generalize bC ks bs=W at *;generalize ((2*(aB n o sh).length+2*p:Nat):Int)=a at *;simp[bY,z,fj,y]
  have u:cR (af 2) (aY (af 4)) (aY (ak aT (af 4) (ao cN (aa (af 0) ag)))) [some m,some (.int o),some (.tup (bC ks bs)),some (.lst (dN (aB n o sh))),some (.int ((2*(aB n o sh).length:Nat):Int)),some (.tup (bI ks)),some (.ref 0),none,none,none,none,none] [[]]=some (.tup bs,[[]]):=by generalize bC ks bs=W at *;generalize ((2*(aB n o sh).length:Nat):Int)=a at *;generalize ((2*(aB n o sh).length+p:Nat):Int)=b at *;simp[S.hp,e3,fj,c2]
  have k3:bq iZ AD [none,none,none,none] (gT 3 (cu (gN 1) (cu (gN 2) (cu (gN 3) gw)))) (aD (ak dD (af 2) (af 3))) (af 1) [some m,some (.int o),some (.tup (bC ks bs)),some (.lst (dN (aB n o sh))),some (.int ((2*(aB n o sh).length:Nat):Int)),some (.tup (bI ks)),none,none,none,none,none,none] []=some (.ref 0,[[]]):=by rw[eA,z3];simp only[Zt,Z2,zl,if_true];rw[show bM [none,none,none,none] _ = [none,none,none,none] from rfl,l];rfl
  have kf:fg wQ NO (NP (aq false 3 3 (oH num))) (yT m n o sh ks bs none none) [[]]=some (.nx,yT m n o sh ks bs a b,[[]]):=by rw[kN,show wQ (yT m n o sh ks bs none none) [[]]=_ from r,Zt];exact ef
  refine⟨_,aR (S.hs []) (aR (d:=.int ((2*(aB n o sh).length:Nat):Int)) (g1:=[]) (by simp[bY,om]) (aR s (aR k3 (aR u (aR sc (aR (S.ho [[]]) (bG kf (cF (d:=.lst []) (g1:=[[]]) rfl)))))))),trivial⟩
 have w:wp (aq false 12 3 (Di num cN bp aG (aq false 4 3 (k_ cN aG)) (aq false 3 3 (oH num))) [m,.int o,.tup (bC ks bs)] []) λq=>q=(.lst [],[]):=by refine jq rfl ?_;rw[f];simp only[fW];exact⟨rfl,rfl,by simp,rfl⟩
 obtain⟨q,e,rfl⟩:=w;exact e
end
end Qs
namespace Wd
open L3 L2 RI Pd
noncomputable def qF (value:Fn):FS:=aI (ao fG (aa (bq bw (gI (aa (af 1) ag)) [none,none,some 0] (gN 1) bF (ao value (aa (af 2) ag))) ag))
def n6 (f:Fn):Prop:=∀n (k:Nat) g (B:Int),k<=20->B+3*k<2 ^ 40->Hd g n B->∃(ws:List D) (g':G),f [.ref n,.int k] g=some (.tup ws,g')/\ws.length=k/\(∀w∈ws,vG w)/\Hd g' n (B+3*k)/\Fr n g g'
theorem Dj {value:Fn}(A:nA value):n6 (aq false 2 2 (qF value)):=λn k g B hk hB hd=>by
 have key:wp (aq false 2 2 (qF value) [.ref n,.int k] g) λq=>∃ws:List D,q.1 = .tup ws/\ws.length=k/\(∀w∈ws,vG w)/\Hd q.2 n (B+3*k)/\Fr n g q.2:=by
  refine wp_run rfl ?_;simp[qF];refine j_ ?_;have l:aA k=true:=aO (by omega);simp[dq,l];refine⟨by omega,?_⟩;refine ip (λj acc σ a=>(∃i,σ = [none,i,some (.ref n)])/\(acc.length=j /\ ∀w∈acc,vG w)/\Hd a n (B+3*j)/\Fr n g a) _ 0 _ _ [] ⟨⟨none,rfl⟩,⟨rfl,by simp⟩,by simpa using hd,.refl⟩ ?_ ?_
  . rintro j d acc σ a z ⟨⟨i,rfl⟩,⟨f,h⟩,c,b⟩
    obtain⟨Sk,rfl⟩:=fP z;simp only[aa3]at *;obtain⟨v,g2,u,x,hd2,f2⟩:=A n a _ (by omega) c;simp[u,f];refine⟨λw hw=>?_,hd2.mono (by omega),b.trans f2⟩;rcases hw with hw|rfl
    . exact h w hw
    . exact x
  . rintro xs σ a ⟨_,⟨f,h⟩,c,b⟩
    simp only[abh,dq,aa3]at *;simp[f,l];exact⟨b.1,h,c,b⟩
 obtain⟨⟨d,a⟩,e,ws,rfl,y,o,r,s⟩:=key;exact⟨ws,a,e,y,o,r,s⟩
end Wd
namespace Qs
open L3 L2 RI Pd Wd Wg SJ
inductive MQ
 |once (n:Nat)
 |twice (n tu:Nat)
 |handed (n tu mo:Nat)
 |signs (n tg sh mo:Nat)
 |shared (n p tg sh mo:Nat)
noncomputable def MQ.d:MQ->D
 |.once n=>.tup [.str "once",.int n]|.twice n tu=>.tup [.str "twice",.int n,.int tu]|.handed n tu mo=>.tup [.str "handed",.int n,.int tu,.int mo]|.signs n tg sh mo=>.tup [.str "signs",.int n,.int tg,.int sh,.int mo]|.shared n p tg sh mo=>.tup [.str "shared",.int n,.int p,.int tg,.int sh,.int mo]
noncomputable def MQ.n:MQ->Nat
 |.once n=>n|.twice n _=>n|.handed n _ _=>n|.signs n _ _ _=>n|.shared n _ _ _ _=>n
noncomputable def MQ.p:MQ->Nat
 |.shared _ p _ _ _=>p|M=>M.n
noncomputable def MQ.sh:MQ->Nat
 |.signs _ _ sh _=>sh|.shared _ _ _ sh _=>sh|_=>0
noncomputable def MQ.tu:MQ->Nat
 |.twice _ tu=>tu|.handed _ tu _=>tu|_=>0
structure MQ.Ok (M:MQ):Prop where
 n1:1<=M.n
 n5:M.n<=5
 p1:1<=M.p
 p5:M.p<=5
 s1:M.sh<=1
 t9:M.tu<=9
 p4:∀n p tg sh mo,M = .shared n p tg sh mo->p<=4
noncomputable def two (nm:Str)(i j:Nat):D:=.tup [.str nm,.int i,.int j]
def E3 (M:MQ)(c:D):Prop:=match M with
 |.once _=>vG c|.twice ..=>∃v x,c = .tup [v,.int x]/\vG v|.handed ..=>∃v x ws,c = .tup [v,.int x,.tup ws]/\vG v /\ ∀w∈ws,vG w|M=>SC M.n c
def CK (M:MQ)(k c:D):Prop:=(∀j,k=own "box" j->BC c)/\(∀j,k=own "own" j->E3 M c)/\(∀i j,k=two "call" i j->∃x:Int,c = .int x)
inductive KK (M:MQ):D->Prop
 |box (j:Nat):KK M (own "box" j)
 |own (j:Nat):KK M (own "own" j)
 |view (j:Nat):KK M (own "view" j)
 |call (i j:Nat):KK M (two "call" i j)
 |sign (i j:Nat):KK M (two "sign" i j)
theorem KK.aU {M:MQ}{k:D}(h:KK M k):L3.aU 6 k=true:=by cases h<;>rfl
theorem KK.bQ {M:MQ}{k:D}(h:KK M k):L3.bQ 0 k=true:=by cases h<;>rfl
theorem qG {a b:Str}{i j:Nat}(e:own a i=own b j):a=b/\i=j:=by
 unfold own at e;injection e with e
 injection e with e1 e
 injection e with e2 _
 injection e1 with e1
 injection e2 with e2
 exact⟨e1,by omega⟩
theorem Dk {a b:Str}{i j c j':Nat}(e:two a i j=two b c j'):a=b/\i=c/\j=j':=by
 unfold two at e;injection e with e
 injection e with e1 e
 injection e with e2 e
 injection e with e3 _
 injection e1 with e1
 injection e2 with e2
 injection e3 with e3
 exact⟨e1,by omega,by omega⟩
theorem gh {a b:Str}{i c j':Nat}:own a i≠two b c j':=λe=>by
 unfold own two at e;injection e with e
 injection e with _ e
 injection e with _ e
 cases e
section
variable {M:MQ}{h:Nat}{B:Int}{g:G}{take value places state pick:Fn}
noncomputable def uH (take:Fn):FE:=ao fG (aa (bq bw (gI (aa (af 3) ag)) [none,none,some 0] (gN 1) bF (ao take (aa (af 2) (aa (fC (.int 2)) ag)))) ag)
noncomputable def NT (take value places state:Fn):FS:=ax (oV 3 4 (aa (ak av (af 1) (fC (.int 1))) (aa (ao places (aa (af 1) ag)) ag))) (ax (bP (aD (ak oEq (ak av (af 2) (fC (.int 0))) (fC (.str "view")))) (aI (ao state (aa (af 0) (aa (af 4) ag)))) aQ) (ax (bP (aD (ak lM (ak av (af 2) (fC (.int 0))) (aJ az (aa (fC (.str "call")) (aa (fC (.str "sign")) ag))))) (aI (ao take (aa (af 0) (aa (fC (.int 2)) ag)))) aQ) (ax (bP (aD (ak oEq (ak av (af 2) (fC (.int 0))) (fC (.str "box")))) (aI (aJ az (aa (ao value (aa (af 0) ag)) (aa (ak (bU di (· - ·)) (ao take (aa (af 0) (aa (ak aT (af 3) (fC (.int 1))) ag))) (fC (.int 1))) (aa (ao take (aa (af 0) (aa (fC (.int 2)) ag))) ag))))) aQ) (ax (bP (aD (ak oEq (ak av (af 1) (fC (.int 0))) (fC (.str "once")))) (aI (ao value (aa (af 0) ag))) aQ) (ax (bP (aD (ak oEq (ak av (af 1) (fC (.int 0))) (fC (.str "twice")))) (aI (aJ az (aa (ao value (aa (af 0) ag)) (aa (ao take (aa (af 0) (aa (lJ (ak av (af 1) (fC (.int 2))) (fC (.int 3))) ag))) ag)))) aQ) (ax (bP (aD (ak oEq (ak av (af 1) (fC (.int 0))) (fC (.str "handed")))) (aI (aJ az (aa (ao value (aa (af 0) ag)) (aa (ao take (aa (af 0) (aa (lJ (ak av (af 1) (fC (.int 2))) (fC (.int 3))) ag))) (aa (ao state (aa (af 0) (aa (af 3) ag))) ag))))) aQ) (ax (aF (uH take) (gN 5)) (aI (aJ az (aa (ao value (aa (af 0) ag)) (aa (af 5) (aa (ao take (aa (af 0) (aa (fC (.int 2)) ag))) (aa (ao state (aa (af 0) (aa (af 3) ag))) ag)))))))))))))
theorem NU (y:eJ take){k:Nat}{σ:Sg}{Q:D×G->Prop}(s:σ[0]? = some (some (.ref h)))(u:σ[3]? = some (some (.int k)))(A:k<=5)(C:B+k<2 ^ 40)(z:Hd g h B)(q:∀(bs:List Int) g',bs.length=k->Hd g' h (B+k)->Fr h g g'->Q (.tup (bs.map .int),g')):wp (uH take σ g) Q:=by
 unfold uH;simp[s,u];refine j_ ?_;have i:aA k=true:=aO (by omega);simp[u,dq,i];refine⟨by omega,?_⟩;refine ip (λj acc σ g'=>(∃f,σ = [none,f,some (.ref h)])/\(∃bs:List Int,acc=bs.map D.int/\bs.length=j)/\Hd g' h (B+j)/\Fr h g g') _ 0 _ _ [] ⟨⟨none,by first|rfl|simp[bM,s]⟩,⟨[],rfl,rfl⟩,by simpa using z,.refl⟩ ?_ ?_
 . rintro j d acc σ g' l ⟨⟨f,rfl⟩,⟨bs,rfl,a⟩,b,c⟩
   obtain⟨r,rfl⟩:=fP l;simp only[aa3]at *;simp;refine y.w (by omega) (by decide) (by decide) b λx g2 x0 o hd2 f2=>?_;exact⟨⟨bs ++ [x],by simp,by simp[a]⟩,hd2.mono (by omega),c.trans f2⟩
 . rintro xs σ g' ⟨_,⟨bs,e,a⟩,b,c⟩
   simp only[abh,dq,aa3]at *;subst e;simp[a,i];exact q bs g' a b c
def pg (places:Fn):Prop:=∀(M:MQ) (g:G),places [M.d] g=some (.int M.p,g)
noncomputable def Sr:FS:=aI (jC (aD (ak oEq (ak av (af 0) (fC (.int 0))) (fC (.str "shared")))) (ak av (af 0) (fC (.int 2))) (ak av (af 0) (fC (.int 1))))
theorem Qr:pg (aq false 1 1 Sr):=λM g=>by cases M<;>exact aM rfl (cF rfl) rfl
theorem Ju {k:Nat}{f1 f2:FE}{σ:Sg}{g:G}(a:f1 σ g=some (.int k,g))(b:f2 σ g=some (.int 3,g))(c:k<=9):∃x:Int,lJ f1 f2 σ g=some (.int x,g)/\0<x/\x<100:=by
 by_cases h:k=0
 . subst h
   exact⟨3,by simp[lJ,a,b],by decide,by decide⟩
 . refine⟨k,?_,by omega,by omega⟩
   have:¬((k:Int)=0):=by omega
   simp[lJ,a,this];exact λz=>absurd z h
theorem NV (c:eJ take){σ:Sg}{tu:Nat}(l:σ[0]? = some (some (.ref h)))(j:ak av (af 1) (fC (.int 2)) σ g=some (.int tu,g))(k:tu<=9)(i:B<2 ^ 40)(f:Hd g h B):∃(x:Int) (g':G),ao take (aa (af 0) (aa (lJ (ak av (af 1) (fC (.int 2))) (fC (.int 3))) ag)) σ g=some (.int x,g')/\Hd g' h (B+1)/\Fr h g g':=by
 obtain⟨m,em,m0,a⟩:=Ju (f2:=fC (.int 3)) j rfl k;obtain⟨x,g2,e,x0,b,hd2,f2⟩:=c h m g _ i m0 (by omega) f;have v0:af 0 σ g=some (.ref h,g):=by rw[gK,l]
 refine⟨x,g2,?_,hd2,f2⟩;simp only[fI,cz,v0,em,cU,Zt];exact e
theorem fS {c:FT}{f:FE}{f1 X:FS}{σ:Sg}{g g1:G}{Q:F×Sg×G->Prop}(t:c σ g=some (true,g1))(w:wp (f σ g1) λq=>Q (.rt q.1,σ,q.2)):wp (ax (bP c (aI f) f1) X σ g) Q:=by obtain⟨⟨d,g2⟩,e,q⟩:=w;exact⟨_,eE t e,q⟩
theorem bZ {c:FT}{f X:FS}{σ:Sg}{g g1:G}{Q:F×Sg×G->Prop}(t:c σ g=some (false,g1))(k:wp (X σ g1) Q):wp (ax (bP c f aQ) X σ g) Q:=uF ((dh t).trans rfl) k
theorem AE {f:FE}{σ:Sg}{g:G}{Q:F×Sg×G->Prop}(w:wp (f σ g) λq=>Q (.rt q.1,σ,q.2)):wp (aI f σ g) Q:=by obtain⟨⟨d,g2⟩,e,q⟩:=w;exact⟨_,cF e,q⟩
theorem Qt {f:FE}{i:Nat}{X:FS}{σ:Sg}{g:G}{Q:F×Sg×G->Prop}(w:wp (f σ g) λq=>wp (X (σ.set i (some q.1)) q.2) Q):wp (ax (aF f (gN i)) X σ g) Q:=by obtain⟨⟨d,g2⟩,e,q⟩:=w;exact jj e q
theorem CK.view {j:Nat}{c:D}:CK M (own "view" j) c:=⟨λ_ e=>absurd (qG e).1 (by decide),λ_ e=>absurd (qG e).1 (by decide),λ_ _ e=>absurd e gh⟩
theorem CK.sign {i j:Nat}{c:D}:CK M (two "sign" i j) c:=⟨λ_ e=>absurd e.symm gh,λ_ e=>absurd e.symm gh,λ_ _ e=>absurd (Dk e).1 (by decide)⟩
theorem CK.call {i j:Nat}{x:Int}:CK M (two "call" i j) (.int x):=⟨λ_ e=>absurd e.symm gh,λ_ e=>absurd e.symm gh,λ_ _ _=>⟨x,rfl⟩⟩
theorem CK.box {j:Nat}{c:D}(h:BC c):CK M (own "box" j) c:=⟨λ_ _=>h,λ_ e=>absurd (qG e).1 (by decide),λ_ _ e=>absurd e gh⟩
def Fd (c:D):Prop:=flat c=true/\dep c<=9
theorem Fd.int {x:Int}:Fd (.int x):=⟨rfl,by simp[dep]⟩
theorem Fd.v {c:D}(h:vG c):Fd c:=⟨h.1,Z4 h.2 (by decide)⟩
theorem Dm {ws:List D}(h:∀w∈ws,vG w):flat (.tup ws)=true/\dep (.tup ws)<=4:=⟨by simp only[flat];exact fR λd hd=>(h d hd).1,by simp only[dep];have:=k9 (k:=3) λd hd=>(h d hd).2;omega⟩
theorem BC.fd {c:D}(h:BC c):Fd c:=⟨h.flat,by obtain⟨v,a,t,rfl,b⟩:=h;have:=b.2;simp only[dep,da];omega⟩
def Cq (M:MQ)(h:Nat)(B:Int)(g:G)(k:D)(q:D×G):Prop:=CK M k q.1/\Fd q.1/\Hd q.2 h (B+30)/\Fr h g q.2
theorem Qu (A:eJ take)(E:nA value)(H:n6 state)(J:pg places)(ok:M.Ok){k:D}(I:KK M k)(C:Hd g h B)(K:B+40<2 ^ 40):wp (aq false 6 3 (NT take value places state) [.ref h,M.d,k] g) (Cq M h B g k):=by
 have n5:=ok.n5;have p5:=ok.p5;have z2:aA 2=true:=rfl;have z3:aA 3=true:=rfl;have z4:aA 4=true:=rfl;refine wp_run rfl (uF (EW (d:=.int M.n) (d':=.int M.p) (g1:=g) (g2:=g) (by cases M<;>rfl) (J M g)) ?_);cases I with
 |view j =>
  refine fS (g1:=g) rfl ?_;obtain⟨ws,g',e,l,a,u,f⟩:=H h M.p g B (by omega) (by omega) C;have fd:=Dm a;exact⟨_,e,f.1,.view,⟨fd.1,Z4 fd.2 (by decide)⟩,u.mono (by omega),f⟩
 |call i j =>
  refine bZ (g1:=g) rfl (fS (g1:=g) rfl ?_);obtain⟨x,g',e,x0,x1,u,f⟩:=A h 2 g B (by omega) (by decide) (by decide) C;exact⟨_,e,f.1,.call,.int,u.mono (by omega),f⟩
 |sign i j =>
  refine bZ (g1:=g) rfl (fS (g1:=g) rfl ?_);obtain⟨x,g',e,x0,x1,u,f⟩:=A h 2 g B (by omega) (by decide) (by decide) C;exact⟨_,e,f.1,.sign,.int,u.mono (by omega),f⟩
 |box j =>
  refine bZ (g1:=g) rfl (bZ (g1:=g) rfl (fS (g1:=g) rfl ?_));obtain⟨v,g1,q,b,o,f1⟩:=E h g B (by omega) C;obtain⟨x,g2,s,x0,x1,hd2,f2⟩:=A h (M.n+1) g1 _ (by omega) (by omega) (by omega) o;obtain⟨y,g3,e3,y0,y1,mD,z⟩:=A h 2 g2 _ (by omega) (by decide) (by decide) hd2;have F:=(f1.trans f2).trans z;have bc:BC (.tup [v,.int (x-1),.int y]):=⟨v,x-1,y,rfl,b⟩
  refine⟨(.tup [v,.int (x-1),.int y],g3),?_,F.1,.box bc,bc.fd,mD.mono (by omega),F⟩;simp[q,s,e3,z3]
 |own j =>
  refine bZ (g1:=g) rfl (bZ (g1:=g) rfl (bZ (g1:=g) rfl ?_));have mk:∀{c:D},E3 M c->CK M (own "own" j) c:=fun {c} h=>⟨λ_ e=>absurd (qG e).1 (by decide),λ_ _=>h,λ_ _ e=>absurd e gh⟩
  have signs:(∀c:D,SC M.n c->CK M (own "own" j) c)->wp (ax (aF (uH take) (gN 5)) (aI (aJ az (aa (ao value (aa (af 0) ag)) (aa (af 5) (aa (ao take (aa (af 0) (aa (fC (.int 2)) ag))) (aa (ao state (aa (af 0) (aa (af 3) ag))) ag)))))) [some (.ref h),some M.d,some (own "own" j),some (.int M.n),some (.int M.p),none] g) λr=>match r.1 with
    |.rt d=>r.2.2.length=g.length/\Cq M h B g (own "own" j) (d,r.2.2)|.nx=>r.2.2.length=g.length/\Cq M h B g (own "own" j) (.ay,r.2.2)|_=>False:=λmk=>by
   refine Qt (NU A (k:=M.n) rfl rfl n5 (by omega) C λbs g1 bl o f1=>AE ?_);obtain⟨v,g2,s,p2,hd2,f2⟩:=E h g1 _ (by omega) o;obtain⟨x,g3,e3,x0,x1,mD,z⟩:=A h 2 g2 _ (by omega) (by decide) (by decide) hd2;obtain⟨ws,g4,e4,l4,a4,yU,f4⟩:=H h M.n g3 _ (by omega) (by omega) mD;have F:=(f1.trans f2).trans (z.trans f4);have sc:SC M.n (.tup [v,.tup (bs.map .int),.int x,.tup ws]):=⟨v,bs,x,ws,p2,bl,l4,a4⟩
   refine⟨(.tup [v,.tup (bs.map .int),.int x,.tup ws],g4),?_,F.1,mk _ sc,⟨sc.flat,sc.dep⟩,yU.mono (by omega),F⟩;simp[s,e3,e4,z4]
  cases M with
  |once n =>
   refine fS (g1:=g) rfl ?_;obtain⟨v,g1,q,b,o,f1⟩:=E h g B (by omega) C;exact⟨_,q,f1.1,mk b,.v b,o.mono (by omega),f1⟩
  |twice n tu =>
   refine bZ (g1:=g) rfl (fS (g1:=g) rfl ?_);obtain⟨v,g1,q,b,o,f1⟩:=E h g B (by omega) C;obtain⟨x,g2,s,hd2,f2⟩:=NV A (σ:=[some (.ref h),some (MQ.twice n tu).d,some (own "own" j),some (.int (MQ.twice n tu).n),some (.int (MQ.twice n tu).p),none]) (tu:=tu) rfl rfl ok.t9 (by omega) o;have F:=f1.trans f2;refine⟨(.tup [v,.int x],g2),?_,F.1,mk ⟨v,x,rfl,b⟩,⟨by simp[flat,bt,b.1],by have:=b.2;simp only[dep,da];omega⟩,hd2.mono (by omega),F⟩;have yA:ao value (aa (af 0) ag) [some (.ref h),some (MQ.twice n tu).d,some (own "own" j),some (.int (MQ.twice n tu).n),some (.int (MQ.twice n tu).p),none] g=some (v,g1):=q;show aJ az _ [some (.ref h),some (MQ.twice n tu).d,some (own "own" j),some (.int (MQ.twice n tu).n),some (.int (MQ.twice n tu).p),none] g=_;simp only[kM,cz,yA,s,cU,Zt];rfl
  |handed n tu mo =>
   refine bZ (g1:=g) rfl (bZ (g1:=g) rfl (fS (g1:=g) rfl ?_));obtain⟨v,g1,q,b,o,f1⟩:=E h g B (by omega) C;obtain⟨x,g2,s,hd2,f2⟩:=NV A (σ:=[some (.ref h),some (MQ.handed n tu mo).d,some (own "own" j),some (.int (MQ.handed n tu mo).n),some (.int (MQ.handed n tu mo).p),none]) (tu:=tu) rfl rfl ok.t9 (by omega) o;obtain⟨ws,g3,e3,l3,a3,mD,z⟩:=H h (MQ.handed n tu mo).n g2 _ (by omega) (by omega) hd2;have F:=(f1.trans f2).trans z;have fw:=Dm a3;refine⟨(.tup [v,.int x,.tup ws],g3),?_,F.1,mk ⟨v,x,ws,rfl,b,a3⟩,⟨by have:=fw.1;simp only[flat,bt]at this ⊢;rw[b.1,this];rfl,by have:=b.2;have:=fw.2;simp only[dep,da]at this ⊢;omega⟩,mD.mono (by omega),F⟩;have yA:ao value (aa (af 0) ag) [some (.ref h),some (MQ.handed n tu mo).d,some (own "own" j),some (.int (MQ.handed n tu mo).n),some (.int (MQ.handed n tu mo).p),none] g=some (v,g1):=q;have X2:ao state (aa (af 0) (aa (af 3) ag)) [some (.ref h),some (MQ.handed n tu mo).d,some (own "own" j),some (.int (MQ.handed n tu mo).n),some (.int (MQ.handed n tu mo).p),none] g2=some (.tup ws,g3):=e3;show aJ az _ [some (.ref h),some (MQ.handed n tu mo).d,some (own "own" j),some (.int (MQ.handed n tu mo).n),some (.int (MQ.handed n tu mo).p),none] g=_;simp only[kM,cz,yA,s,X2,cU,Zt];rfl
  |signs n tg sh mo =>
   exact bZ (g1:=g) rfl (bZ (g1:=g) rfl (bZ (g1:=g) rfl (signs λc h=>mk h)))
  |shared n p tg sh mo =>
   exact bZ (g1:=g) rfl (bZ (g1:=g) rfl (bZ (g1:=g) rfl (signs λc h=>mk h)))
end
theorem rS {k v:D}:∀{xs:List D},(bA xs k v).length<=xs.length+2
 | []=>by simp[bA]| [_]=>by simp[bA]|k'::v'::r=>by have:=rS (k:=k) (v:=v) (xs:=r);simp only[bA];split<;>simp<;>omega
theorem GQ {n:Nat}:∀(ps:List (D×D)) (bx:List D) (g:G),g[n]? = some bx->gk bx=true->aN 0 bx=true->bx.length+2*ps.length<=400->(∀q∈ps,aU 6 q.1=true/\bQ 0 q.1=true/\bQ 0 q.2=true) ->
  ∃tS,putAll n ps g=some (g.set n tS)/\gk tS=true/\aN 0 tS=true/\tS.length<=bx.length+2*ps.length/\(∀k c,aU 6 k=true->bh tS k=some c->bh bx k=some c\/(k,c)∈ps) /\ ∀k,aU 6 k=true->((∃c,bh bx k=some c) \/ ∃c,(k,c)∈ps)->∃c,bh tS k=some c
 | [],bx,g,hg,ka,nr,_,_=>⟨bx,by obtain⟨o,e⟩:=Zq.mp hg;rw[<- e,aat];rfl,ka,nr,by simp,λk c _ h=>.inl h,λk _ h=>by rcases h with h|⟨c,h⟩;exact h;simp at h⟩
 |q::ps,bx,g,hg,ka,nr,o,hq=>by
  obtain⟨j,s,y⟩:=hq q (by simp);have dl:=rS (k:=q.1) (v:=q.2) (xs:=bx);simp only[aaz]at o;have lt:=(Zq.mp hg).1;obtain⟨tS,e,a,b,c,d,f⟩:=GQ ps (bA bx q.1 q.2) (g.set n (bA bx q.1 q.2)) (Z0 lt) (lY j ka) (jS s y nr) (by omega) λx i=>hq x (by simp[i]);have r:oD bx=true:=by unfold oD;exact aO (by omega)
  refine⟨tS,?_,a,b,by simp only[aaz];omega,λk v l u=>?_,λk l i=>f k l ?_⟩
  . simp only[putAll,kq,hg,Zt,j,r,ael,if_true,e,abV]
  . rcases d k v l u with z|z
    . by_cases e2:q.1=k
      . subst e2
        rw[ke j ka]at z;cases z;exact .inr (by simp)
      . rw[kX j l e2 ka]at z
        exact .inl z
    . exact .inr (by simp[z])
  . by_cases e2:q.1=k
    . subst e2;exact .inl ⟨_,ke j ka⟩
    . rw[kX j l e2 ka]
      rcases i with i|⟨v,i⟩
      . exact .inl i
      . rcases Zx.mp i with z|z
        . exact absurd (congrArg Prod.fst z).symm e2
        . exact .inr ⟨v,z⟩
theorem yV:∀ps:List (D×D),iK (ps.map λq=>.tup [q.1,q.2])=some ps
 | []=>rfl|q::ps=>by simp[iK,Ao,yV ps]
noncomputable def nE (nm:Str)(a:FE):FE:=bq bw (gI (aa a ag)) [none,none] (gN 1) bF (aJ az (aa (fC (.str nm)) (aa (af 1) ag)))
noncomputable def tE (nm:Str):FE:=bq bw (gI (aa (af 2) ag)) [none,none,some 4] (gN 1) bF (aJ az (aa (fC (.str nm)) (aa (af 2) (aa (af 1) ag))))
noncomputable def X3:FS:=aF (ak aT (ak aT (af 3) (tE "call")) (tE "sign")) (gN 3)
noncomputable def GR (a:Fn):FE:=bq bw (bW (af 3)) [none,none,some 0,some 1] (gN 1) bF (aJ az (aa (af 1) (aa (ao a (aa (af 2) (aa (af 3) (aa (af 1) ag)))) ag)))
noncomputable def Dp (places a:Fn):FS:=ax (aF (ak av (af 1) (fC (.int 1))) (gN 2)) (ax (aF (ak aT (nE "box" (ao places (aa (af 1) ag))) (nE "own" (af 2))) (gN 3)) (ax (aF (ak aT (af 3) (nE "view" (af 2))) (gN 3)) (ax (fg (gI (aa (af 2) ag)) (gN 4) X3) (aI (ao lW (aa (GR a) ag))))))
section
variable {M:MQ}{h:Nat}{B:Int}{g:G}{places content:Fn}
theorem AF {nm:Str}{i:FE}{σ:Sg}{k:Nat}(e:i σ g=some (.int k,g))(l:k<=20):nE nm i σ g=some (.lst ((ZN k).map λj=>own nm j),g):=by
 have f:aA 2=true:=rfl;have b:aA k=true:=aO (by omega);have r:=qw (fr:=aa i ag) (σ:=σ) (g:=g) (g1:=g) (n:=k) (by simp[e]) (by omega);have c:=cM (t:=gN 1) (c:=bF) (e:=aJ az (aa (fC (.str nm)) (aa (af 1) ag))) (h:=λd=>D.tup [.str nm,d]) (λσ=>∃a,σ = [none,a]) (eS 0 k) [none,none] g ⟨_,rfl⟩ (by rintro t hm σ ⟨a,rfl⟩;exact⟨[none,some t],by simp,by simp,by simp[f],_,rfl⟩)
 unfold nE;rw[eA,r];simp only[Zt,dq,b,if_true];rw[show bM [none,none] σ = [none,none] from rfl,c];simp[bw,eS,own,aaQ,b]
theorem GS {nm:Str}{σ:Sg}{n i:Nat}(k:σ[2]? = some (some (.int n)))(l:σ[4]? = some (some (.int i)))(o:n<=5):tE nm σ g=some (.lst ((ZN n).map λj=>two nm i j),g):=by
 have f:aA 3=true:=rfl;have b:aA n=true:=aO (by omega);have r:=qw (fr:=aa (af 2) ag) (σ:=σ) (g:=g) (g1:=g) (n:=n) (by simp[k]) (by omega);have c:=cM (t:=gN 1) (c:=bF) (e:=aJ az (aa (fC (.str nm)) (aa (af 2) (aa (af 1) ag)))) (h:=λd=>D.tup [.str nm,.int i,d]) (λσ=>∃a,σ = [none,a,some (.int i)]) (eS 0 n) [none,none,some (.int i)] g ⟨_,rfl⟩ (by rintro t hm σ ⟨a,rfl⟩;exact⟨[none,some t,some (.int i)],by simp,by simp,by simp[f],_,rfl⟩)
 unfold tE;rw[eA,r];simp only[Zt,dq,b,if_true];rw[show bM [none,none,some 4] σ = [none,none,some (.int i)] by simp[bM,l],c];simp[bw,eS,two,aaQ,b]
structure Ss (M:MQ)(i:Nat)(L:List D):Prop where
 kk:∀k∈L,KK M k
 bo:∀j,j<M.p->own "box" j∈L
 ow:∀j,j<M.n->own "own" j∈L
 cl:∀a j,a<i->j<M.n->two "call" a j∈L/\two "sign" a j∈L
 le:L.length<=15+10*i
theorem add_l {f1 f2:FE}{σ:Sg}{xs ys:List D}(a:f1 σ g=some (.lst xs,g))(b:f2 σ g=some (.lst ys,g))(c:xs.length+ys.length<=1000):ak aT f1 f2 σ g=some (.lst (xs++ys),g):=by rw[eB a b,En,if_pos (aO c)]
structure eY (M:MQ)(bx:List D):Prop where
 ka:gk bx=true
 nr:aN 0 bx=true
 le:bx.length<=150
 ck:∀k c,KK M k->bh bx k=some c->CK M k c/\Fd c
 bo:∀j,j<M.p->∃c,bh bx (own "box" j)=some c
 ow:∀j,j<M.n->∃c,bh bx (own "own" j)=some c
 cl:∀a j,a<M.n->j<M.n->∃c,bh bx (two "call" a j)=some c
theorem E4 (ok:M.Ok)(z:pg places){Q:F×Sg×G->Prop}(q:∀L o4,Ss M M.n L->wp (aI (ao lW (aa (GR content) ag)) [some (.ref h),some M.d,some (.int M.n),some (.lst L),o4] g) Q):wp (Dp places content [some (.ref h),some M.d,none,none,none] g) Q:=by
 have o:=ok.n5;have y:=ok.p5;have len:∀(nm:Str) k,((ZN k).map λj=>own nm j).length=k:=λnm k=>by simp
 refine jj (d:=.int M.n) (g1:=g) (by cases M<;>rfl) (jj (d:=.lst (((ZN M.p).map λj=>own "box" j)++(ZN M.n).map λj=>own "own" j)) (g1:=g) (add_l (AF (z M g) (by omega)) (AF rfl (by omega)) (by rw[len,len];omega)) (jj (d:=.lst ((((ZN M.p).map λj=>own "box" j)++(ZN M.n).map λj=>own "own" j)++(ZN M.n).map λj=>own "view" j)) (g1:=g) (add_l rfl (AF rfl (by omega)) (by rw[ZH,len,len,len];omega)) ?_));refine wp_seq ?_;rw[kN,wp_bind];refine j_ ⟨([.int M.n],g),rfl,M.n,rfl,by omega,by omega,?_⟩;refine(nM (λi σ f=>f=g /\ ∃L o4,Ss M i L/\σ = [some (.ref h),some M.d,some (.int M.n),some (.lst L),o4]) _ 0 _ _ ⟨rfl,_,_,?_,rfl⟩ ?_ ?_)
 . refine⟨λk c=>?_,λj b=>?_,λj b=>?_,λa j r=>absurd r (acP _),by simp;omega⟩
   . simp only[Zy,ZK]at c
     rcases c with(⟨j,_,rfl⟩|⟨j,_,rfl⟩)|⟨j,_,rfl⟩
     . exact .box j
     . exact .own j
     . exact .view j
   . simp only[Zy,ZK,aap];exact .inl (.inl ⟨j,b,rfl⟩)
   . simp only[Zy,ZK,aap];exact .inl (.inr ⟨j,b,rfl⟩)
 . rintro i d σ f x ⟨rfl,L,o4,N,rfl⟩
   obtain⟨l,rfl⟩:=fP x;simp only[aa3]at N ⊢;have l:i<M.n:=by simpa using l
   have le:=N.le;refine⟨_,rfl,_,hG (add_l (add_l (xs:=L) rfl (GS (n:=M.n) (i:=i) rfl rfl o) (by simp;omega)) (GS (n:=M.n) (i:=i) rfl rfl o) (by simp;omega)),rfl,_,_,?_,rfl⟩;refine⟨λk c=>?_,λj b=>?_,λj b=>?_,λa j r b=>?_,by simp;omega⟩
   . simp only[Zy,ZK]at c
     rcases c with(c|⟨j,_,rfl⟩)|⟨j,_,rfl⟩
     . exact N.kk k c
     . exact .call i j
     . exact .sign i j
   . simp only[Zy];exact .inl (.inl (N.bo j b))
   . simp only[Zy];exact .inl (.inl (N.ow j b))
   . simp only[Zy,ZK,aap]
     by_cases e:a=i
     . subst e;exact⟨.inl (.inr ⟨j,b,rfl⟩),.inr ⟨j,b,rfl⟩⟩
     . obtain⟨s,u⟩:=N.cl a j (by omega) b
       exact⟨.inl (.inl s),.inl (.inl u)⟩
 . rintro σ f ⟨rfl,L,o4,N,rfl⟩
   simp only[aa3,dq,aaP]at N;exact⟨rfl,q L o4 N⟩
theorem Qv (ok:M.Ok)(E:pg places)(C:∀{g B k},B+40<2 ^ 40->KK M k->Hd g h B->wp (content [.ref h,M.d,k] g) (Cq M h B g k))(A:Hd g h B)(H:B+3000<2 ^ 40):∃bx g1,aq true 5 2 (Dp places content) [.ref h,M.d] g=some (.aX g.length,g1 ++ [bx])/\Fr h g g1/\Hd g1 h (B+2400)/\eY M bx:=by
 have n5:=ok.n5;have key:wp (aq true 5 2 (Dp places content) [.ref h,M.d] g) λq=>∃bx g1,q=(.aX g.length,g1 ++ [bx])/\Fr h g g1/\Hd g1 h (B+2400)/\eY M bx:=by
  refine Il rfl (E4 ok E λL o4 N=>AE ?_);have le:=N.le;have zl:aA L.length=true:=aO (by omega);have z2:aA 2=true:=rfl;show wp ((aa (GR content) ag _ _).bind λr=>lW r.1 r.2) _;rw[wp_bind,cz,wp_bind];unfold GR;refine Nc ⟨(L,g),rfl,zl,?_⟩
  refine ip (λj acc σ s=>(∃o1,σ = [none,o1,some (.ref h),some M.d])/\(∃l:List (D×D),acc=l.map (λq=>.tup [q.1,q.2])/\l.map (·.1)=L.take j /\ ∀q∈l,CK M q.1 q.2/\Fd q.2)/\Hd s h (B+30*j)/\Fr h g s) L 0 _ _ [] ⟨⟨_,rfl⟩,⟨[],rfl,rfl,by simp⟩,by simpa using A,.refl⟩ ?_ ?_
  . rintro j d acc σ s o ⟨⟨o1,rfl⟩,⟨l,rfl,hm,x⟩,gi,f'⟩
    simp only[aa3]at *;have jl:=(Zq.mp o).1;obtain⟨⟨c,g2⟩,e2,c1,c2,hd2,f2⟩:=C (g:=s) (B:=B+30*j) (by omega) (N.kk d (ZP o)) gi;have e3:content [.ref h,M.d,d] s=some (c,g2):=e2;simp[e3,z2];refine⟨⟨l ++ [(d,c)],by simp,?_,λa b i=>?_⟩,hd2.mono (by omega),f'.trans f2⟩
    . rw[aag,hm,ad0,o];rfl
    . rcases Zy.mp i with i|i
      . exact x (a,b) i
      . simp only[aeb,Prod.mk.injEq]at i
        obtain⟨rfl,rfl⟩:=i;exact⟨c1,c2⟩
  . rintro xs σ g1 ⟨_,⟨l,e,hm,x⟩,gq,f1⟩
    simp only[abh,aa3]at e hm gq;subst e;rw[aal (Zu _)]at hm;have pl:l.length=L.length:=by rw[<- hm,Z2]
    have y:∀q∈l,q.1∈L:=λq i=>by rw[<- hm];exact aay i
    have l1:(g1 ++ [[]])[g.length]? = some []:=by rw[<- f1.1];simp
    obtain⟨bx,e,a,b,c,d,f⟩:=GQ (n:=g.length) l [] (g1 ++ [[]]) l1 rfl rfl (by simp;omega) λq i=>⟨(N.kk _ (y q i)).aU,(N.kk _ (y q i)).bQ,dG _ (x q i).2.1⟩
    have has:∀k,k∈L->∃c,bh bx k=some c:=λk u=>by rw[<- hm]at u;obtain⟨q,i,rfl⟩:=ZK.mp u;exact f q.1 (N.kk _ (y q i)).aU (.inr ⟨q.2,i⟩)
    have zp:aA l.length=true:=aO (by omega);have es:(g1 ++ [[]]).set g.length bx=g1 ++ [bx]:=by rw[<- f1.1,acv _ _ (Zu _)];simp
    have fin:lW [.lst (l.map λq=>.tup [q.1,q.2])] g1=some (.aX g.length,g1 ++ [bx]):=by show((iK (l.map λq=>.tup [q.1,q.2])).bind _)=_;rw[yV,f1.1];simp[e,es]
    refine⟨(.lst (l.map λq=>.tup [q.1,q.2]),g1),by simp[bw,zp],?_⟩;simp[fin];refine⟨bx,g1,⟨rfl,rfl⟩,f1,gq.mono (by omega),a,b,by simp at c;omega,λk v u hv=>?_,λj o=>has _ (N.bo j o),λj o=>has _ (N.ow j o),λa j h1 h2=>has _ (N.cl a j h1 h2).1⟩;rcases d k v u.aU hv with z|z
    . simp[bh]at z
    . exact x _ z
 obtain⟨_,e,bx,g1,rfl,h1⟩:=key;exact⟨bx,g1,e,h1⟩
end
noncomputable def cls (nm:Str)(o:Nat)(S:List Nat):List D:=S.map λ(j:Nat)=>D.tup [.str nm,.int j,.int o]
noncomputable def NW (a:Fn):FE:=bq bw (bW (ao a (aa (af 0) (aa (af 1) ag)))) [none,none,some 1] (gN 1) bF (aJ az (aa (fC (.str "call")) (aa (af 1) (aa (af 2) ag))))
noncomputable def NX (a:Fn):FE:=bq bw (bW (ao a (aa (af 0) (aa (af 1) ag)))) [none,none,some 1] (gN 1) bF (aJ az (aa (fC (.str "sign")) (aa (af 2) (aa (af 1) ag))))
noncomputable def yy (a b c:Fn)(nm:Str):FS:=ax (aF (NW a) (gN 3)) (ax (bP (aD (ak oLt (ao bz (aa (af 2) ag)) (ak bJ (fC (.int 2)) (ao bz (aa (af 3) ag))))) (ax (aF (NX a) (gN 4)) (aI (ao (gy c) (aa (af 3) (aa (af 4) (aa (lR nm []) (aa (af 2) ag))))))) aQ) (ax (aF (ak bJ (fC (.int 2)) (ao b (aa (af 0) ag))) (gN 5)) (aI (aJ az (aa (fC (.str "read")) (aa (ak av (ak aT (af 5) (ao fG (aa (af 3) ag))) (ak (bU di (· - ·)) (ao bz (aa (af 2) ag)) (ak bJ (fC (.int 2)) (ao bz (aa (af 3) ag))))) ag))))))
theorem yW {c:Type}{a b:c->D}:∀{l:List c} {p:Nat} {x:c},l[p]? = some x->(l.flatMap λx=>[a x,b x])[2*p]? = some (a x)
 | [],p,x,h=>by simp at h|y::l,0,x,h=>by simp at h;subst h;rfl|y::l,p+1,x,h=>by have:=yW (a:=a) (b:=b) (l:=l) (p:=p) (x:=x) (by simpa using h);rw[aaR,show 2*(p+1)=2*p+1+1 by omega];simpa using this
theorem Dq {c:Type}{a b:c->D}:∀{l:List c} {p:Nat} {x:c},l[p]? = some x->(l.flatMap λx=>[a x,b x])[2*p+1]? = some (b x)
 | [],p,x,h=>by simp at h|y::l,0,x,h=>by simp at h;subst h;rfl|y::l,p+1,x,h=>by have:=Dq (a:=a) (b:=b) (l:=l) (p:=p) (x:=x) (by simpa using h);rw[aaR,show 2*(p+1)+1=2*p+1+1+1 by omega];simpa using this
theorem qH {c:Type}{a b:c->D}:∀{l:List c},(l.flatMap λx=>[a x,b x]).length=2*l.length
 | []=>rfl|x::l=>by rw[aaR,ZH,qH];simp;omega
noncomputable def E5 (l:List D):List D:=l.map λk=>.tup [.str "read",k]
noncomputable def eN (p:Nat):List D:=(ZN p).map λj=>own "box" j
noncomputable def oI (n p o sh:Nat):List D:=eN p++eN p++cls "call" o (aB n o sh)
noncomputable def stH (n p o sh:Nat)(ks:List Int):List D:=(((aB n o sh).zip ks).flatMap λq=>[.tup [.str "read",.tup [.str "call",.int q.1,.int o]],.tup [.str "write",cg o q.1,.int q.2]])++E5 (oI n p o sh)
section
variable {m:D}{n p o tg sh mo:Nat}{num cN bp aG rT:Fn}{ks:List Int}{bs:List D}{g:G}
theorem wR (S:nF m n p o tg sh mo num cN bp aG){σ:Sg}(l:σ[0]? = some (some m))(k:σ[1]? = some (some (.int o))):NW aG σ g=some (.lst (cls "call" o (aB n o sh)),g)/\NX aG σ g=some (.lst ((aB n o sh).map λj=>cg o j),g):=by
 have b:aA 3=true:=rfl;have zl:aA (aB n o sh).length=true:=aO (by have:=gO (n:=n) (o:=o) (sh:=sh);have:=S.n5;omega);have i:=cM (t:=gN 1) (c:=bF) (e:=aJ az (aa (fC (.str "call")) (aa (af 1) (aa (af 2) ag)))) (h:=λd=>D.tup [.str "call",d,.int o]) (λσ=>∃a,σ = [none,a,some (.int o)]) (dN (aB n o sh)) [none,none,some (.int o)] g ⟨_,rfl⟩ (by rintro t hm σ ⟨a,rfl⟩;exact⟨[none,some t,some (.int o)],by simp,by simp,by simp[b],_,rfl⟩)
 have f:=cM (t:=gN 1) (c:=bF) (e:=aJ az (aa (fC (.str "sign")) (aa (af 2) (aa (af 1) ag)))) (h:=λd=>D.tup [.str "sign",.int o,d]) (λσ=>∃a,σ = [none,a,some (.int o)]) (dN (aB n o sh)) [none,none,some (.int o)] g ⟨_,rfl⟩ (by rintro t hm σ ⟨a,rfl⟩;exact⟨[none,some t,some (.int o)],by simp,by simp,by simp[b],_,rfl⟩)
 have sub:bM [none,none,some 1] σ = [none,none,some (.int o)]:=by simp[bM,k]
 constructor
 . simp[NW,l,k,S.hs g,bW,bb,bY,zl,sub,i,bw]
   simp[dN,cls,aaQ]
 . simp[NX,l,k,S.hs g,bW,bb,bY,zl,sub,f,bw]
   simp[dN,cg,aaQ]
theorem NY {c:D}(h:flat c=true):dk (bO 0 1 (af 0)) [c] g=some (c,g):=by
 have a:fL [c]=true:=by simp[fL,gE c h]
 have b:aN 0 [c]=true:=by simp[aN,dG c h]
 have e:bO 0 1 (af 0) [c] []=some (c,[]):=by unfold bO;rw[if_pos (show [c].length=0+1 from rfl)];rfl
 unfold dk eU;rw[if_pos a,if_pos b,e];simp only[Zt];rw[if_pos (dG c h)];simp only[Zt];rw[if_pos (gE c h)]
theorem Qw {A:Str->Option Fn}{nm:Str}(hR:A nm=some (dk (bO 0 1 (af 0))))(S:nF m n p o tg sh mo num cN bp aG)(B:∀g,rT [m] g=some (.tup (eN p),g))(R:kg n p o sh ks bs){i:Nat}(C:i<3*(aB n o sh).length+2*p):
   ∃x,(stH n p o sh ks)[i]? = some x/\aq false 6 3 (yy aG rT (aq false 5 4 (i9 A)) nm) [m,.int o,.tup ((bC ks bs).take i)] g=some (x,g):=by
 have hW:=R.wl;have n5:=S.n5;have p4:=S.p4;have sl:=gO (n:=n) (o:=o) (sh:=sh);have lt:((bC ks bs).take i).length=i:=by rw[aah,hW];omega
 have cl:(cls "call" o (aB n o sh)).length=(aB n o sh).length:=by simp[cls]
 have l:b_ 2 ((aB n o sh).length:Int)=true:=rfl;have zl:((aB n o sh).zip ks).length=(aB n o sh).length:=by rw[acR,R.kl];omega
 by_cases h:i<2*(aB n o sh).length
 . have f:i / 2<(aB n o sh).length:=by omega
   have r:i / 2<ks.length:=by rw[R.kl];exact f
   have s:((aB n o sh).zip ks)[i / 2]? = some ((aB n o sh)[i / 2],ks[i / 2]):=by rw[acQ];exact⟨Zn f,Zn r⟩
   have a1:aN 0 (cls "call" o (aB n o sh))=true:=gM λx c=>by obtain⟨j,_,rfl⟩:=ZK.mp c;rfl
   have a2:aN 0 ((aB n o sh).map λj=>cg o j)=true:=gM λx c=>by obtain⟨j,_,rfl⟩:=ZK.mp c;rfl
   have a3:aN 0 ((bC ks bs).take i)=true:=gM λx c=>dG x (R.fl x (aaJ c));obtain⟨x,h1,fx,c⟩:∃x,(((aB n o sh).zip ks).flatMap λq=>[D.tup [.str "read",.tup [.str "call",.int q.1,.int o]],.tup [.str "write",cg o q.1,.int q.2]])[i]? = some x/\L3.flat x=true/\aq false 5 4 (i9 A) [.lst (cls "call" o (aB n o sh)),.lst ((aB n o sh).map λj=>cg o j),.fn nm [],.tup ((bC ks bs).take i)] []=some (x,[]):=by
     by_cases he:i % 2=0
     . have:=yW (a:=λq:Nat×Int=>D.tup [.str "read",.tup [.str "call",.int q.1,.int o]]) (b:=λq=>.tup [.str "write",cg o q.1,.int q.2]) s
       rw[show 2*(i / 2)=i by omega]at this;exact⟨_,this,rfl,qB (p:=i / 2) (by rw[lt];omega) (by rw[cls,ZE,Zn f];rfl)⟩
     . have z:(bC ks bs)[2*(i / 2)]? = some (.int ks[i / 2]):=by
         unfold bC;rw[Z3,Z3,ZI (by rw[f_,bI,Z2];omega)];exact qz (by rw[bI,ZE,Zn r];rfl)
       have e:(bC ks bs).take i=(bC ks bs).take (2*(i / 2)) ++ [.int ks[i / 2]]:=by
         conv=>lhs;rw[show i=2*(i / 2)+1 by omega]
         rw[ad0,z];rfl
       have:=Dq (a:=λq:Nat×Int=>D.tup [.str "read",.tup [.str "call",.int q.1,.int o]]) (b:=λq=>.tup [.str "write",cg o q.1,.int q.2]) s;rw[show 2*(i / 2)+1=i by omega]at this;refine⟨_,this,rfl,?_⟩;rw[e];refine tO (p:=i / 2) (cap:=[]) hR (NY rfl) ?_ ?_
       . rw[<- e,lt];omega
       . rw[ZE,Zn f];rfl
   refine⟨x,?_,?_⟩
   . unfold stH
     rw[ZI (by rw[qH,zl];exact h)];exact h1
   generalize (bC ks bs).take i=W at *;refine aM rfl (aR (wR S rfl rfl).1 (nz ((oZ (g1:=g) ?_).trans (aR (wR S rfl rfl).2 (cF (iC (by simp[aN,bQ,a1,a2,a3]) c fx)))))) rfl;simp[cl,l,d6,lt];omega
 . obtain⟨e,he⟩:∃e,i=2*(aB n o sh).length+e:=⟨i-2*(aB n o sh).length,by omega⟩
   have el:e<(oI n p o sh).length:=by simp[oI,eN,cls];omega
   refine⟨.tup [.str "read",(oI n p o sh)[e]],?_,?_⟩
   . unfold stH
     rw[ZX (by rw[qH,zl];omega),qH,zl,he,Nat.add_sub_cancel_left,E5,ZE,Zn el];rfl
   have y:aA 2=true:=rfl;have NC:¬((i:Int)<2*((aB n o sh).length:Int)):=by omega
   have ei:(i:Int)-2*((aB n o sh).length:Int)=((e:Nat):Int):=by omega
   have mt:=Uc (g:=g) (xs:=eN p) (k:=2) (by decide) (by decide) (by simp[eN];omega);have rp:(ZA (2:Int).toNat (eN p)).flatten=eN p++eN p:=by show(ZA 2 (eN p)).flatten=_;simp[ZA]
   rw[rp]at mt;have at_:cA (oI n p o sh) (e:Int)=some (oI n p o sh)[e]:=gF (Zn el)
   have zb:aA ((eN p++eN p).length+(cls "call" o (aB n o sh)).length)=true:=aO (by simp[eN,cls];omega);have zc:aA (cls "call" o (aB n o sh)).length=true:=aO (by rw[cl];omega);generalize (bC ks bs).take i=W at *;refine aM rfl (aR (wR S rfl rfl).1 (bG (g1:=g) ((dh (g1:=g) (by simp[cl,l,d6,lt,NC])).trans rfl) (aR (d:=.tup (eN p++eN p)) (g1:=g) (by simp[B g,mt]) (cF ?_)))) rfl;have q1:ak aT (af 5) (ao fG (aa (af 3) ag)) [some m,some (.int o),some (.tup W),some (.lst (cls "call" o (aB n o sh))),none,some (.tup (eN p++eN p))] g=some (.tup (oI n p o sh),g):=by rw[eB (d:=.tup (eN p++eN p)) (d':=.tup (cls "call" o (aB n o sh))) (g1:=g) (g2:=g) rfl (by simp[bb,zc]),oT,if_pos zb];rfl
   have u:ak (bU di (· - ·)) (ao bz (aa (af 2) ag)) (ak bJ (fC (.int 2)) (ao bz (aa (af 3) ag))) [some m,some (.int o),some (.tup W),some (.lst (cls "call" o (aB n o sh))),none,some (.tup (eN p++eN p))] g=some (.int e,g):=by simp[cl,l,lt,ei]
   show aJ az _ [some m,some (.int o),some (.tup W),some (.lst (cls "call" o (aB n o sh))),none,some (.tup (eN p++eN p))] g=_;have q3:=(eB (o:=av) q1 u).trans (show av (.tup (oI n p o sh)) (.int e) g=some ((oI n p o sh)[e],g) by simp[d9,bb,at_]);simp only[kM,cz,q3,zL,cU,Zt];simp[y]
noncomputable def Dr (num cN aG a step scF:Fn)(nm:Str)(X:FS):FS:=ax (aF (ak aT (ak bJ (fC (.int 3)) (ao bz (aa (ao aG (aa (af 0) (aa (af 1) ag))) ag))) (ak bJ (fC (.int 2)) (ao cN (aa (af 0) ag)))) (gN 3)) (ax (aF (ao (gy a) (aa (af 3) (aa (af 3) (aa (ao num (aa (af 0) (aa (fC (.str "moves")) ag))) (aa (af 2) (aa (lR nm [0,1]) ag)))))) (gN 4)) (ax (bP (aD (ak kO (af 4) (fC .ay))) (aI (aJ az (aa (ao step (aa (af 0) (aa (af 1) (aa (cR (af 2) (aY (ak bJ (ak (bU dF (· / ·)) (ao bz (aa (af 2) ag)) (af 3)) (af 3))) eh) ag)))) (aa (ao bz (aa (af 2) ag)) ag)))) aQ) (ax (aF (ak aT (ak av (af 4) (fC (.int 0))) (af 3)) (gN 5)) (ax (bP (aD (ak kO (ak av (af 4) (fC (.int 1))) (fC .ay))) (aI (aJ az (aa (aJ az (aa (fC (.str "told")) (aa (ao fG (aa (bq bw (bW (ao scF (aa (af 0) (aa (af 1) (aa (cR (af 2) eh (aY (af 5))) ag))))) [none,none] (gN 1) bF (ak av (af 1) (fC (.int 0)))) ag)) ag))) (aa (af 5) ag)))) aQ) X))))
noncomputable def Ds (num cN bp aG:Fn):Fn:=aq false 12 3 (Di num cN bp aG (aq false 4 3 (k_ cN aG)) (aq false 3 3 (oH num)))
theorem UW (S:nF m n p o tg sh mo num cN bp aG)(R:kg n p o sh ks bs):dk (bO 2 1 (tP (Ds num cN bp aG))) ([m,.int o] ++ [.tup (bC ks bs)]) g=some (.lst [],g):=by
 have a:bt (bC ks bs)=true:=fR R.fl;have b:fL ([m,.int o] ++ [.tup (bC ks bs)])=true:=by simp[fL,j6,gE m S.fm,gQ _ a]
 have c:aN 0 ([m,.int o] ++ [.tup (bC ks bs)])=true:=by simp[aN,bQ,dG m S.fm,d_ _ a]
 have e:bO 2 1 (tP (Ds num cN bp aG)) ([m,.int o] ++ [.tup (bC ks bs)]) []=some (.lst [],[]):=by unfold bO;rw[if_pos (show([m,.int o] ++ [.tup (bC ks bs)]:List D).length=2+1 from rfl)];exact Qq S R
 unfold dk eU;rw[if_pos b,if_pos c,e];rfl
noncomputable def cJ (n p o sh:Nat):Nat:=3*(aB n o sh).length+2*p
theorem yX (S:nF m n p o tg sh mo num cN bp aG){c step scF:Fn}{nm:Str}{X:FS}{rd:List D}{en:D}(f:gy c [.int (cJ n p o sh),.int (cJ n p o sh),.int mo,.tup rd,.fn nm [m,.int o]] g=some (en,g)){Y:Option (F×Sg×G)}
   (k:ax (bP (aD (ak kO (af 4) (fC .ay))) (aI (aJ az (aa (ao step (aa (af 0) (aa (af 1) (aa (cR (af 2) (aY (ak bJ (ak (bU dF (· / ·)) (ao bz (aa (af 2) ag)) (af 3)) (af 3))) eh) ag)))) (aa (ao bz (aa (af 2) ag)) ag)))) aQ) (ax (aF (ak aT (ak av (af 4) (fC (.int 0))) (af 3)) (gN 5)) (ax (bP (aD (ak kO (ak av (af 4) (fC (.int 1))) (fC .ay))) (aI (aJ az (aa (aJ az (aa (fC (.str "told")) (aa (ao fG (aa (bq bw (bW (ao scF (aa (af 0) (aa (af 1) (aa (cR (af 2) eh (aY (af 5))) ag))))) [none,none] (gN 1) bF (ak av (af 1) (fC (.int 0)))) ag)) ag))) (aa (af 5) ag)))) aQ) X)) [some m,some (.int o),some (.tup rd),some (.int (cJ n p o sh)),some en,none] g=Y):
   Dr num cN aG c step scF nm X ([m,.int o,.tup rd].map some++ZA (6-3) none) g=Y:=by
 have e:(3*((aB n o sh).length:Int)+2*(p:Int))=((cJ n p o sh:Nat):Int):=by unfold cJ;omega
 refine aR (d:=.int (cJ n p o sh)) (g1:=g) ?_ (aR (d:=en) (g1:=g) ?_ k)
 . have b:b_ 3 ((aB n o sh).length:Int)=true:=rfl
   have a:b_ 2 (p:Int)=true:=rfl;simp[S.hs g,S.hp g,bY,b,a,e]
 . simp[S.hm g,lR,rG,f]
theorem GU (S:nF m n p o tg sh mo num cN bp aG){rd:List D}{nm:Str}(fr:∀x∈rd,flat x=true):aN 0 [.int (cJ n p o sh),.int (cJ n p o sh),.int mo,.tup rd,.fn nm [m,.int o]]=true:=by have:=d_ (n:=0) _ (fR fr);simp[aN,bQ,dG m S.fm];simpa using this
theorem Jv {A:Str->Option Fn}{y:Str->Option Fn}{nm z:Str}{X:FS}{scF:Fn}(hR:A nm=some (dk (bO 2 1 (tP (Ds num cN bp aG)))))(C:y z=some (dk (bO 0 1 (af 0))))(S:nF m n p o tg sh mo num cN bp aG)(B:∀g,rT [m] g=some (.tup (eN p),g))(R:kg n p o sh ks bs){i:Nat}(s:i<cJ n p o sh):
  ∃x u,(stH n p o sh ks)[i]? = some x/\aq false 6 3 (Dr num cN aG (aq false 10 5 (cI A)) (aq false 6 3 (yy aG rT (aq false 5 4 (i9 y)) z)) scF nm X) [m,.int o,.tup ((bC ks bs).take i)] g=some (.tup [x,u],g):=by
 obtain⟨x,a,ex⟩:=Qw (g:=g) C S B R (i:=i) s;have fr:∀x∈(bC ks bs).take i,flat x=true:=λx a=>R.fl x (aaJ a);have lt:((bC ks bs).take i).length=i:=by rw[aah,R.wl];unfold cJ at s;omega
 have b:=qx (cap:=[m,.int o]) (n:=cJ n p o sh) (ws:=[]) (ps:=[]) (rest:=(bC ks bs).take i) (mv:=.int mo) hR ⟨by simp,rfl,by omega,by simp,λi h=>absurd h (acP _)⟩ rfl (by rw[lt];exact s) (λk f=>absurd f (acP _));rw[abS,abh]at b;have l:=iC (g:=g) (GU S fr) b rfl;refine⟨x,.int i,a,?_⟩;have cut:cutD ((bC ks bs).take i) (some 0) none=(bC ks bs).take i:=by show cutD _ (some ((0:Nat):Int)) none=_;unfold cutD;rw[HT.ly,jJ (by omega),acu,Nat.sub_zero];exact aal (Zu _)
 have j:((i:Nat):Int) / (cJ n p o sh:Int)*(cJ n p o sh:Int)=0:=by rw[<- agF,agE s];simp
 have r:cJ n p o sh<=30:=by have:=S.n5;have:=S.p4;have:=gO (n:=n) (o:=o) (sh:=sh);unfold cJ;omega
 generalize (bC ks bs).take i=RD at *;have q:dF i (cJ n p o sh)=true:=iB (by omega) (by omega);have c:b_ ((i:Int) / (cJ n p o sh)) (cJ n p o sh)=true:=iA (by omega) (by omega);have e:aA 2=true:=rfl;refine aM rfl (yX S l (eE (g1:=g) rfl ?_)) rfl;simp[lt,q,c,j,fj,cut,ex,e]
theorem NZ {A:Str->Option Fn}{nm:Str}{X:FS}{step:Fn}(hR:A nm=some (dk (bO 2 1 (tP (Ds num cN bp aG)))))(S:nF m n p o tg sh mo num cN bp aG)(R:kg n p o sh ks bs):
  ∃u,aq false 6 3 (Dr num cN aG (aq false 10 5 (cI A)) step (aq false 4 3 (k_ cN aG)) nm X) [m,.int o,.tup (bC ks bs)] g=some (.tup [.tup [.str "told",.tup (bs.map Wg.cV)],u],g):=by
 have wl:(bC ks bs).length=cJ n p o sh:=R.wl;have p1:=S.p1;have j:=qy (cap:=[m,.int o]) (n:=cJ n p o sh) (ws:=[bC ks bs]) (ps:=[[]]) (rest:=[]) (mv:=.int mo) (en:=none) hR ⟨λw hw=>by simp at hw;subst hw;exact wl,rfl,by unfold cJ;omega,by simp,λi h=>by
  have:i=0:=by simpa using h
  subst this;exact⟨λg=>UW S R,abB,by simp⟩⟩ rfl (by simp) (λi l=>by simp at l) rfl
 simp only[aaj,abS,aaL,afh,acs,acw]at j;have r:=iC (g:=g) (GU S R.fl) j rfl;have sc:=GP (g:=g) S R;have cut:cutD (bC ks bs) none (some ((cJ n p o sh:Nat):Int))=bC ks bs:=by unfold cutD;rw[vC (by omega)];show((bC ks bs).drop 0).take (cJ n p o sh-0)=_;rw[acu,Nat.sub_zero,<- wl,agG]
 have zs:aA bs.length=true:=aO (by rw[R.bl];have:=S.p4;omega);have k:aA 2=true:=rfl;have c:=cM (t:=gN 1) (c:=bF) (e:=ak av (af 1) (fC (.int 0))) (h:=Wg.cV) (λσ=>∃a,σ = [none,a]) bs [none,none] g ⟨_,rfl⟩ (by rintro t hm σ ⟨a,rfl⟩;obtain⟨v,a,t,rfl,hv⟩:=R.ba t hm;exact⟨[none,some (.tup [v,.int a,.int t])],by simp,by simp,by simp[d9,bb,Qn];rfl,⟨_,rfl⟩⟩)
 refine⟨.int (cJ n p o sh),?_⟩;have z:∀a b:D,cA [a,b] 0=some a:=λ_ _=>rfl;generalize bC ks bs=f at *;refine aM rfl (yX S r (bG (g1:=g) ((dh (g1:=g) rfl).trans rfl) (aR (d:=.int (cJ n p o sh)) (g1:=g) (by simp[d9,bb,z]) (eE (g1:=g) rfl ?_)))) rfl;have y:ao (aq false 4 3 (k_ cN aG)) (aa (af 0) (aa (af 1) (aa (cR (af 2) eh (aY (af 5))) ag))) [some m,some (.int o),some (.tup f),some (.int (cJ n p o sh)),some (.tup [.int 0,eD none]),some (.int (cJ n p o sh))] g=some (.tup bs,g):=by
  have q:cR (af 2) eh (aY (af 5)) [some m,some (.int o),some (.tup f),some (.int (cJ n p o sh)),some (.tup [.int 0,eD none]),some (.int (cJ n p o sh))] g=some (.tup f,g):=by simp[fj,cut]
  have v0:af 0 [some m,some (.int o),some (.tup f),some (.int (cJ n p o sh)),some (.tup [.int 0,eD none]),some (.int (cJ n p o sh))] g=some (m,g):=rfl;have v1:af 1 [some m,some (.int o),some (.tup f),some (.int (cJ n p o sh)),some (.tup [.int 0,eD none]),some (.int (cJ n p o sh))] g=some (.int o,g):=rfl;simp only[fI,cz,v0,v1,q,cU,Zt,sc]
 show aJ az _ [some m,some (.int o),some (.tup f),some (.int (cJ n p o sh)),some (.tup [.int 0,eD none]),some (.int (cJ n p o sh))] g=_;have s:bq bw (bW (ao (aq false 4 3 (k_ cN aG)) (aa (af 0) (aa (af 1) (aa (cR (af 2) eh (aY (af 5))) ag))))) [none,none] (gN 1) bF (ak av (af 1) (fC (.int 0))) [some m,some (.int o),some (.tup f),some (.int (cJ n p o sh)),some (.tup [.int 0,eD none]),some (.int (cJ n p o sh))] g=some (.lst (bs.map Wg.cV),g):=by
  have e9:bW (ao (aq false 4 3 (k_ cN aG)) (aa (af 0) (aa (af 1) (aa (cR (af 2) eh (aY (af 5))) ag)))) [some m,some (.int o),some (.tup f),some (.int (cJ n p o sh)),some (.tup [.int 0,eD none]),some (.int (cJ n p o sh))] g=some (bs,g):=by simp only[bW,y,Zt,bb,abg]
  rw[eA,e9];simp only[Zt,zs,if_true];rw[show bM [none,none] _ = [none,none] from rfl,c];rfl
 have zb:aA (bs.map Wg.cV).length=true:=by rw[Z2];exact zs
 have x:ao fG (aa (bq bw (bW (ao (aq false 4 3 (k_ cN aG)) (aa (af 0) (aa (af 1) (aa (cR (af 2) eh (aY (af 5))) ag))))) [none,none] (gN 1) bF (ak av (af 1) (fC (.int 0)))) ag) [some m,some (.int o),some (.tup f),some (.int (cJ n p o sh)),some (.tup [.int 0,eD none]),some (.int (cJ n p o sh))] g=some (.tup (bs.map Wg.cV),g):=by simp only[fI,cz,s,cU,Zt,q_,bb,zb,if_true]
 simp only[kM,cz,x,zL,cU,Zt];simp[k]
end
noncomputable def Su (pick take:Fn):FE:=ao pick (aa (af 0) (aa (aJ gv (aa (fC (.int 1)) (aa (fC (.int 2)) (aa (fC (.int 2)) (aa (fC (.int 3)) (aa (fC (.int 3)) (aa (fC (.int 2)) (aa (fC (.int 3)) (aa (ak aT (fC (.int 4)) (ao take (aa (af 0) (aa (fC (.int 2)) ag)))) ag))))))))) ag))
noncomputable def X5 (pick:Fn):FE:=ao pick (aa (af 0) (aa (aJ gv (aa (aJ az (aa (fC (.int 1)) (aa (fC (.int 1)) ag))) (aa (aJ az (aa (fC (.int 1)) (aa (fC (.int 1)) ag))) (aa (aJ az (aa (fC (.int 0)) (aa (fC (.int 1)) ag))) (aa (aJ az (aa (fC (.int 1)) (aa (fC (.int 0)) ag))) (aa (aJ az (aa (fC (.int 0)) (aa (fC (.int 0)) ag))) ag)))))) ag))
noncomputable def X6 (pick:Fn):FE:=ao pick (aa (af 0) (aa (aJ gv (aa (fC (.int 0)) (aa (fC (.int 0)) (aa (fC (.int 2)) (aa (fC (.int 9)) ag))))) ag))
noncomputable def N0 (take pick:Fn):FS:=ax (aF (ao pick (aa (af 0) (aa (af 1) ag))) (gN 2)) (ax (oV 3 4 (aa (Su pick take) (aa (ak aT (fC (.int 1)) (ao take (aa (af 0) (aa (fC (.int 4)) ag)))) ag))) (ax (aF (X5 pick) (gN 5)) (ax (aF (X6 pick) (gN 6)) (ax (bP (aD (ak oEq (af 2) (fC (.str "once")))) (aI (aJ az (aa (af 2) (aa (af 3) ag)))) aQ) (ax (bP (aD (ak oEq (af 2) (fC (.str "twice")))) (aI (aJ az (aa (af 2) (aa (af 3) (aa (af 6) ag))))) aQ) (ax (bP (aD (ak oEq (af 2) (fC (.str "handed")))) (aI (aJ az (aa (af 2) (aa (af 3) (aa (af 6) (aa (af 4) ag)))))) aQ) (ax (bP (aD (ak oEq (af 2) (fC (.str "signs")))) (aI (ak aT (ak aT (aJ az (aa (af 2) (aa (af 3) ag))) (af 5)) (aJ az (aa (af 4) ag)))) aQ) (aI (ak aT (ak aT (aJ az (aa (af 2) (aa (af 3) (aa (ak aT (fC (.int 1)) (ao take (aa (af 0) (aa (fC (.int 4)) ag)))) ag)))) (af 5)) (aJ az (aa (af 4) ag)))))))))))
noncomputable def yY:List D:=[.str "once",.str "twice",.str "handed",.str "signs",.str "shared"]
section
variable {h:Nat}{B:Int}{g:G}{take pick:Fn}
theorem Qx (C:eJ take)(A:iV pick)(E:Hd g h B)(H:B+20<2 ^ 40):wp (aq false 7 2 (N0 take pick) [.ref h,.lst yY] g) λq=>∃M:MQ,M.Ok/\q.1=M.d/\Hd q.2 h (B+10)/\Fr h g q.2:=by
 refine wp_run rfl ?_;obtain⟨w,g1,e1,o,gq,f1⟩:=A h yY g B (by omega) (by simp[yY]) (by simp[yY]) E;refine jj (d:=w) (g1:=g1) e1 ?_;obtain⟨x,g2,e2,x0,x1,hd2,f2⟩:=C h 2 g1 _ (by omega) (by decide) (by decide) gq;obtain⟨nd,g3,e3,r,mD,f3⟩:=A h [.int 1,.int 2,.int 2,.int 3,.int 3,.int 2,.int 3,.int (4+x)] g2 _ (by omega) (by simp) (by simp) hd2;obtain⟨n,rfl,b,c⟩:∃n:Nat,nd = .int n/\1<=n/\n<=5:=by
   simp only[Zx,aaF,or_false]at r;rcases r with rfl|rfl|rfl|rfl|rfl|rfl|rfl|rfl
   . exact⟨1,rfl,by omega,by omega⟩
   . exact⟨2,rfl,by omega,by omega⟩
   . exact⟨2,rfl,by omega,by omega⟩
   . exact⟨3,rfl,by omega,by omega⟩
   . exact⟨3,rfl,by omega,by omega⟩
   . exact⟨2,rfl,by omega,by omega⟩
   . exact⟨3,rfl,by omega,by omega⟩
   . exact⟨(4+x).toNat,by rw[abM (by omega)],by omega,by omega⟩
 obtain⟨y,l,e4,y0,y1,yU,f4⟩:=C h 4 g3 _ (by omega) (by decide) (by decide) mD;obtain⟨mo,X7⟩:∃mo:Nat,1+y=mo:=⟨(1+y).toNat,(abM (by omega)).symm⟩
 refine uF (EW (d:=.int n) (d':=.int mo) (g1:=g3) (g2:=l) ?_ ?_) ?_
 . have z8:aA 8=true:=rfl
   simp[Su,e2,z8,e3]
 . simp[e4,X7]
 obtain⟨bd,j,e5,s,N1,f5⟩:=A h [.tup [.int 1,.int 1],.tup [.int 1,.int 1],.tup [.int 0,.int 1],.tup [.int 1,.int 0],.tup [.int 0,.int 0]] l _ (by omega) (by simp) (by simp) yU;obtain⟨f,sh,rfl,s1⟩:∃f sh:Nat,bd = .tup [.int f,.int sh]/\sh<=1:=by
   simp only[Zx,aaF,or_false]at s;rcases s with rfl|rfl|rfl|rfl|rfl
   . exact⟨1,1,rfl,by omega⟩
   . exact⟨1,1,rfl,by omega⟩
   . exact⟨0,1,rfl,by omega⟩
   . exact⟨1,0,rfl,by omega⟩
   . exact⟨0,0,rfl,by omega⟩
 refine jj (d:=.tup [.int f,.int sh]) (g1:=j) e5 ?_;obtain⟨td,a,e6,u,Sv,f6⟩:=A h [.int 0,.int 0,.int 2,.int 9] j _ (by omega) (by simp) (by simp) N1;obtain⟨tu,rfl,t9⟩:∃tu:Nat,td = .int tu/\tu<=9:=by
   simp only[Zx,aaF,or_false]at u;rcases u with rfl|rfl|rfl|rfl
   . exact⟨0,rfl,by omega⟩
   . exact⟨0,rfl,by omega⟩
   . exact⟨2,rfl,by omega⟩
   . exact⟨9,rfl,by omega⟩
 refine jj (d:=.int tu) (g1:=a) e6 ?_;have F:=((f1.trans f2).trans (f3.trans f4)).trans (f5.trans f6);have i:Hd a h (B+10):=Sv.mono (by omega);simp only[yY,Zx,aaF,or_false]at o;rcases o with rfl|rfl|rfl|rfl|rfl
 . exact fS (g1:=a) rfl ⟨_,rfl,F.1,.once n,⟨b,c,b,c,aab _,aab _,λ_ _ _ _ _ e=>nomatch e⟩,rfl,i,F⟩
 . exact bZ (g1:=a) rfl (fS (g1:=a) rfl ⟨_,rfl,F.1,.twice n tu,⟨b,c,b,c,aab _,t9,λ_ _ _ _ _ e=>nomatch e⟩,rfl,i,F⟩)
 . exact bZ (g1:=a) rfl (bZ (g1:=a) rfl (fS (g1:=a) rfl ⟨_,rfl,F.1,.handed n tu mo,⟨b,c,b,c,aab _,t9,λ_ _ _ _ _ e=>nomatch e⟩,rfl,i,F⟩))
 . exact bZ (g1:=a) rfl (bZ (g1:=a) rfl (bZ (g1:=a) rfl (fS (g1:=a) rfl ⟨_,rfl,F.1,.signs n f sh mo,⟨b,c,b,c,s1,aab _,λ_ _ _ _ _ e=>nomatch e⟩,rfl,i,F⟩)))
 . refine bZ (g1:=a) rfl (bZ (g1:=a) rfl (bZ (g1:=a) rfl (bZ (g1:=a) rfl (AE ?_))))
   obtain⟨z,g7,e7,z0,k,X8,f7⟩:=C h 4 a _ (by omega) (by decide) (by decide) Sv;obtain⟨p,A⟩:∃p:Nat,1+z=p:=⟨(1+z).toNat,(abM (by omega)).symm⟩
   have F7:=F.trans f7;refine⟨((MQ.shared n p f sh mo).d,g7),?_,F7.1,.shared n p f sh mo,⟨b,c,show 1<=p by omega,show p<=5 by omega,s1,aab _,λn' p' Ze Zf Zg e=>by injection e;omega⟩,rfl,X8.mono (by omega),F7⟩;have z3:aA 3=true:=rfl;have z5:aA 5=true:=rfl;have z6:aA 6=true:=rfl;have k:aA 1=true:=rfl;simp[e7,A,z3,z5,z6,k,MQ.d]
end
noncomputable def Sw:FS:=ax (aF (ak av (af 0) (fC (.int 1))) (gN 1)) (ax (bP (aD (ak lM (ak av (af 0) (fC (.int 0))) (aJ az (aa (fC (.str "once")) (aa (fC (.str "twice")) (aa (fC (.str "handed")) ag)))))) (aI (ak bJ (af 1) (ak (bU di (· - ·)) (fC (.int 2)) (ao mY (aa (ak oEq (ak av (af 0) (fC (.int 0))) (fC (.str "once"))) ag))))) aQ) (ax (bP (aD (ak oEq (ak av (af 0) (fC (.int 0))) (fC (.str "signs")))) (aI (ak aT (ak bJ (fC (.int 2)) (af 1)) (ak bJ (ak bJ (fC (.int 2)) (ak av (af 0) (fC (.int 3)))) (ak (bU di (· - ·)) (af 1) (fC (.int 1)))))) aQ) (aI (ak aT (ak bJ (fC (.int 2)) (ak av (af 0) (fC (.int 2)))) (ak bJ (ak bJ (fC (.int 3)) (ak av (af 0) (fC (.int 4)))) (ak (bU di (· - ·)) (af 1) (fC (.int 1))))))))
noncomputable def gr:MQ->Nat
 |.once n=>n|.twice n _=>2*n|.handed n _ _=>2*n|.signs n _ sh _=>2*n+2*(sh*(n-1))|.shared n p _ sh _=>2*p+3*(sh*(n-1))
theorem Qy {M:MQ}(ok:M.Ok)(g:G):aq false 2 1 Sw [M.d] g=some (.int (gr M),g):=by
 have h:=ok.n1;have k:=ok.n5;have s1:=ok.s1;have mul:∀(f1 f2:FE) (σ:Sg) (i j:Int),f1 σ g=some (.int i,g)->f2 σ g=some (.int j,g)->-1000<=i->i<=1000->-1000<=j->j<=1000->ak bJ f1 f2 σ g=some (.int (i*j),g):=λf1 f2 σ i j o l a b c d=>by rw[eB o l,Ii,if_pos (iA (by omega) (by omega))]
 cases M with
 |once n =>
  refine aM rfl (aR (d:=.int n) (g1:=g) rfl (eE (g1:=g) rfl ((mul _ _ _ (n:Int) 1 rfl rfl ?_ ?_ ?_ ?_).trans ?_))) rfl;all_goals first| (simp only[MQ.n]at *;omega)| (simp[gr])
 |twice n tu =>
  refine aM rfl (aR (d:=.int n) (g1:=g) rfl (eE (g1:=g) rfl ((mul _ _ _ (n:Int) 2 rfl rfl ?_ ?_ ?_ ?_).trans ?_))) rfl;all_goals first| (simp only[MQ.n]at *;omega)| (simp[gr];omega)
 |handed n tu mo =>
  refine aM rfl (aR (d:=.int n) (g1:=g) rfl (eE (g1:=g) rfl ((mul _ _ _ (n:Int) 2 rfl rfl ?_ ?_ ?_ ?_).trans ?_))) rfl;all_goals first| (simp only[MQ.n]at *;omega)| (simp[gr];omega)
 |signs n tg sh mo =>
  simp only[MQ.n,MQ.sh]at h k s1;have e:(2*(n:Int))+(2*(sh:Int))*((n:Int)-1)=((2*n+2*(sh*(n-1)):Nat):Int):=by
   have:sh=0\/sh=1:=by omega
   rcases this with rfl|rfl<;>omega
  refine aM rfl (aR (d:=.int n) (g1:=g) rfl (bG ((dh (g1:=g) rfl).trans rfl) (eE (g1:=g) rfl ?_))) rfl;have a1:=mul (fC (.int 2)) (af 1) [some (MQ.signs n tg sh mo).d,some (.int n)] 2 n rfl rfl (by omega) (by omega) (by omega) (by omega);have a2:=mul (fC (.int 2)) (ak av (af 0) (fC (.int 3))) [some (MQ.signs n tg sh mo).d,some (.int n)] 2 sh rfl rfl (by omega) (by omega) (by omega) (by omega)
  have f:=mul (ak bJ (fC (.int 2)) (ak av (af 0) (fC (.int 3)))) (ak (bU di (· - ·)) (af 1) (fC (.int 1))) [some (MQ.signs n tg sh mo).d,some (.int n)] (2*sh) (n-1) a2 rfl (by omega) (by omega) (by omega) (by omega)
  exact(eB a1 f).trans (by rw[xW,e];rfl)
 |shared n p tg sh mo =>
  have q:=ok.p4 _ _ _ _ _ rfl;simp only[MQ.n,MQ.sh]at h k s1;have e:(2*(p:Int))+(3*(sh:Int))*((n:Int)-1)=((2*p+3*(sh*(n-1)):Nat):Int):=by
   have:sh=0\/sh=1:=by omega
   rcases this with rfl|rfl<;>omega
  refine aM rfl (aR (d:=.int n) (g1:=g) rfl (bG ((dh (g1:=g) rfl).trans rfl) (bG ((dh (g1:=g) rfl).trans rfl) (cF ?_)))) rfl;have a1:=mul (fC (.int 2)) (ak av (af 0) (fC (.int 2))) [some (MQ.shared n p tg sh mo).d,some (.int n)] 2 p rfl rfl (by omega) (by omega) (by omega) (by omega);have a2:=mul (fC (.int 3)) (ak av (af 0) (fC (.int 4))) [some (MQ.shared n p tg sh mo).d,some (.int n)] 3 sh rfl rfl (by omega) (by omega) (by omega) (by omega)
  have f:=mul (ak bJ (fC (.int 3)) (ak av (af 0) (fC (.int 4)))) (ak (bU di (· - ·)) (af 1) (fC (.int 1))) [some (MQ.shared n p tg sh mo).d,some (.int n)] (3*sh) (n-1) a2 rfl (by omega) (by omega) (by omega) (by omega)
  exact(eB a1 f).trans (by rw[xW,e];rfl)
noncomputable def AH:D:=.tup [.str "look"]
noncomputable def mG:D->D
 |.tup (v::_)=>v|_=>.ay
noncomputable def eZ:MQ->Str
 |.shared ..=>"box"|_=>"own"
noncomputable def eC (bx:List D)(nm:Str)(j:Nat):D:=(bh bx (own nm j)).getD .ay
noncomputable def hU (M:MQ)(bx:List D):List D:=(ZN M.p).map (eC bx (eZ M))
noncomputable def e_ (M:MQ)(bx:List D):List D:=match M with
 |.once _=>hU M bx|M=>(hU M bx).map mG
def stepOk (bx:List D)(o:Nat)(x r:D):Prop:=(∃k,x = .tup [.str "read",k]/\aU 6 k=true/\(∀j,k≠cg o j)/\bh bx k=some r) \/ ∃(j:Nat) (b:Int),x = .tup [.str "write",cg o j,.int b]/\r = .ay
structure l_ (next:Fn)(M:MQ)(o:Nat)(ah:D)(bx st rd:List D):Prop where
 len:st.length=rd.length
 ok:∀(i:Nat) x r,st[i]? = some x->rd[i]? = some r->stepOk bx o x r
 go:∀i,i<rd.length->∀g,Bd g->∃x,st[i]? = some x/\next [M.d,.int o,AH,ah,.tup (rd.take i)] g=some (x,g)
 told:∀g,Bd g->next [M.d,.int o,AH,ah,.tup rd] g=some (.tup [.str "told",.tup (e_ M bx)],g)
 le:rd.length=gr M
def AI (a:Fn):Prop:=∀M o ah bx,M.Ok->o<M.n->eY M bx->∃st rd,l_ a M o ah bx st rd
noncomputable def GV (a:Fn):FE:=ao a (aa (af 3) (aa (af 4) (aa (aJ az (aa (fC (.str "look")) ag)) (aa (af 6) (aa (af 11) ag)))))
noncomputable def qR:FS:=aF (ak aT (af 11) (aJ az (aa (ak av (af 7) (ak av (af 13) (fC (.int 1)))) ag))) (gN 11)
noncomputable def qW:FS:=ax (aF (ak av (af 13) (fC (.int 2))) (iq (af 7) (ak av (af 13) (fC (.int 1))))) (aF (ak aT (af 11) (aJ az (aa (fC .ay) ag))) (gN 11))
noncomputable def qC:FT:=qT (aD (ak oEq (ak av (af 13) (fC (.int 0))) (fC (.str "read")))) (aD (ak oEq (ao bz (aa (af 13) ag)) (fC (.int 2))))
noncomputable def qD:FT:=qT (aD (ak oEq (ak av (af 13) (fC (.int 0))) (fC (.str "write")))) (aD (ak oEq (cR (ak av (af 13) (fC (.int 1))) eh (aY (fC (.int 2)))) (aJ az (aa (fC (.str "sign")) (aa (af 4) ag)))))
noncomputable def qS (a:Fn):FS:=ax (aF (GV a) (gN 13)) (bP qC qR (bP qD qW (aI (fC (.bl false)))))
noncomputable def qE (a:Fn):FS:=bP (aD (ak dD (GV a) (aJ az (aa (fC (.str "told")) (aa (af 10) ag))))) (aI (fC (.bl false))) aQ
section
variable {M:MQ}{o h b:Nat}{ah:D}{bx st rd:List D}{g:G}{next:Fn}{s0 s1 p5 v8 v9 v10:D}{o12 o13:Option D}
noncomputable def qσ (s0 s1:D)(h:Nat)(M:MQ)(o:Nat)(p5 ah:D)(b:Nat)(v8 v9 v10:D)(rd:List D)(o12 o13:Option D):Sg:=[some s0,some s1,some (.ref h),some M.d,some (.int o),some p5,some ah,some (.aX b),some v8,some v9,some v10,some (.tup rd),o12,o13]
structure N2 (bx:List D)(o b:Nat)(g0:G)(i:Nat)(g:G)(by_:List D):Prop where
 gb:g[b]? = some by_
 ge:∃z,g=g0.set b z
 ka:gk by_=true
 nr:aN 0 by_=true
 le:by_.length<=150+2*i
 same:∀k,aU 6 k=true->(∀j,k≠cg o j)->bh by_ k=bh bx k
theorem N3 {g:G}{z:List D}(c:Bd g)(a:aN 0 z=true):Bd (g.set b z):=c.set (o_ (aab _) a)
theorem Qz (L:l_ next M o ah bx st rd){i:Nat}(f:i<rd.length)(e:Bd g):∃x,st[i]? = some x/\GV next (qσ s0 s1 h M o p5 ah b v8 v9 v10 (rd.take i) o12 o13) g=some (x,g):=by obtain⟨x,c,a⟩:=L.go i f g e;exact⟨x,c,a⟩
theorem Jw (L:l_ next M o ah bx st rd){i:Nat}{C:G}{A:List D}(E:i<rd.length)(H:rd.length<=100)(U:N2 bx o b C i g A)(B:Bd g):
   ∃g' X9 x,qS next (qσ s0 s1 h M o p5 ah b v8 v9 v10 (rd.take i) o12 o13) g=some (.nx,qσ s0 s1 h M o p5 ah b v8 v9 v10 (rd.take (i+1)) o12 (some x),g')/\N2 bx o b C (i+1) g' X9/\Bd g':=by
 obtain⟨x,hx,ex⟩:=Qz (s0:=s0) (s1:=s1) (h:=h) (p5:=p5) (b:=b) (v8:=v8) (v9:=v9) (v10:=v10) (o12:=o12) (o13:=o13) L E B;obtain⟨r,y⟩:∃r,rd[i]? = some r:=⟨_,Zn E⟩
 have et:rd.take (i+1)=rd.take i ++ [r]:=by rw[ad0,y];rfl
 have zl:aA ((rd.take i).length+1)=true:=aO (by rw[aah];omega);have z1:aA 1=true:=rfl;rw[et];have lt:=(Zq.mp U.gb).1;rcases L.ok i x r hx y with⟨k,rfl,a,c,dg⟩|⟨j,v,rfl,rfl⟩
 . refine⟨g,A,.tup [.str "read",k],aR ex ((oZ (g1:=g) (rfl:qC (qσ s0 s1 h M o p5 ah b v8 v9 v10 (rd.take i) o12 (some (.tup [.str "read",k]))) g=some (true,g))).trans ?_),⟨U.gb,U.ge,U.ka,U.nr,by have:=U.le;omega,U.same⟩,B⟩
   have e7:ak av (af 7) (ak av (af 13) (fC (.int 1))) (qσ s0 s1 h M o p5 ah b v8 v9 v10 (rd.take i) o12 (some (.tup [.str "read",k]))) g=some (r,g):=by rw[eB (d:=.aX b) (d':=k) (g1:=g) (g2:=g) rfl rfl];have:=(U.same k a c).trans dg;simp[U.gb,a,this]
   have s:aJ az (aa (ak av (af 7) (ak av (af 13) (fC (.int 1)))) ag) (qσ s0 s1 h M o p5 ah b v8 v9 v10 (rd.take i) o12 (some (.tup [.str "read",k]))) g=some (.tup [r],g):=by simp only[kM,cz,e7,cU,Zt];simp[z1]
   refine(hG (d:=.tup (rd.take i ++ [r])) (g1:=g) ?_).trans rfl;rw[eB (d:=.tup (rd.take i)) (g1:=g) rfl s,oT];exact if_pos zl
 . have q:oD A=true:=by unfold oD;exact aO (by have:=U.le;omega)
   have dl:=rS (k:=cg o j) (v:=.int v) (xs:=A);have u:aU 6 (cg o j)=true:=rfl;refine⟨g.set b (bA A (cg o j) (.int v)),bA A (cg o j) (.int v),.tup [.str "write",cg o j,.int v],aR ex ((dh (g1:=g) (rfl:qC (qσ s0 s1 h M o p5 ah b v8 v9 v10 (rd.take i) o12 (some (.tup [.str "write",cg o j,.int v]))) g=some (false,g))).trans ((oZ (g1:=g) ?_).trans (bG (σ1:=qσ s0 s1 h M o p5 ah b v8 v9 v10 (rd.take i) o12 (some (.tup [.str "write",cg o j,.int v]))) (g1:=g.set b (bA A (cg o j) (.int v))) ?_ ((hG (d:=.tup (rd.take i ++ [.ay])) (g1:=g.set b (bA A (cg o j) (.int v))) ?_).trans rfl)))),⟨Z0 lt,?_,lY u U.ka,jS rfl rfl U.nr,by have:=U.le;omega,λk a c=>?_⟩,N3 B (jS rfl rfl U.nr)⟩
   . have c2:cutD [D.str "sign",.int (o:Int),.int (j:Int)] none (some 2)= [.str "sign",.int (o:Int)]:=rfl
     have t1:aD (ak oEq (ak av (af 13) (fC (.int 0))) (fC (.str "write"))) (qσ s0 s1 h M o p5 ah b v8 v9 v10 (rd.take i) o12 (some (.tup [.str "write",cg o j,.int v]))) g=some (true,g):=rfl;have e1:cR (ak av (af 13) (fC (.int 1))) eh (aY (fC (.int 2))) (qσ s0 s1 h M o p5 ah b v8 v9 v10 (rd.take i) o12 (some (.tup [.str "write",cg o j,.int v]))) g=some (.tup [.str "sign",.int (o:Int)],g):=by rw[Ir];show fj (cg o j) none (some 2) g=_;exact congrArg (λl=>some (D.tup l,g)) c2
     have t2:aD (ak oEq (cR (ak av (af 13) (fC (.int 1))) eh (aY (fC (.int 2)))) (aJ az (aa (fC (.str "sign")) (aa (af 4) ag)))) (qσ s0 s1 h M o p5 ah b v8 v9 v10 (rd.take i) o12 (some (.tup [.str "write",cg o j,.int v]))) g=some (true,g):=by
      rw[fH,eB (d':=.tup [.str "sign",.int (o:Int)]) (g2:=g) e1 rfl];have f:flat (.tup [.str "sign",.int (o:Int)])=true:=rfl;have dp:dep (.tup [.str "sign",.int (o:Int)])<=60:=by simp[dep,da]
      simp[oEq,f,dp,jH _ f,d6]
     unfold qD;rw[xS,t1];exact t2
   . show(aF (ak av (af 13) (fC (.int 2))) (iq (af 7) (ak av (af 13) (fC (.int 1))))) _ g=_
     rw[nL,show ak av (af 13) (fC (.int 2)) (qσ s0 s1 h M o p5 ah b v8 v9 v10 (rd.take i) o12 (some (.tup [.str "write",cg o j,.int v]))) g=some (.int v,g) from rfl];simp[qσ,U.gb,u,q,d9,bb,AB]
   . have s:aJ az (aa (fC .ay) ag) (qσ s0 s1 h M o p5 ah b v8 v9 v10 (rd.take i) o12 (some (.tup [.str "write",cg o j,.int v]))) (g.set b (bA A (cg o j) (.int v)))=some (.tup [.ay],g.set b (bA A (cg o j) (.int v))):=rfl
     rw[eB (d:=.tup (rd.take i)) (g1:=g.set b (bA A (cg o j) (.int v))) rfl s,oT];exact if_pos zl
   . obtain⟨z,q⟩:=U.ge
     exact⟨_,by rw[q,abV]⟩
   . rw[kX u a (λe=>c j e.symm) U.ka]
     exact U.same k a c
end
theorem wV {M:MQ}{bx:List D}(X:eY M bx){c:D}(h:c∈hU M bx):Fd c/\((∃n,M = .once n) \/ ∃v r,c = .tup (v::r)):=by
 obtain⟨j,f,rfl⟩:=ZK.mp h;rw[aap]at f;have key:∀{nm:Str},KK M (own nm j)->(∃c,bh bx (own nm j)=some c)->CK M (own nm j) (eC bx nm j)/\Fd (eC bx nm j):=fun {nm} k i=>by obtain⟨c,i⟩:=i;have:=X.ck _ c k i;unfold eC;rw[i];exact this
 cases M with
 |shared n p tg sh mo =>
  obtain⟨a,b⟩:=key (nm:="box") (.box j) (X.bo j f);obtain⟨v,x,t,e,_⟩:=a.1 j rfl;exact⟨b,.inr ⟨v,_,e⟩⟩
 |once n=>exact⟨(key (nm:="own") (.own j) (X.ow j f)).2,.inl ⟨n,rfl⟩⟩
 |twice n tu =>
  obtain⟨a,b⟩:=key (nm:="own") (.own j) (X.ow j f);obtain⟨v,x,e,_⟩:=a.2.1 j rfl;exact⟨b,.inr ⟨v,_,e⟩⟩
 |handed n tu mo =>
  obtain⟨a,b⟩:=key (nm:="own") (.own j) (X.ow j f);obtain⟨v,x,ws,e,_⟩:=a.2.1 j rfl;exact⟨b,.inr ⟨v,_,e⟩⟩
 |signs n tg sh mo =>
  obtain⟨a,b⟩:=key (nm:="own") (.own j) (X.ow j f);have sc:SC n (eC bx "own" j):=a.2.1 j rfl;have:∀c,SC n c->∃v r,c = .tup (v::r):=λc h=>by
   cases h with
   |mk v bs t vw hv hb hw ha=>exact⟨v,_,rfl⟩
  exact⟨b,.inr (this _ sc)⟩
theorem Dt {M:MQ}{bx:List D}:(hU M bx).length=M.p:=by simp[hU]
theorem N4 {M:MQ}{bx:List D}:(e_ M bx).length=M.p:=by cases M<;>simp[e_,Dt]
theorem QA {v:D}{r:List D}(h:Fd (.tup (v::r))):Fd v:=by obtain⟨a,b⟩:=h;simp only[flat,bt,Zr]at a;simp only[dep,da]at b;exact⟨a.1,by omega⟩
theorem GW {M:MQ}{bx:List D}(X:eY M bx):∀c∈e_ M bx,Fd c:=λc h=>by
 have go:c∈(hU M bx).map mG->(∀n,M ≠ .once n)->Fd c:=λh a=>by
  obtain⟨d,hd,rfl⟩:=ZK.mp h;obtain⟨f,k⟩:=wV X hd;rcases k with⟨n,e⟩|⟨v,r,rfl⟩
  . exact absurd e (a n)
  . exact QA f
 cases M with
 |once n=>exact(wV X h).1|twice=>exact go h λn e=>nomatch e|handed=>exact go h λn e=>nomatch e|signs=>exact go h λn e=>nomatch e|shared=>exact go h λn e=>nomatch e
theorem Jx {M:MQ}{bx:List D}(X:eY M bx):flat (.tup [.str "told",.tup (e_ M bx)])=true/\dep (.tup [.str "told",.tup (e_ M bx)])<=60:=by have f:bt (e_ M bx)=true:=fR λd hd=>(GW X d hd).1;have d:=k9 (k:=9) λd hd=>(GW X d hd).2;exact⟨by simp only[flat,bt];rw[f];rfl,by simp only[dep,da];omega⟩
noncomputable def qK:FE:=bq bw (gI (aa (af 5) ag)) [none,none,some 7,some 8] (gN 1) bF (ak av (af 2) (aJ az (aa (af 3) (aa (af 1) ag))))
noncomputable def qP:FE:=jC (aD (ak oEq (ak av (af 2) (fC (.int 0))) (fC (.str "once")))) (af 1) (ak av (af 1) (fC (.int 0)))
noncomputable def qV:FE:=ao fG (aa (bq bw (bW (af 9)) [none,none,some 3] (gN 1) bF qP) ag)
noncomputable def qN:FE:=jC (aD (ak oEq (ak av (af 3) (fC (.int 0))) (fC (.str "shared")))) (fC (.str "box")) (fC (.str "own"))
section
variable {M:MQ}{o h b:Nat}{ah:D}{bx st rd:List D}{g:G}{next long:Fn}{s0 s1:D}
theorem QB (X:eY M bx)(ok:M.Ok)(A:g[b]? = some bx){σ:Sg}(x:σ[5]? = some (some (.int M.p)))(z:σ[7]? = some (some (.aX b)))(y:σ[8]? = some (some (.str (eZ M)))):qK σ g=some (.lst (hU M bx),g):=by
 have q:=ok.p5;have u:aA 2=true:=rfl;have i:aA M.p=true:=aO (by omega);have r:=qw (fr:=aa (af 5) ag) (σ:=σ) (g:=g) (g1:=g) (n:=M.p) (by simp[x]) (by omega);have s:oD bx=true:=by unfold oD;exact aO (by have:=X.le;omega)
 have c:=cM (t:=gN 1) (c:=bF) (e:=ak av (af 2) (aJ az (aa (af 3) (aa (af 1) ag)))) (h:=λd=>(bh bx (.tup [.str (eZ M),d])).getD .ay) (λσ=>∃a,σ = [none,a,some (.aX b),some (.str (eZ M))]) (eS 0 M.p) [none,none,some (.aX b),some (.str (eZ M))] g ⟨_,rfl⟩ (by
  rintro t hm σ ⟨a,rfl⟩;obtain⟨j,l⟩:=abc hm;obtain⟨f,rfl⟩:=fP l;have ex:∃c,bh bx (.tup [.str (eZ M),.int j])=some c:=by
   cases M with
   |shared=>exact X.bo j f|_=>exact X.ow j f
  obtain⟨c,k⟩:=ex;refine⟨[none,some (.int j),some (.aX b),some (.str (eZ M))],by simp,by simp,?_,_,rfl⟩;rw[eB (d:=.aX b) (d':=.tup [.str (eZ M),.int j]) (g1:=g) (g2:=g) rfl rfl];have o:aU 6 (.tup [.str (eZ M),.int (j:Int)])=true:=rfl;simp[A,o,k])
 unfold qK;rw[eA,r];simp only[Zt,dq,i,if_true];rw[show bM [none,none,some 7,some 8] σ = [none,none,some (.aX b),some (.str (eZ M))] by simp[bM,z,y],c];simp[bw,eS,hU,eC,own,aaQ,i]
theorem QC (X:eY M bx)(ok:M.Ok){σ:Sg}(u:σ[3]? = some (some M.d))(s:σ[9]? = some (some (.lst (hU M bx)))):qV σ g=some (.tup (e_ M bx),g):=by
 have q:=ok.p5;have o:aA (hU M bx).length=true:=aO (by rw[Dt];omega);have h:aA (e_ M bx).length=true:=aO (by rw[N4];omega);have c:cy (gN 1) bF qP (hU M bx) [none,none,some M.d] g=some (e_ M bx,g):=by
  have go:∀f:D->D,(∀c∈hU M bx,qP [none,some c,some M.d] g=some (f c,g))->cy (gN 1) bF qP (hU M bx) [none,none,some M.d] g=some ((hU M bx).map f,g):=λf hf =>
   cM (λσ=>∃a,σ = [none,a,some M.d]) (hU M bx) [none,none,some M.d] g ⟨_,rfl⟩ λt hm σ ⟨a,e⟩=>by subst e;exact⟨[none,some t,some M.d],by simp,by simp,hf t hm,_,rfl⟩
  have hd:(∀n,M ≠ .once n)->∀c∈hU M bx,ak av (af 1) (fC (.int 0)) [none,some c,some M.d] g=some (mG c,g):=λj c b=>by
   rcases (wV X b).2 with⟨n,e⟩|⟨v,r,rfl⟩
   . exact absurd e (j n)
   . have:cA (v::r) 0=some v:=kW (n:=0) rfl
     simp[d9,bb,this,mG]
  cases M with
  |once n =>
   have:=go id λc b=>rfl;rw[List.map_id]at this;exact this
  |twice n tu=>exact go mG λc b=>hd (λn e=>nomatch e) c b|handed n tu mo=>exact go mG λc b=>hd (λn e=>nomatch e) c b|signs n tg sh mo=>exact go mG λc b=>hd (λn e=>nomatch e) c b|shared n p tg sh mo=>exact go mG λc b=>hd (λn e=>nomatch e) c b
 have i:af 9 σ g=some (.lst (hU M bx),g):=by rw[gK,s]
 have l:bW (af 9) σ g=some (hU M bx,g):=by simp only[bW,i,Zt]
 have k:bq bw (bW (af 9)) [none,none,some 3] (gN 1) bF qP σ g=some (.lst (e_ M bx),g):=by rw[eA,l];simp only[Zt,o,if_true];rw[show bM [none,none,some 3] σ = [none,none,some M.d] by simp[bM,u],c];simp[bw,h]
 unfold qV;simp only[fI,cz,k,cU,Zt,q_,bb,h,if_true]
noncomputable def Sx (long next:Fn):FS:=ax (fg (gI (aa (ao long (aa (af 3) ag)) ag)) (gN 12) (qS next)) (qE next)
theorem N5 (B:AI next)(E:∀M:MQ,M.Ok->∀g,long [M.d] g=some (.int (gr M),g))(X:eY M bx)(ok:M.Ok)(C:o<M.n)(A:g[b]? = some bx)(H:Bd g){p5 v8 v9:D}{o12 o13:Option D}:∃ph pj F5 g',Sx long next (qσ s0 s1 h M o p5 ah b v8 v9 (.tup (e_ M bx)) [] o12 o13) g=some (.nx,qσ s0 s1 h M o p5 ah b v8 v9 (.tup (e_ M bx)) F5 ph pj,g')/\Bd g':=by
 obtain⟨st,k,L⟩:=B M o ah bx ok C X;have n5:=ok.n5;have u:=ok.s1;have UX:k.length<=100:=by
  rw[L.le];have sn:∀a b:Nat,a<=1->b<=5->a*b<=5:=λa b h1 z=>Z4 (Nat.mul_le_mul h1 z) (by decide);cases M with
  |once n=>simp only[gr,MQ.n]at *;omega|twice n tu=>simp only[gr,MQ.n]at *;omega|handed n tu mo=>simp only[gr,MQ.n]at *;omega|signs n tg sh mo=>simp only[gr,MQ.n,MQ.sh]at *;have:=sn sh (n-1) u (by omega);omega|shared n p tg sh mo=>have:=ok.p4 _ _ _ _ _ rfl;simp only[gr,MQ.n,MQ.sh]at *;have:=sn sh (n-1) u (by omega);omega
 have key:wp (fg (gI (aa (ao long (aa (af 3) ag)) ag)) (gN 12) (qS next) (qσ s0 s1 h M o p5 ah b v8 v9 (.tup (e_ M bx)) [] o12 o13) g) λr=>r.1 = .nx/\(∃ph pj,r.2.1=qσ s0 s1 h M o p5 ah b v8 v9 (.tup (e_ M bx)) k ph pj)/\Bd r.2.2:=by
  rw[kN,wp_bind];refine j_ ⟨([.int (gr M)],g),?_,gr M,rfl,by omega,by have:=L.le;omega,?_⟩
  . have e:ao long (aa (af 3) ag) (qσ s0 s1 h M o p5 ah b v8 v9 (.tup (e_ M bx)) [] o12 o13) g=some (.int (gr M),g):=E M ok g
    simp only[cz,e,cU,Zt]
  refine(nM (λi σ g'=>(∃ph pj,σ=qσ s0 s1 h M o p5 ah b v8 v9 (.tup (e_ M bx)) (k.take i) ph pj)/\(∃l,N2 bx o b g i g' l)/\Bd g') _ 0 _ _ ⟨⟨_,_,rfl⟩,⟨bx,A,⟨bx,?_⟩,X.ka,X.nr,by have:=X.le;omega,λ_ _ _=>rfl⟩,H⟩ ?_ ?_)
  . obtain⟨hl,e⟩:=Zq.mp A
    rw[<- e,aat]
  . rintro i d σ g' hi ⟨⟨a,c,rfl⟩,⟨l,U⟩,j⟩
    obtain⟨q,rfl⟩:=fP hi;simp only[aa3]at U ⊢;have q:i<k.length:=by rw[L.le];simpa using q
    obtain⟨g2,Ya,x,e,U2,Yb⟩:=Jw (s0:=s0) (s1:=s1) (h:=h) (p5:=p5) (v8:=v8) (v9:=v9) (v10:=.tup (e_ M bx)) (o12:=some (.int i)) (o13:=c) L q UX U j;exact⟨_,rfl,_,e,⟨_,_,rfl⟩,⟨Ya,U2⟩,Yb⟩
  . rintro σ g' ⟨⟨a,c,rfl⟩,_,j⟩
    simp only[aa3,dq,aaP];refine⟨trivial,⟨a,c,?_⟩,j⟩;rw[<- L.le,agG]
 obtain⟨⟨f,σ',g'⟩,e,s,⟨a,c,y⟩,j⟩:=key;dsimp only at s y j;subst s y;refine⟨a,c,k,g',bG e ?_,j⟩;have t:=L.told g' j;have nx:GV next (qσ s0 s1 h M o p5 ah b v8 v9 (.tup (e_ M bx)) k a c) g'=some (.tup [.str "told",.tup (e_ M bx)],g'):=t
 obtain⟨f1,f2⟩:=Jx X;unfold qE;refine(dh (g1:=g') ?_).trans rfl;rw[fH,eB (d':=.tup [.str "told",.tup (e_ M bx)]) (g2:=g') nx rfl,ne_self f1 f2];rfl
end
def wX (a:Fn):Prop:=∀(M:MQ) (h:Nat) (g:G) (B:Int),M.Ok->Hd g h B->B+3000<2 ^ 40->∃bx g1,a [.ref h,M.d] g=some (.aX g.length,g1 ++ [bx])/\Fr h g g1/\Hd g1 h (B+2400)/\eY M bx
def rV (a:Fn):Prop:=∀(h:Nat) (g:G) (B:Int),Hd g h B->B+20<2 ^ 40->∃M g',a [.ref h,.lst yY] g=some (MQ.d M,g')/\M.Ok/\Hd g' h (B+10)/\Fr h g g'
theorem E6 {take pick:Fn}(k:eJ take)(j:iV pick):rV (aq false 7 2 (N0 take pick)):=λh g B hd c=>by obtain⟨⟨d,b⟩,e,M,i,rfl,f,a⟩:=Qx k j hd c;exact⟨M,b,e,i,f,a⟩
theorem Jy {take value places state:Fn}(f:eJ take)(i:nA value)(j:n6 state)(e:pg places):wX (aq true 5 2 (Dp places (aq false 6 3 (NT take value places state)))):=λM h g B ok hd c =>
 Qv ok e (fun {g B k} b a hd=>Qu f i j e ok a hd b) hd c
noncomputable def N7 (hand take a places b c f e:Fn):FS:=ax (aF (ao hand (aa (af 0) (aa (af 1) ag))) (gN 2)) (ax (aF (ao a (aa (af 2) (aa (aJ gv (aa (fC (.str "once")) (aa (fC (.str "twice")) (aa (fC (.str "handed")) (aa (fC (.str "signs")) (aa (fC (.str "shared")) ag)))))) ag))) (gN 3)) (ax (oV 4 5 (aa (ao take (aa (af 2) (aa (ak av (af 3) (fC (.int 1))) ag))) (aa (ao places (aa (af 3) ag)) ag))) (ax (aF (aJ az (aa (ao b (aa (af 2) (aa (af 5) ag))) (aa (ao c (aa (af 2) (aa (af 3) ag))) ag))) (gT 2 (cu (gN 6) (cu (gN 7) gw)))) (ax (aF qN (gN 8)) (ax (aF qK (gN 9)) (ax (aF qV (gN 10)) (ax (aF (aJ az ag) (gN 11)) (Sx f e))))))))
theorem QD {hand take C places A B E H:Fn}(hh:ny hand)(I:eJ take)(P:rV C)(R:pg places)(Q:rQ A)(K:wX B)(N:∀M:MQ,M.Ok->∀g,E [M.d] g=some (.int (gr M),g))(L:AI H)
  {ns:List Int} {j:Nat} (O:j<=100) {g:G} (J:Bd g) {o2 o3 o4 o5 o6 o7 o8 o9 o10 o11 o12 o13:Option D}:
  ∃Yc Yd Ye Yf Yg Yh Yi Yj UY UZ ph pj g',N7 hand take C places A B E H [some (.lst (ns.map .int)),some (.int j),o2,o3,o4,o5,o6,o7,o8,o9,o10,o11,o12,o13] g=some (.nx,[some (.lst (ns.map .int)),some (.int j),Yc,Yd,Ye,Yf,Yg,Yh,Yi,Yj,UY,UZ,ph,pj],g')/\Bd g':=by
 obtain⟨xs,e1,l⟩:=hh ns j g O;obtain⟨M,g2,e2,ok,hd2,f2⟩:=P g.length _ 0 l (by decide);have n1:=ok.n1;have n5:=ok.n5;have p5:=ok.p5;obtain⟨r,g3,e3,o0,o1,s,f3⟩:=I g.length M.n g2 _ (by decide) (by omega) (by omega) hd2;obtain⟨o,rfl⟩:∃k:Nat,r=k:=⟨r.toNat,(abM o0).symm⟩
 have ho:o<M.n:=by omega
 obtain⟨is,e,e4,il,q,f4⟩:=Q g.length M.p g3 _ (by omega) (by omega) s;obtain⟨bx,g5,e5,u,N1,X⟩:=K M g.length e _ ok q (by omega);have b5:Bd g5:=((((J.hand l).fr f2 hd2).fr f3 s).fr f4 q).fr u N1;have b6:Bd (g5 ++ [bx]):=b5.app λy x=>by simp at x;subst x;exact o_ (aab _) X.nr
 have f:(g5 ++ [bx])[e.length]? = some bx:=by rw[<- u.1];simp
 have z:aA 2=true:=rfl;generalize Zh:D.lst (ns.map .int)=S at *;have c1:ao hand (aa (af 0) (aa (af 1) ag)) [some S,some (.int j),o2,o3,o4,o5,o6,o7,o8,o9,o10,o11,o12,o13] g=some (.ref g.length,g ++ [xs]):=e1;have c4:ao A (aa (af 2) (aa (af 5) ag)) [some S,some (.int j),some (.ref g.length),some M.d,some (.int o),some (.int M.p),o6,o7,o8,o9,o10,o11,o12,o13] g3=some (.tup (is.map λ(i:Nat)=>D.int i),e):=e4;have c5:ao B (aa (af 2) (aa (af 3) ag)) [some S,some (.int j),some (.ref g.length),some M.d,some (.int o),some (.int M.p),o6,o7,o8,o9,o10,o11,o12,o13] e=some (.aX e.length,g5 ++ [bx]):=e5;have c6:aJ az (aa (ao A (aa (af 2) (aa (af 5) ag))) (aa (ao B (aa (af 2) (aa (af 3) ag))) ag)) [some S,some (.int j),some (.ref g.length),some M.d,some (.int o),some (.int M.p),o6,o7,o8,o9,o10,o11,o12,o13] g3=some (.tup [.tup (is.map λ(i:Nat)=>D.int i),.aX e.length],g5 ++ [bx]):=by simp only[kM,cz,c4,c5,cU,Zt];simp[z]
 have c7:aF (aJ az (aa (ao A (aa (af 2) (aa (af 5) ag))) (aa (ao B (aa (af 2) (aa (af 3) ag))) ag))) (gT 2 (cu (gN 6) (cu (gN 7) gw))) [some S,some (.int j),some (.ref g.length),some M.d,some (.int o),some (.int M.p),o6,o7,o8,o9,o10,o11,o12,o13] g3=some (.nx,[some S,some (.int j),some (.ref g.length),some M.d,some (.int o),some (.int M.p),some (.tup (is.map λ(i:Nat)=>D.int i)),some (.aX e.length),o8,o9,o10,o11,o12,o13],g5 ++ [bx]):=by rw[nL,c6];rfl
 obtain⟨a,c,rd,g',e9,b9⟩:=N5 (s0:=S) (s1:=.int j) (h:=g.length) (b:=e.length) (p5:=.int M.p) (ah:=.tup (is.map λ(i:Nat)=>D.int i)) (v8:=.str (eZ M)) (v9:=.lst (hU M bx)) (o12:=o12) (o13:=o13) (o:=o) L N X ok ho f b6;refine⟨_,_,_,_,_,_,_,_,_,_,_,_,g',aR c1 (aR (d:=M.d) (g1:=g2) e2 (bG (EW (d:=.int o) (d':=.int M.p) (g1:=g3) (g2:=g3) (by cases M<;>exact e3) (R M g3)) (bG (σ1:=[some S,some (.int j),some (.ref g.length),some M.d,some (.int o),some (.int M.p),some (.tup (is.map λ(i:Nat)=>D.int i)),some (.aX e.length),o8,o9,o10,o11,o12,o13]) (g1:=g5 ++ [bx]) c7 (aR (d:=.str (eZ M)) (g1:=g5 ++ [bx]) (by cases M<;>rfl) (aR (QB X ok f rfl rfl rfl) (aR (QC X ok rfl rfl) (aR (d:=.tup []) (g1:=g5 ++ [bx]) rfl e9))))))),b9⟩
end Qs
namespace K24
open PyProof.Rows L2 L3 RI
noncomputable def GX (T:Nat->Fn):FS:=(ax (bP (aD (ak oEq (ao bz (aa (af 2) ag)) (af 5))) (aI (aJ az (aa (aJ az (aa (fC (.str "read")) (aa (aJ az (aa (fC (.str "view")) (aa (ak av (af 4) (fC (.int 1))) ag))) ag))) (aa (af 5) ag)))) aQ) (aI (aJ az (aa (aJ az (aa (fC (.str "told")) (aa (ak av (af 2) (af 5)) ag))) (aa (ak aT (af 5) (fC (.int 1))) ag)))))
noncomputable def rs (T:Nat->Fn):Str->Option Fn:=λy=>match(j8 0 ds).lookup y with|some q=>some (T q.1)|none=>((j9 0 ds).lookup y).map λi=>dk (T i)
noncomputable def N8 (T:Nat->Fn):FS:=aI (ak av (af 0) (ak aT (fC (.int 1)) (zP ky (ak av (af 0) (fC (.int 0))) (af 1))))
noncomputable def Sz (T:Nat->Fn):FS:=aI (ao (T 0) (aa (af 0) (aa (fC (.str "hands")) ag)))
noncomputable def SA (T:Nat->Fn):FS:=ax (bP (aD (ak oEq (ak av (af 0) (fC (.int 0))) (fC (.str "shared")))) (aI (ao (T 0) (aa (af 0) (aa (fC (.str "places")) ag)))) aQ) (aI (ao (T 1) (aa (af 0) ag)))
noncomputable def SE (T:Nat->Fn):FS:=ax (aF (jC (aD (ak oEq (ak av (af 0) (fC (.int 0))) (fC (.str "shared")))) (fC (.str "box")) (fC (.str "own"))) (gN 1)) (aI (ao fG (aa (bq bw (gI (aa (ao (T 2) (aa (af 0) ag)) ag)) [none,none,some 1] (gN 1) bF (aJ az (aa (af 2) (aa (af 1) ag)))) ag)))
noncomputable def Yk (T:Nat->Fn):FS:=Wd.cI (rs T)
noncomputable def Yl (T:Nat->Fn):FS:=Wd.nC "renumbered" (T 1) (T 4) (T 6)
noncomputable def SF (T:Nat->Fn):FS:=aI (jC (aD (ak oEq (ak av (af 0) (fC (.int 0))) (fC (.str "handed")))) (ao (T 0) (aa (af 0) (aa (fC (.str "moves")) ag))) (fC .ay))
noncomputable def Ym (T:Nat->Fn):FS:=Wd.nB
noncomputable def SG (T:Nat->Fn):FS:=aI (bq bw (gI (aa (ao (T 1) (aa (af 0) ag)) ag)) [none,none,some 1] (gN 1) (aD (ak dD (af 1) (af 2))) (af 1))
noncomputable def SH (T:Nat->Fn):FS:=aI (jC (aD (ak oEq (ao (T 0) (aa (af 0) (aa (fC (.str "shakes")) ag))) (fC (.int 1)))) (ao (T 8) (aa (af 0) (aa (af 1) ag))) (aJ gv ag))
noncomputable def U0 (T:Nat->Fn):FS:=Wg.i9 (rs T)
noncomputable def U1 (T:Nat->Fn):FS:=Qs.Dr (T 0) (T 2) (T 9) (T 4) (T 12) (T 13) "shared_look.lambda" (GX T)
noncomputable def U3 (T:Nat->Fn):FS:=Qs.yy (T 9) (T 3) (T 10) "round_step_shared.lambda"
noncomputable def U4 (T:Nat->Fn):FS:=Qs.k_ (T 2) (T 9)
noncomputable def U5 (T:Nat->Fn):FS:=Qs.Di (T 0) (T 2) (T 8) (T 9) (T 13) (T 15)
noncomputable def U6 (T:Nat->Fn):FS:=Qs.oH (T 0)
noncomputable def U7 (T:Nat->Fn):FS:=Wg.yP (T 0) (T 1) (T 9) (T 4) (T 17) "signs_look.lambda"
noncomputable def U8 (T:Nat->Fn):FS:=Wg.yO (T 1) (T 9) (T 10) "round_step_signs.lambda"
noncomputable def U9 (T:Nat->Fn):FS:=Wg.pf (T 0) (T 1) (T 8) (T 9)
noncomputable def N9 (T:Nat->Fn):FS:=ax (bP (aD (ak oEq (ak av (af 0) (fC (.int 0))) (fC (.str "tables")))) (aI cf) aQ) (ax (bP (aD (ak oEq (ak av (af 2) (fC (.int 0))) (fC (.str "look")))) (aI (ao (T 20) (aa (af 0) (aa (af 1) (aa (af 4) ag))))) aQ) (aI cf))
noncomputable def wY (T:Nat->Fn):FS:=ax (aF (ak av (af 0) (fC (.int 0))) (gN 3)) (ax (bP (aD (ak oEq (af 3) (fC (.str "once")))) (aI (ao (T 21) (aa (af 0) (aa (af 2) ag)))) aQ) (ax (bP (aD (ak oEq (af 3) (fC (.str "signs")))) (aI (ak av (ao (T 16) (aa (af 0) (aa (af 1) (aa (af 2) ag)))) (fC (.int 0)))) aQ) (ax (bP (aD (ak oEq (af 3) (fC (.str "shared")))) (aI (ak av (ao (T 11) (aa (af 0) (aa (af 1) (aa (af 2) ag)))) (fC (.int 0)))) aQ) (aI (ak av (ao (T 5) (aa (af 0) (aa (af 2) ag))) (fC (.int 0)))))))
noncomputable def E_ (T:Nat->Fn):FS:=ax (aF (ao (T 3) (aa (af 0) ag)) (gN 2)) (ax (bP (aD (ak oLt (ao bz (aa (af 1) ag)) (ao bz (aa (af 2) ag)))) (aI (aJ az (aa (fC (.str "read")) (aa (ak av (af 2) (ao bz (aa (af 1) ag))) ag)))) aQ) (aI (aJ az (aa (fC (.str "told")) (aa (af 1) ag)))))
noncomputable def U_ (T:Nat->Fn):FS:=Pd.uC
noncomputable def Va (T:Nat->Fn):FS:=Pd.uD
noncomputable def Vb (T:Nat->Fn):FS:=Pd.Au (T 23)
noncomputable def Vc (T:Nat->Fn):FS:=Wd.uE (T 23) (T 24)
noncomputable def Vd (T:Nat->Fn):FS:=Qs.N0 (T 23) (T 24)
noncomputable def Ve (T:Nat->Fn):FS:=Qs.Sr
noncomputable def Vf (T:Nat->Fn):FS:=Wd.qF (T 25)
noncomputable def Vg (T:Nat->Fn):FS:=Qs.NT (T 23) (T 25) (T 27) (T 28)
noncomputable def Vh (T:Nat->Fn):FS:=Qs.Dp (T 27) (T 29)
noncomputable def Vi (T:Nat->Fn):FS:=Wd.qu (T 24)
noncomputable def Vj (T:Nat->Fn):FS:=Qs.Sw
noncomputable def Fb (T:Nat->Fn):FS:=ax (fg (gI (aa (ak aT (fC (.int 4)) (ao ((ji km gZ)) (aa (fC (.int 6)) (aa (ao bz (aa (af 0) ag)) ag)))) ag)) (gN 1) (Qs.N7 (T 22) (T 23) (T 26) (T 27) (T 31) (T 30) (T 32) (T 19))) (aI (fC (.bl true)))
noncomputable def Vk (T:Nat->Fn):FE:=ao (T 14) (aa (af 0) (aa (af 1) (aa (af 2) ag)))
noncomputable def Vl (T:Nat->Fn):FE:=af 0
noncomputable def Vm (T:Nat->Fn):FE:=ao (T 18) (aa (af 0) (aa (af 1) (aa (af 2) ag)))
noncomputable def Vn (T:Nat->Fn):FE:=ak av (ak av (af 1) (fC (.int 1))) (af 0)
noncomputable def tab:Nat->Nat->Fn
 | 0,_=>λ_ _=>none|k+1,0=>(aq false 2 2 (N8 (tab k)))|k+1,1=>(aq false 1 1 (Sz (tab k)))|k+1,2=>(aq false 1 1 (SA (tab k)))|k+1,3=>(aq false 2 1 (SE (tab k)))|k+1,4=>(aq false 10 5 (Yk (tab k)))|k+1,5=>(aq false 6 2 (Yl (tab k)))|k+1,6=>(aq false 1 1 (SF (tab k)))|k+1,7=>(aq false 2 1 (Ym (tab k)))|k+1,8=>(aq false 2 2 (SG (tab k)))|k+1,9=>(aq false 2 2 (SH (tab k)))|k+1,10=>(aq false 5 4 (U0 (tab k)))|k+1,11=>(aq false 6 3 (U1 (tab k)))|k+1,12=>(aq false 6 3 (U3 (tab k)))|k+1,13=>(aq false 4 3 (U4 (tab k)))|k+1,14=>(aq false 12 3 (U5 (tab k)))|k+1,15=>(aq false 3 3 (U6 (tab k)))|k+1,16=>(aq false 8 3 (U7 (tab k)))|k+1,17=>(aq false 6 3 (U8 (tab k)))|k+1,18=>(aq false 10 3 (U9 (tab k)))|k+1,19=>(aq false 5 5 (N9 (tab k)))|k+1,20=>(aq false 4 3 (wY (tab k)))|k+1,21=>(aq false 3 2 (E_ (tab k)))|k+1,22=>(aq true 3 2 (U_ (tab k)))|k+1,23=>(aq false 6 2 (Va (tab k)))|k+1,24=>(aq false 2 2 (Vb (tab k)))|k+1,25=>(aq false 2 1 (Vc (tab k)))|k+1,26=>(aq false 7 2 (Vd (tab k)))|k+1,27=>(aq false 1 1 (Ve (tab k)))|k+1,28=>(aq false 2 2 (Vf (tab k)))|k+1,29=>(aq false 6 3 (Vg (tab k)))|k+1,30=>(aq true 5 2 (Vh (tab k)))|k+1,31=>(aq false 2 2 (Vi (tab k)))|k+1,32=>(aq false 2 1 (Vj (tab k)))|k+1,33=>(aq false 14 1 (Fb (tab k)))|k+1,34=>bO 2 1 (Vk (tab k))|k+1,35=>bO 0 1 (Vl (tab k))|k+1,36=>bO 2 1 (Vm (tab k))|k+1,37=>bO 1 1 (Vn (tab k))|_+1,_=>λ_ _=>none
theorem rws (k:Nat):wm mo (tab k) (tab (k+1)) k 0 mo.ds:=by repeat (first|exact .nil| (refine .cons ?_ ?_;· kernel_rfl))
theorem good:Good mo tab:=Jb (λ_ _ _=>rfl) rws (by decide +kernel) (by decide +kernel)
end K24
namespace Qs
open L3 L2 RI Pd Wd Wg SJ
section
variable {M:MQ}{o:Nat}{bx:List D}
theorem ma {l:List (D×D)}(h:∀q∈l,stepOk bx o q.1 q.2)(i:Nat)(x r:D)(b:(l.map (·.1))[i]? = some x)(a:(l.map (·.2))[i]? = some r):stepOk bx o x r:=by rw[ZE]at b a;obtain⟨q,e,rfl⟩:=Zv.mp b;rw[e]at a;cases a;exact h q (ZP e)
theorem rW {a b:Type}(f:a->b):∀S:List a,S.zip (S.map f)=S.map λj=>(j,f j)
 | []=>rfl|x::S=>by rw[aaE,List.zip_cons_cons,rW f S];rfl
theorem iD {b a c:Type}(f:b->a)(g:a->List c):∀S:List b,(S.map f).flatMap g=S.flatMap λx=>g (f x)
 | []=>rfl|x::S=>by rw[aaE,aaR,aaR,iD f g S]
theorem jT {b a c:Type}(f:a->c)(g:b->List a):∀S:List b,(S.flatMap g).map f=S.flatMap λx=>(g x).map f
 | []=>rfl|x::S=>by rw[aaR,aaR,aag,jT f g S]
theorem wZ (X:eY M bx){j:Nat}(b:j<M.n):stepOk bx o (.tup [.str "read",own "own" j]) (eC bx "own" j):=by obtain⟨c,a⟩:=X.ow j b;exact .inl ⟨_,rfl,rfl,λi e=>absurd e gh,by unfold eC;rw[a];rfl⟩
theorem N_ (X:eY M bx){j:Nat}(b:j<M.p):stepOk bx o (.tup [.str "read",own "box" j]) (eC bx "box" j):=by obtain⟨c,a⟩:=X.bo j b;exact .inl ⟨_,rfl,rfl,λi e=>absurd e gh,by unfold eC;rw[a];rfl⟩
noncomputable def yZ (bx:List D)(o j:Nat):Int:=GL ((bh bx (two "call" j o)).getD .ay)
theorem y4 (X:eY M bx){j:Nat}(k:j<M.n)(h:o<M.n):stepOk bx o (.tup [.str "read",two "call" j o]) (.int (yZ bx o j)):=by obtain⟨c,f⟩:=X.cl j o k h;obtain⟨x,e⟩:=(X.ck _ c (.call j o) f).1.2.2 j o rfl;subst e;exact .inl ⟨_,rfl,rfl,λi e=>absurd (Dk (a:="call") (b:="sign") e).1 (by decide),by unfold yZ;rw[f];rfl⟩
theorem y9 {j:Nat}{b:Int}:stepOk bx o (.tup [.str "write",cg o j,.int b]) .ay:=.inr ⟨j,b,rfl,rfl⟩
theorem qI (X:eY M bx){j:Nat}(b:j<M.n):E3 M (eC bx "own" j):=by obtain⟨c,a⟩:=X.ow j b;have:=(X.ck _ c (.own j) a).1.2.1 j rfl;unfold eC;rw[a];exact this
theorem Oa (X:eY M bx){j:Nat}(b:j<M.p):BC (eC bx "box" j):=by obtain⟨c,a⟩:=X.bo j b;have:=(X.ck _ c (.box j) a).1.1 j rfl;unfold eC;rw[a];exact this
end
section
variable {n tg sh mo o:Nat}{bx:List D}
noncomputable def cE (bx:List D)(n:Nat):List D:=(ZN n).map (eC bx "own")
noncomputable def jU (bx:List D)(n o sh:Nat):List D:=(aB n o sh).map (eC bx "own")
noncomputable def lS (bx:List D)(n o sh:Nat):List (D×D):=((aB n o sh).flatMap λj=>[(D.tup [.str "read",own "own" j],eC bx "own" j),(.tup [.str "write",cg o j,.int (cB (eC bx "own" j) o)],.ay)])++((ZN n).map λj=>(D.tup [.str "read",own "own" j],eC bx "own" j))++(ZN n).map λj=>(D.tup [.str "read",own "own" j],eC bx "own" j)
theorem QE:(lS bx n o sh).map (·.1)=wM n o sh (jU bx n o sh):=by unfold lS wM jU;rw[rW,iD,aag,aag,jT,abx];rfl
theorem uI:(lS bx n o sh).map (·.2)=cC (jU bx n o sh) (cE bx n) (cE bx n):=by unfold lS cC jU cE dI;rw[iD,aag,aag,jT,abx];rfl
theorem QF (X:eY (.signs n tg sh mo) bx):∀q∈lS bx n o sh,stepOk bx o q.1 q.2:=λq a=>by
 have c:q∈((ZN n).map λj=>(D.tup [.str "read",own "own" j],eC bx "own" j))->stepOk bx o q.1 q.2:=λh=>by obtain⟨j,b,rfl⟩:=ZK.mp h;exact wZ X (aap.mp b)
 unfold lS at a;rcases Zy.mp a with a|a
 . rcases Zy.mp a with a|a
   . obtain⟨j,b,a⟩:=adv.mp a
     simp only[Zx,aaF,or_false]at a;rcases a with rfl|rfl
     . exact wZ X (gP.mp b).2.1
     . exact y9
   . exact c a
 . exact c a
theorem w4 (X:eY (.signs n tg sh mo) bx):∀c∈cE bx n,SC n c:=λc a=>by obtain⟨j,b,rfl⟩:=ZK.mp a;exact qI X (aap.mp b)
theorem Vo (X:eY (.signs n tg sh mo) bx):ij n o sh (jU bx n o sh) (cE bx n) (cE bx n):=⟨by simp[jU],by simp[cE],by simp[cE],λc a=>by obtain⟨j,b,rfl⟩:=ZK.mp a;exact qI X (gP.mp b).2.1,w4 X,w4 X⟩
theorem Ob (e:sh<=1):hJ n o tg sh (jU bx n o sh) (cE bx n) (cE bx n)= []:=by
 unfold hJ;rw[afd];intro j b;have a:=js.mp b;have c:(cE bx n).getD j .ay=eC bx "own" j:=by simp[cE,ZQ,a.1]
 simp only[qA,k8,ne_eq,not_true_eq_false,decide_false,afl,Bool.false_or,Bool.or_self,c];by_cases h1:sh=1
 . have hm:j∈aB n o sh:=gP.mpr ⟨h1,a⟩
   have lt:=List.idxOf_lt_length_iff.mpr hm;have:(jU bx n o sh).getD ((aB n o sh).idxOf j) .ay=eC bx "own" j:=by rw[ZQ,jU,ZE,Zn lt,List.getElem_idxOf];rfl
   unfold sgn;rw[this];simp
 . simp[h1]
end
section
variable {n p tg sh mo o:Nat}{bx:List D}
noncomputable def w5 (bx:List D)(p:Nat):List D:=(ZN p).map (eC bx "box")
noncomputable def w6 (bx:List D)(n o sh:Nat):List Int:=(aB n o sh).map (yZ bx o)
noncomputable def lH (bx:List D)(n p o sh:Nat):List (D×D):=((aB n o sh).flatMap λ(j:Nat)=>[(D.tup [.str "read",.tup [.str "call",.int j,.int o]],D.int (yZ bx o j)),(.tup [.str "write",cg o j,.int (yZ bx o j)],.ay)])++(((ZN p).map λj=>(D.tup [.str "read",own "box" j],eC bx "box" j))++((ZN p).map λj=>(D.tup [.str "read",own "box" j],eC bx "box" j))++(aB n o sh).map λ(j:Nat)=>(D.tup [.str "read",.tup [.str "call",.int j,.int o]],D.int (yZ bx o j)))
theorem QG:(lH bx n p o sh).map (·.1)=stH n p o sh (w6 bx n o sh):=by unfold lH stH w6 E5 oI eN cls;rw[rW,iD,aag,aag,aag,jT,aag,aag];simp only[abx];rfl
theorem uJ:(lH bx n p o sh).map (·.2)=bC (w6 bx n o sh) (w5 bx p):=by unfold lH bC w6 w5 dI bI;rw[iD,iD,aag,aag,aag,jT];simp only[abx,Z3];rfl
theorem QH (X:eY (.shared n p tg sh mo) bx)(e:o<n):∀q∈lH bx n p o sh,stepOk bx o q.1 q.2:=λq a=>by
 have c:q∈((ZN p).map λj=>(D.tup [.str "read",own "box" j],eC bx "box" j))->stepOk bx o q.1 q.2:=λh=>by obtain⟨j,b,rfl⟩:=ZK.mp h;exact N_ X (aap.mp b)
 unfold lH at a;rcases Zy.mp a with a|a
 . obtain⟨j,b,a⟩:=adv.mp a
   simp only[Zx,aaF,or_false]at a;rcases a with rfl|rfl
   . exact y4 X (gP.mp b).2.1 e
   . exact y9
 . rcases Zy.mp a with a|a
   . rcases Zy.mp a with a|a
     . exact c a
     . exact c a
   . obtain⟨j,b,rfl⟩:=ZK.mp a
     exact y4 X (gP.mp b).2.1 e
theorem Vp (X:eY (.shared n p tg sh mo) bx):kg n p o sh (w6 bx n o sh) (w5 bx p):=⟨by simp[w6],by simp[w5],λc a=>by obtain⟨j,b,rfl⟩:=ZK.mp a;exact Oa X (aap.mp b)⟩
end
theorem y_ {n o sh:Nat}(c:n<=5)(a:o<n)(b:sh<=1):(aB n o sh).length=sh*(n-1):=(show ∀n,n<=5->∀o,o<n->∀sh,sh<=1->(aB n o sh).length=sh*(n-1) by decide) n c o a sh b
end Qs
namespace K24
open L3 L2 RI Pd Wd Wg SJ Qs
section
variable {M:MQ}{k o:Nat}{ah x u:D}{rd:List D}{g:G}
theorem Yn (k:Nat)(g:G):tab (k+1) 0 [M.d,.str "hands"] g=some (.int M.n,g):=by show aq false 2 2 (N8 (tab k)) _ g=_;cases M<;>exact aM rfl (cF rfl) rfl
theorem iE (k:Nat)(g:G):tab (k+2) 1 [M.d] g=some (.int M.n,g):=by show aq false 1 1 (Sz (tab (k+1))) _ g=_;exact aM rfl (cF (Yn k g)) rfl
theorem Oc (k:Nat)(g:G):tab (k+3) 2 [M.d] g=some (.int M.p,g):=by
 show aq false 1 1 (SA (tab (k+2))) _ g=_;cases M with
 |shared n p tg sh mo =>
  refine aM rfl (eE (g1:=g) rfl ?_) rfl;show tab (k+2) 0 [(MQ.shared n p tg sh mo).d,.str "places"] g=_;show aq false 2 2 (N8 (tab (k+1))) _ g=_;exact aM rfl (cF rfl) rfl
 |once n=>exact aM rfl (bG ((dh (g1:=g) rfl).trans rfl) (cF (iE (M:=.once n) k g))) rfl|twice n tu=>exact aM rfl (bG ((dh (g1:=g) rfl).trans rfl) (cF (iE (M:=.twice n tu) k g))) rfl|handed n tu mo=>exact aM rfl (bG ((dh (g1:=g) rfl).trans rfl) (cF (iE (M:=.handed n tu mo) k g))) rfl|signs n tg sh mo=>exact aM rfl (bG ((dh (g1:=g) rfl).trans rfl) (cF (iE (M:=.signs n tg sh mo) k g))) rfl
theorem GY (ok:M.Ok)(k:Nat)(g:G):tab (k+4) 3 [M.d] g=some (.tup ((ZN M.p).map λj=>own (eZ M) j),g):=by
 show aq false 2 1 (SE (tab (k+3))) _ g=_;have l:=ok.p5;have i:aA 2=true:=rfl;have b:aA M.p=true:=aO (by omega);have c:=cM (t:=gN 1) (c:=bF) (e:=aJ az (aa (af 2) (aa (af 1) ag))) (h:=λd=>D.tup [.str (eZ M),d]) (λσ=>∃a,σ = [none,a,some (.str (eZ M))]) (eS 0 M.p) [none,none,some (.str (eZ M))] g ⟨_,rfl⟩ (by rintro t hm σ ⟨a,rfl⟩;exact⟨[none,some t,some (.str (eZ M))],by simp,by simp,by simp[i],_,rfl⟩)
 have r:=qw (fr:=aa (ao (tab (k+3) 2) (aa (af 0) ag)) ag) (σ:=[some M.d,some (.str (eZ M))]) (g:=g) (g1:=g) (n:=M.p) (by have e:ao (tab (k+3) 2) (aa (af 0) ag) [some M.d,some (.str (eZ M))] g=some (.int M.p,g):=Oc k g;simp only[cz,e,cU,Zt]) (by omega)
 have f:bq bw (gI (aa (ao (tab (k+3) 2) (aa (af 0) ag)) ag)) [none,none,some 1] (gN 1) bF (aJ az (aa (af 2) (aa (af 1) ag))) [some M.d,some (.str (eZ M))] g=some (.lst ((ZN M.p).map λj=>own (eZ M) j),g):=by rw[eA,r];simp only[Zt,dq,b,if_true];rw[show bM [none,none,some 1] [some M.d,some (.str (eZ M))]= [none,none,some (.str (eZ M))] from rfl,c];simp[bw,eS,own,aaQ,b]
 refine aM rfl (aR (d:=.str (eZ M)) (g1:=g) (by cases M<;>rfl) (cF ?_)) rfl;show ao fG (aa (bq bw _ _ _ _ _) ag) [some M.d,some (.str (eZ M))] g=_;simp only[fI,cz,f,cU,Zt,q_,bb];rw[if_pos (by simpa using b)]
theorem AJ (ok:M.Ok)(k:Nat)(g:G):tab (k+3) 8 [M.d,.int o] g=some (.lst (dN (eL M.n o)),g):=by
 show aq false 2 2 (SG (tab (k+2))) _ g=_;have i:=ok.n5;have r:=qw (fr:=aa (ao (tab (k+2) 1) (aa (af 0) ag)) ag) (σ:=[some M.d,some (.int o)]) (g:=g) (g1:=g) (n:=M.n) (by have e:ao (tab (k+2) 1) (aa (af 0) ag) [some M.d,some (.int o)] g=some (.int M.n,g):=iE k g;simp only[cz,e,cU,Zt]) (by omega)
 have zn:aA M.n=true:=aO (by omega);have c:∀(l:List Nat) (a:Option D),cy (gN 1) (aD (ak dD (af 1) (af 2))) (af 1) (dN l) [none,a,some (.int o)] g=some (dN (l.filter λj=>!(j == o)),g):=λl=>by
  induction l with
  |nil=>exact λ_=>rfl
  |cons j l ih =>
   intro a;have t:aD (ak dD (af 1) (af 2)) [none,some (.int j),some (.int o)] g=some (decide ((j:Int)≠o),g):=by rw[fH,eB (d:=.int j) (d':=.int o) (g1:=g) (g2:=g) rfl rfl,ne_int];rfl
   have b:=ih (some (.int j));simp only[dN,aaE]at b ⊢;simp only[cy];rw[show gN 1 (D.int j) [none,a,some (.int o)] g=some ([none,some (.int j),some (.int o)],g) from rfl];simp only[Zt,t];by_cases e:j=o
   . subst e
     simp[b]
   . have f:((j:Int)≠o):=by omega
     rw[decide_eq_true f];simp only[if_true,show af 1 [none,some (D.int j),some (.int o)] g=some (.int j,g) from rfl,Zt,b];simp[e]
 have zl:aA (dN (eL M.n o)).length=true:=aO (by rw[bY];have:=k6 (n:=M.n) (o:=o);omega);refine aM rfl (cF ?_) rfl;show bq bw _ _ _ _ _ [some M.d,some (.int o)] g=_;rw[eA,r];simp only[Zt,dq,zn,if_true];have h:eS 0 M.n=dN (ZN M.n):=by simp[eS,dN]
 rw[show bM [none,none,some 1] [some M.d,some (.int o)]= [none,none,some (.int o)] from rfl,h,c];simp only[Zt,bw];rw[show(ZN M.n).filter (λj=>!(j == o))=eL M.n o from rfl]
theorem GZ (ok:M.Ok)(b:tab (k+3) 0 [M.d,.str "shakes"] g=some (.int M.sh,g)):tab (k+4) 9 [M.d,.int o] g=some (.lst (dN (aB M.n o M.sh)),g):=by
 show aq false 2 2 (SH (tab (k+3))) _ g=_;refine aM rfl (cF ?_) rfl;have t:aD (ak oEq (ao (tab (k+3) 0) (aa (af 0) (aa (fC (.str "shakes")) ag))) (fC (.int 1))) [some M.d,some (.int o)] g=some (decide ((M.sh:Int)=1),g):=by have a:ao (tab (k+3) 0) (aa (af 0) (aa (fC (.str "shakes")) ag)) [some M.d,some (.int o)] g=some (.int M.sh,g):=b;rw[fH,eB (d':=.int 1) (g2:=g) a rfl];by_cases e:(M.sh:Int)=1<;>simp[d6,L3.flat,L3.dep,aH,e]
 show jC _ _ _ [some M.d,some (.int o)] g=_;rw[xU,t];simp only[Zt];by_cases h:M.sh=1
 . rw[if_pos (by simp[h])]
   unfold aB;rw[if_pos h];exact AJ ok k g
 . rw[if_neg (by simp;omega)]
   unfold aB;rw[if_neg h];rfl
theorem hX (k:Nat)(h:tab (k+9) 20 [M.d,.int o,.tup rd] g=some (x,g)):tab (k+10) 19 [M.d,.int o,AH,ah,.tup rd] g=some (x,g):=by show aq false 5 5 (N9 (tab (k+9))) _ g=_;exact aM rfl (bG ((dh (g1:=g) (by cases M<;>rfl)).trans rfl) (eE (g1:=g) rfl h)) rfl
theorem Du {n:Nat}(k:Nat)(h:tab (k+8) 21 [(MQ.once n).d,.tup rd] g=some (x,g)):tab (k+9) 20 [(MQ.once n).d,.int o,.tup rd] g=some (x,g):=by
 show aq false 4 3 (wY (tab (k+8))) _ g=_;have a:ao (tab (k+8) 21) (aa (af 0) (aa (af 2) ag)) [some (MQ.once n).d,some (.int o),some (.tup rd),some (.str "once")] g=some (x,g):=by rw[fI,show aa (af 0) (aa (af 2) ag) [some (MQ.once n).d,some (.int o),some (.tup rd),some (.str "once")] g=some ([(MQ.once n).d,.tup rd],g) from rfl,Zt];exact h
 exact aM rfl (aR (d:=.str "once") (g1:=g) rfl (eE (g1:=g) rfl a)) rfl
theorem ze {n tg sh mo:Nat}(k:Nat)(h:tab (k+8) 16 [(MQ.signs n tg sh mo).d,.int o,.tup rd] g=some (.tup [x,u],g)):tab (k+9) 20 [(MQ.signs n tg sh mo).d,.int o,.tup rd] g=some (x,g):=by show aq false 4 3 (wY (tab (k+8))) _ g=_;exact aM rfl (aR (d:=.str "signs") (g1:=g) rfl (bG ((dh (g1:=g) rfl).trans rfl) (eE (g1:=g) rfl ((eB (d:=.tup [x,u]) (g1:=g) h rfl).trans rfl)))) rfl
theorem w8 {n p tg sh mo:Nat}(k:Nat)(h:tab (k+8) 11 [(MQ.shared n p tg sh mo).d,.int o,.tup rd] g=some (.tup [x,u],g)):tab (k+9) 20 [(MQ.shared n p tg sh mo).d,.int o,.tup rd] g=some (x,g):=by show aq false 4 3 (wY (tab (k+8))) _ g=_;exact aM rfl (aR (d:=.str "shared") (g1:=g) rfl (bG ((dh (g1:=g) rfl).trans rfl) (bG ((dh (g1:=g) rfl).trans rfl) (eE (g1:=g) rfl ((eB (d:=.tup [x,u]) (g1:=g) h rfl).trans rfl))))) rfl
theorem AK {w:Str}(k:Nat)(hw:ak av (af 0) (fC (.int 0)) [some M.d,some (.int o),some (.tup rd),none] g=some (.str w,g))(a:w = "twice" \/ w = "handed")(h:tab (k+8) 5 [M.d,.tup rd] g=some (.tup [x,u],g)):tab (k+9) 20 [M.d,.int o,.tup rd] g=some (x,g):=by
 show aq false 4 3 (wY (tab (k+8))) _ g=_;rcases a with rfl|rfl
 . exact aM rfl (aR hw (bG ((dh (g1:=g) rfl).trans rfl) (bG ((dh (g1:=g) rfl).trans rfl) (bG ((dh (g1:=g) rfl).trans rfl) (cF ((eB (d:=.tup [x,u]) (g1:=g) h rfl).trans rfl)))))) rfl
 . exact aM rfl (aR hw (bG ((dh (g1:=g) rfl).trans rfl) (bG ((dh (g1:=g) rfl).trans rfl) (bG ((dh (g1:=g) rfl).trans rfl) (cF ((eB (d:=.tup [x,u]) (g1:=g) h rfl).trans rfl)))))) rfl
end
theorem Oe:mG=Wd.Aw:=funext λd=>by
 cases d with
 |tup xs=>cases xs<;>rfl|_=>rfl
section
variable {o:Nat}{ah:D}{bx:List D}
noncomputable def lO (bx:List D)(n:Nat):List (D×D):=(ZN n).map λj=>(D.tup [.str "read",own "own" j],eC bx "own" j)
theorem AL {M:MQ}(X:eY M bx):∀q∈lO bx M.n,stepOk bx o q.1 q.2:=λq h=>by obtain⟨j,a,rfl⟩:=ZK.mp h;exact wZ X (aap.mp a)
theorem AM {n i:Nat}(h:i<n):((lO bx n).map (·.1))[i]? = some (.tup [.str "read",own "own" i]):=by simp[lO,h]
theorem uK {n:Nat}:(lO bx n).map (·.2)=cE bx n:=by simp[lO,cE,aaQ]
theorem rX {n:Nat}:(cE bx n).length=n:=by simp[cE]
theorem Of (k:Nat){n:Nat}(ok:(MQ.once n).Ok)(X:eY (.once n) bx):∃st rd,l_ (tab (k+11) 19) (.once n) o ah bx st rd:=by
 have r:n<=5:=ok.n5;have b:aA 2=true:=rfl;have col:∀g,tab (k+8) 3 [(MQ.once n).d] g=some (.tup ((ZN n).map λj=>own "own" j),g):=λg=>GY ok (k+4) g;have rl:((ZN n).map λj=>own "own" j).length=n:=by simp
 have a:∀(W:List D) g,ao (tab (k+8) 3) (aa (af 0) ag) [some (MQ.once n).d,some (.tup W),none] g=some (.tup ((ZN n).map λj=>own "own" j),g):=λW g=>by rw[fI,show aa (af 0) ag [some (MQ.once n).d,some (.tup W),none] g=some ([(MQ.once n).d],g) from rfl,Zt];exact col g
 refine⟨(lO bx n).map (·.1),(lO bx n).map (·.2),by simp,ma (AL X),λi l g bd=>?_,λg bd=>?_,by simp[lO,gr]⟩
 . have c:i<n:=by simpa[lO]using l
   refine⟨_,AM c,hX (k+1) (Du (k+1) ?_)⟩;rw[uK];have lt:((cE bx n).take i).length=i:=by rw[aah,rX];omega
   generalize (cE bx n).take i=W at lt;show aq false 3 2 (E_ (tab (k+8))) _ g=_;have at_:cA ((ZN n).map λj=>own "own" j) (i:Int)=some (own "own" i):=gF (by simp[c])
   have h:(i:Int)<(n:Int):=by omega
   generalize f:((ZN n).map λj=>own "own" j)=L at a rl at_
   refine aM (σ':=[some (MQ.once n).d,some (.tup W),some (.tup L)]) rfl (aR (a W g) (eE (g1:=g) ?_ ?_)) rfl
   . simp[lt,rl,h,d6]
   . simp[lt,d9,bb,at_,b]
 . refine hX (k+1) (Du (k+1) ?_)
   rw[uK];show aq false 3 2 (E_ (tab (k+8))) _ g=_;have e:cE bx n=e_ (.once n) bx:=rfl;have lt:(cE bx n).length=n:=rX;rw[<- e];generalize cE bx n=W at lt;have q:¬((n:Int)<(n:Int)):=by omega
   generalize f:((ZN n).map λj=>own "own" j)=L at a rl;refine aM (σ':=[some (MQ.once n).d,some (.tup W),some (.tup L)]) rfl (aR (a W g) (bG ((dh (g1:=g) ?_).trans rfl) (cF ?_))) rfl
   . simp[lt,rl,d6]
   . simp[b]
theorem G_ (k:Nat){M:MQ}{w:Str}{mv:D}(ok:M.Ok)(X:eY M bx)(J:M.p=M.n)(hw:∀rd g,ak av (af 0) (fC (.int 0)) [some M.d,some (.int o),some (.tup rd),none] g=some (.str w,g))(C:w = "twice" \/ w = "handed")(B:∀g,tab (k+8) 6 [M.d] g=some (mv,g))(A:flat mv=true)(E:∀c∈cE bx M.n,mC c)(I:e_ M bx=(cE bx M.n).map mG)(H:gr M=2*M.n):∃st rd,l_ (tab (k+11) 19) M o ah bx st rd:=by
 have b:=ok.n1;have n5:=ok.n5;have r:tab (k+9) 5=aq false 6 2 (nC "renumbered" (tab (k+8) 1) (aq false 10 5 (cI (rs (tab (k+7))))) (tab (k+8) 6)):=rfl;have f:rs (tab (k+7)) "renumbered" = some (aq false 2 1 nB):=rfl;have l:∀g,tab (k+8) 1 [M.d] g=some (.int M.n,g):=λg=>iE (k+6) g;have cl:=rX (bx:=bx) (n:=M.n);have x:k5 M.n []:=⟨by simp,by simp,b,by omega,by simp⟩
 have s:k5 M.n [cE bx M.n]:=⟨by simpa using cl,by simpa using E,b,by omega,by simp;omega⟩
 have R2:k5 M.n [cE bx M.n,cE bx M.n]:=⟨by simpa using cl,by simpa using E,b,by omega,by simp;omega⟩
 refine⟨(lO bx M.n++lO bx M.n).map (·.1),(lO bx M.n++lO bx M.n).map (·.2),by simp,ma λq hq=>(Zy.mp hq).elim (AL X q) (AL X q),λi y g bd=>?_,λg bd=>?_,by simp[lO,H];omega⟩
 . have jX:i<2*M.n:=by simp[lO]at y;omega
   rw[aag,aag,uK];by_cases h:i<M.n
   . refine⟨.tup [.str "read",own "own" i],by rw[ZI (by simpa[lO]using h)];exact AM h,hX (k+1) (AK (w:=w) (u:=.int i) (k+1) (hw _ g) C ?_)⟩
     have lt:((cE bx M.n).take i).length=i:=by rw[aah,cl];omega
     have e:=yF (rest:=(cE bx M.n).take i) l B f pd x A (by rw[lt];exact h) bd (λj a=>by simp at a);rw[abS,abh,lt,adu h,<- r]at e;rw[abK (by rw[cl];omega)];exact e
   . have lt:((cE bx M.n).take (i-M.n)).length=i-M.n:=by rw[aah,cl];omega
     refine⟨.tup [.str "read",own "own" (i-M.n)],?_,hX (k+1) (AK (w:=w) (u:=.int i) (k+1) (hw _ g) C ?_)⟩
     . rw[ZX (by simp[lO];omega)]
       have:i-((lO bx M.n).map (·.1)).length=i-M.n:=by simp[lO]
       rw[this];exact AM (by omega)
     have e:=yF (rest:=(cE bx M.n).take (i-M.n)) l B f pd s A (by rw[lt];omega) bd (λj a=>by simp at a);rw[aaj,abS,aaL,ZH,lt,cl,show M.n+(i-M.n)=i by omega,af5 (by omega),adu (by omega),<- r]at e;rw[List.take_append,aal (by rw[cl];omega),cl];exact e
 . have e:=Jo (rest:=[]) (en:=none) l B f pd R2 A bd (by simp) (λj a=>absurd a (by simp only[aaz,aeX];omega)) (show bD _ _ = [] from ?_) (λz=>absurd rfl z)
   . rw[<- r]at e
     simp only[aaj,abS,aaL]at e;rw[aag,uK,I,Oe];exact hX (k+1) (AK (w:=w) (k+1) (hw _ g) C e)
   . unfold bD
     rw[afd];intro j _;simp[CT]
end
section
variable {o n p tg sh mo:Nat}{ah:D}{bx:List D}
theorem Yp (k:Nat)(ok:(MQ.signs n tg sh mo).Ok)(a:o<n):C_ (MQ.signs n tg sh mo).d n o tg sh mo (tab (k+8) 0) (tab (k+8) 1) (tab (k+8) 8) (tab (k+8) 9) (rs (tab (k+7))) (rs (tab (k+6))) "signs_look.lambda" "round_step_signs.lambda" :=
 ⟨⟨λg=>iE (M:=.signs n tg sh mo) (k+6) g,λg=>aM rfl (cF rfl) rfl,λg=>AJ ok (k+5) g,λg=>GZ ok (aM rfl (cF rfl) rfl),a,ok.n5⟩,λg=>aM rfl (cF rfl) rfl,rfl,rfl,rfl⟩
theorem Og (k:Nat):tab (k+9) 16=aq false 8 3 (yP (tab (k+8) 0) (tab (k+8) 1) (tab (k+8) 9) (aq false 10 5 (cI (rs (tab (k+7))))) (aq false 6 3 (yO (tab (k+8) 1) (tab (k+8) 9) (aq false 5 4 (i9 (rs (tab (k+6))))) "round_step_signs.lambda")) "signs_look.lambda"):=rfl
theorem Jz (k:Nat)(ok:(MQ.signs n tg sh mo).Ok)(A:o<n)(X:eY (.signs n tg sh mo) bx):∃st rd,l_ (tab (k+11) 19) (.signs n tg sh mo) o ah bx st rd:=by
 have s:n<=5:=ok.n5;have s1:sh<=1:=ok.s1;have F:=Yp k ok A;have R:=Vo (o:=o) X;have W0:oG n o sh []:=⟨by simp,by simp⟩
 have y:bV n o sh=gr (.signs n tg sh mo):=by unfold bV;rw[y_ s A s1];simp only[gr];omega
 have wl:(cC (jU bx n o sh) (cE bx n) (cE bx n)).length=bV n o sh:=R.wl
 refine⟨(lS bx n o sh).map (·.1),(lS bx n o sh).map (·.2),by simp,ma (QF X),λi f g bd=>?_,λg bd=>?_,by rw[uI,wl,y]⟩
 . rw[uI,wl]at f
   obtain⟨x,u,q,e⟩:=Df (g:=g) (r:=(jU bx n o sh,cE bx n,cE bx n)) F W0 R f λj a=>by simp at a
   rw[<- Og]at e;refine⟨x,by rw[QE];exact q,hX (k+1) (ze (u:=u) (k+1) ?_)⟩;rw[uI];exact e
 . have l:mF n o tg sh (jU bx n o sh,cE bx n,cE bx n)= []:=Ob s1
   have e:=Dg (g:=g) (rest:=[]) (en:=none) (r:=(jU bx n o sh,cE bx n,cE bx n)) (rstep:=aq false 6 3 (yO (tab (k+8) 1) (tab (k+8) 9) (aq false 5 4 (i9 (rs (tab (k+6))))) "round_step_signs.lambda")) F W0 R (by simp) (by simp) (λj a=>by simp at a) (show uG _ _ 0 none by show((([] ++ [(jU bx n o sh,cE bx n,cE bx n)]).map (mF n o tg sh)).getD 0 [])= [];simpa using l) (λj z=>nomatch z)
   rw[<- Og]at e;have b:e_ (.signs n tg sh mo) bx=(cE bx n).map Wg.cV:=by
    show(cE bx n).map mG=_;refine afM λc h=>?_;cases w4 X c h with
    |mk v bs t vw b hb hw ha=>rfl
   obtain⟨u,e⟩:∃u,tab (k+9) 16 [(MQ.signs n tg sh mo).d,.int o,.tup (cC (jU bx n o sh) (cE bx n) (cE bx n))] g=some (.tup [.tup [.str "told",.tup ((cE bx n).map Wg.cV)],u],g):=⟨_,by simpa[cL,Wg.l6]using e⟩
   refine hX (k+1) (ze (u:=u) (k+1) ?_);rw[uI,b];exact e
theorem Yq (k:Nat)(ok:(MQ.shared n p tg sh mo).Ok)(a:o<n):nF (MQ.shared n p tg sh mo).d n p o tg sh mo (tab (k+8) 0) (tab (k+8) 2) (tab (k+8) 8) (tab (k+8) 9):=
 ⟨λg=>Oc (M:=.shared n p tg sh mo) (k+5) g,λg=>aM rfl (cF rfl) rfl,λg=>aM rfl (cF rfl) rfl,λg=>AJ ok (k+5) g,λg=>GZ ok (aM rfl (cF rfl) rfl),a,ok.n5,ok.p1,ok.p4 _ _ _ _ _ rfl,rfl⟩
theorem Oh (k:Nat):tab (k+9) 11=aq false 6 3 (Dr (tab (k+8) 0) (tab (k+8) 2) (tab (k+8) 9) (aq false 10 5 (cI (rs (tab (k+7))))) (aq false 6 3 (yy (tab (k+8) 9) (tab (k+8) 3) (aq false 5 4 (i9 (rs (tab (k+6))))) "round_step_shared.lambda")) (aq false 4 3 (k_ (tab (k+8) 2) (tab (k+8) 9))) "shared_look.lambda" (GX (tab (k+8)))):=rfl
theorem Oi (k:Nat):rs (tab (k+7)) "shared_look.lambda" = some (dk (bO 2 1 (tP (Ds (tab (k+8) 0) (tab (k+8) 2) (tab (k+8) 8) (tab (k+8) 9))))):=rfl
theorem QI (k:Nat):rs (tab (k+6)) "round_step_shared.lambda" = some (dk (bO 0 1 (af 0))):=rfl
theorem Fc (k:Nat)(ok:(MQ.shared n p tg sh mo).Ok)(s:o<n)(X:eY (.shared n p tg sh mo) bx):∃st rd,l_ (tab (k+11) 19) (.shared n p tg sh mo) o ah bx st rd:=by
 have q:n<=5:=ok.n5;have s1:sh<=1:=ok.s1;have S:=Yq (o:=o) k ok s;have R:=Vp (o:=o) X;have j:∀g,tab (k+8) 3 [(MQ.shared n p tg sh mo).d] g=some (.tup (eN p),g):=λg=>GY ok (k+4) g;have r:cJ n p o sh=gr (.shared n p tg sh mo):=by unfold cJ;rw[y_ q s s1];simp only[gr];omega
 have wl:(bC (w6 bx n o sh) (w5 bx p)).length=cJ n p o sh:=R.wl
 refine⟨(lH bx n p o sh).map (·.1),(lH bx n p o sh).map (·.2),by simp,ma (QH X s),λi b g bd=>?_,λg bd=>?_,by rw[uJ,wl,r]⟩
 . rw[uJ,wl]at b
   obtain⟨x,u,l,e⟩:=Jv (g:=g) (scF:=aq false 4 3 (k_ (tab (k+8) 2) (tab (k+8) 9))) (X:=GX (tab (k+8))) (Oi k) (QI k) S j R b;rw[<- Oh]at e;refine⟨x,by rw[QG];exact l,hX (k+1) (w8 (u:=u) (k+1) ?_)⟩;rw[uJ];exact e
 . obtain⟨u,e⟩:=NZ (g:=g) (X:=GX (tab (k+8))) (step:=aq false 6 3 (yy (tab (k+8) 9) (tab (k+8) 3) (aq false 5 4 (i9 (rs (tab (k+6))))) "round_step_shared.lambda")) (Oi k) S R
   rw[<- Oh]at e;have f:e_ (.shared n p tg sh mo) bx=(w5 bx p).map Wg.cV:=by show(w5 bx p).map mG=_;refine afM λc h=>?_;obtain⟨v,a,t,rfl,_⟩:=R.ba c h;rfl
   refine hX (k+1) (w8 (u:=u) (k+1) ?_);rw[uJ,f];exact e
theorem Oj (k:Nat):AI (tab (k+11) 19):=λM o l i ok f X=>by
 cases M with
 |once n=>exact Of k ok X
 |twice n tu =>
  refine G_ k (w:="twice") (mv:=.ay) ok X rfl (λh g=>rfl) (.inl rfl) (λg=>aM rfl (cF rfl) rfl) rfl (λc a=>?_) rfl rfl;obtain⟨j,b,rfl⟩:=ZK.mp a;obtain⟨v,x,e,_⟩:=qI X (aap.mp b);exact⟨v,x,_,e⟩
 |handed n tu mo =>
  refine G_ k (w:="handed") (mv:=.int mo) ok X rfl (λh g=>rfl) (.inr rfl) (λg=>?_) rfl (λc a=>?_) rfl rfl
  . have h0:tab (k+7) 0 [(MQ.handed n tu mo).d,.str "moves"] g=some (.int mo,g):=aM rfl (cF rfl) rfl
    show aq false 1 1 (SF (tab (k+7))) _ g=_;refine aM rfl (cF (g1:=g) (d:=.int mo) ?_) rfl;show jC _ _ _ [some (MQ.handed n tu mo).d] g=_;rw[xU,show aD (ak oEq (ak av (af 0) (fC (.int 0))) (fC (.str "handed"))) [some (MQ.handed n tu mo).d] g=some (true,g) from rfl];exact h0
  obtain⟨j,b,rfl⟩:=ZK.mp a;obtain⟨v,x,ws,e,_⟩:=qI X (aap.mp b);exact⟨v,x,_,e⟩
 |signs n tg sh mo=>exact Jz k ok f X|shared n p tg sh mo=>exact Fc k ok f X
end
theorem Yr (k:Nat):ny (tab (k+1) 22):=Jk
theorem Dv (k:Nat):eJ (tab (k+1) 23):=Ji
theorem Ol (k:Nat):iV (tab (k+2) 24):=Jj (Dv k)
theorem SI (k:Nat):nA (tab (k+3) 25):=Jm (Dv (k+1)) (Ol k)
theorem Ys (k:Nat):rV (tab (k+3) 26):=E6 (Dv (k+1)) (Ol k)
theorem SK (k:Nat):pg (tab (k+1) 27):=Qr
theorem Yt (k:Nat):n6 (tab (k+4) 28):=Dj (SI k)
theorem Yu (k:Nat):wX (tab (k+6) 30):=Jy (take:=tab (k+4) 23) (value:=tab (k+4) 25) (places:=tab (k+5) 27) (state:=tab (k+4) 28) (Dv (k+3)) (SI (k+1)) (Yt k) (SK (k+4))
theorem Yv (k:Nat):rQ (tab (k+3) 31):=EN (Ol k)
theorem Fe (ns:List Int)(A:ns.length<=63):∃g',tab 60 33 [.lst (ns.map .int)] []=some (.bl true,g'):=by
 have key:wp (tab 60 33 [.lst (ns.map .int)] []) λq=>q.1 = .bl true:=by
  show wp (aq false 14 1 (Fb (tab 59)) _ _) _;refine jq rfl ?_;have h:Fb (tab 59)=ax (fg (gI (aa (ak aT (fC (.int 4)) (ao ((ji km gZ)) (aa (fC (.int 6)) (aa (ao bz (aa (af 0) ag)) ag)))) ag)) (gN 1) (N7 (tab 59 22) (tab 59 23) (tab 59 26) (tab 59 27) (tab 59 31) (tab 59 30) (tab 59 32) (tab 59 19))) (aI (fC (.bl true))):=rfl;rw[h];have c:∀a b:Int,∀g:G,ji km gZ [.int a,.int b] g=some (.int (if b<a then b else a),g):=λa b g=>rfl;simp[c];refine j_ ?_;simp[c];have u:(if(ns.length:Int)<6 then(ns.length:Int)else 6)<=6/\0<=(if(ns.length:Int)<6 then(ns.length:Int)else 6):=by split<;>omega
  refine⟨by omega,by omega,nM (λj σ g=>(∃f o2 o3 o4 o5 o6 o7 o8 o9 o10 o11 o12 o13,σ = [some (.lst (ns.map .int)),f,o2,o3,o4,o5,o6,o7,o8,o9,o10,o11,o12,o13])/\Bd g) _ 0 _ _ ⟨⟨_,_,_,_,_,_,_,_,_,_,_,_,_,rfl⟩,λi xs e=>by simp at e⟩ ?_ ?_⟩
  . rintro j d σ g k ⟨⟨f,o2,o3,o4,o5,o6,o7,o8,o9,o10,o11,o12,o13,rfl⟩,l⟩
    obtain⟨y,rfl⟩:=fP k;obtain⟨p2,p3,p4,p5,r,p7,o,s,x,Zk,Sj,z,g',e,bd⟩:=QD (ns:=ns) (j:=j) (Yr 58) (Dv 58) (Ys 56) (SK 58) (Yv 56) (Yu 53) (λM ok g=>Qy ok g) (Oj 48) (by omega) l (o2:=o2) (o3:=o3) (o4:=o4) (o5:=o5) (o6:=o6) (o7:=o7) (o8:=o8) (o9:=o9) (o10:=o10) (o11:=o11) (o12:=o12) (o13:=o13);exact⟨_,rfl,_,e,⟨_,_,_,_,_,_,_,_,_,_,_,_,_,rfl⟩,bd⟩
  . rintro σ g _
    simp[bQ]
 obtain⟨⟨d,g'⟩,e,rfl⟩:=key;exact⟨g',e⟩
end K24
namespace K24
open PyProof.Rows L2 L3 RI
theorem walk {l:acB}{q:ZW}{a:List Str}{o:(Str->Option Value)->Heap->Prop}{b:World->Heap->Prop}{d:DefRec}{K:Params->ZF}{c:List Addr}(k:l.most=some 63)(r:d.params.defaults = [])(j:d.name = "law")
  (e:∀(w:World) (h:Heap),b w h->(K w.params).In h /\ ∀P∈c,h.get? P=some (abP #[]))
  (F:∀(w:World) (mg:Str->Option Value) (h:Heap),(K w.params).In h->h.Ns Z_ mg->At (K w.params) c w mg mo):
  afE q a o b l.row.toRowW d [] (λf vs=>aft f vs):=
 RI.Jc (i:=33) (R:=60) (x:="_law_script") k ⟨rfl,by decide,by decide,rfl⟩ r j e F rfl rfl rfl rfl good (by decide +kernel) Fe
theorem xj {K:ZF}{w:World}{mg:Str->Option Value}{j:Addr}{a0:_}{S:_}{c:Addr}{au:_}{L:Array (Option Value)}{I:_}{ay:_}{i:Addr}{X:_}{O:Array (Option Value)}{u:_}{s:_}{ab:_}{h:Addr}{T:_}{N:Array (Option Value)}{C:_}{q:_}{B:_}{aG:_}{e:Addr}{ae:_}{M:Array (Option Value)}{k:_}{y:_}{E:_}{H:_}{aX:_}{b:Addr}{U:_}{P:Array (Option Value)}{J:_}{x:_}{l:_}{A:_}{r:_}{ai:_}{f:Addr}{W:_}{Q:Array (Option Value)}{o:_}{z:_}
 (a4:abG K Z_ "NUMBERS" = some (some (.ref j)))
 (a3:K.lookup j=some ⟨.type "dict",none,.dict #[⟨acy w.params "once",.str "once" S,.ref c⟩,⟨acy w.params "twice",.str "twice" ay,.ref i⟩,⟨acy w.params "handed",.str "handed" ab,.ref h⟩,⟨acy w.params "signs",.str "signs" aG,.ref e⟩,⟨acy w.params "shared",.str "shared" aX,.ref b⟩,⟨acy w.params "tables",.str "tables" ai,.ref f⟩] a0,#[]⟩)
 (Z:K.lookup c=some ⟨.type "tuple",none,.seq #[(.str "hands" I)] au,L⟩)
 (aS:K.lookup i=some ⟨.type "tuple",none,.seq #[(.str "hands" u),(.str "turn" s)] X,O⟩)
 (ah:K.lookup h=some ⟨.type "tuple",none,.seq #[(.str "hands" C),(.str "turn" q),(.str "moves" B)] T,N⟩)
 (R:K.lookup e=some ⟨.type "tuple",none,.seq #[(.str "hands" k),(.str "toggles" y),(.str "shakes" E),(.str "moves" H)] ae,M⟩)
 (Y:K.lookup b=some ⟨.type "tuple",none,.seq #[(.str "hands" J),(.str "places" x),(.str "toggles" l),(.str "shakes" A),(.str "moves" r)] U,P⟩)
 (ar:K.lookup f=some ⟨.type "tuple",none,.seq #[(.str "hands" o),(.str "boxes" z)] W,Q⟩)
 (a5:(j == ace)=false):∃a,abG K Z_ "NUMBERS" = some (some (.ref a)) /\ ∀lx,iH w ⟨K,w,mg,lx⟩ a ky:=⟨_,a4,λlx=>⟨⟨_,_,_,a3,⟨rfl,rfl,rfl⟩,rfl,⟨_,_,_,rfl,⟨_,rfl⟩,rfl,⟨.ref c,rfl,.inr ⟨_,_,_,_,_,rfl,by rfl,rfl,Z,rfl,rfl,rfl,(show 1<=ZM by decide),.cons ⟨_,rfl⟩ (.nil)⟩⟩,⟨_,_,_,rfl,⟨_,rfl⟩,rfl,⟨.ref i,rfl,.inr ⟨_,_,_,_,_,rfl,by rfl,rfl,aS,rfl,rfl,rfl,(show 2<=ZM by decide),.cons ⟨_,rfl⟩ (.cons ⟨_,rfl⟩ (.nil))⟩⟩,⟨_,_,_,rfl,⟨_,rfl⟩,rfl,⟨.ref h,rfl,.inr ⟨_,_,_,_,_,rfl,by rfl,rfl,ah,rfl,rfl,rfl,(show 3<=ZM by decide),.cons ⟨_,rfl⟩ (.cons ⟨_,rfl⟩ (.cons ⟨_,rfl⟩ (.nil)))⟩⟩,⟨_,_,_,rfl,⟨_,rfl⟩,rfl,⟨.ref e,rfl,.inr ⟨_,_,_,_,_,rfl,by rfl,rfl,R,rfl,rfl,rfl,(show 4<=ZM by decide),.cons ⟨_,rfl⟩ (.cons ⟨_,rfl⟩ (.cons ⟨_,rfl⟩ (.cons ⟨_,rfl⟩ (.nil))))⟩⟩,⟨_,_,_,rfl,⟨_,rfl⟩,rfl,⟨.ref b,rfl,.inr ⟨_,_,_,_,_,rfl,by rfl,rfl,Y,rfl,rfl,rfl,(show 5<=ZM by decide),.cons ⟨_,rfl⟩ (.cons ⟨_,rfl⟩ (.cons ⟨_,rfl⟩ (.cons ⟨_,rfl⟩ (.cons ⟨_,rfl⟩ (.nil)))))⟩⟩,⟨_,_,_,rfl,⟨_,rfl⟩,rfl,⟨.ref f,rfl,.inr ⟨_,_,_,_,_,rfl,by rfl,rfl,ar,rfl,rfl,rfl,(show 2<=ZM by decide),.cons ⟨_,rfl⟩ (.cons ⟨_,rfl⟩ (.nil))⟩⟩,rfl⟩⟩⟩⟩⟩⟩⟩,a5⟩⟩
end K24
open PySem.W PyProof.Rows
namespace PySem.W.Fast
theorem te3234922210856535054:1=1:=rfl
theorem tw2930757887914356632:1=1:=rfl
theorem tw10140935367398167903:1=1:=rfl
theorem tw364194935165293043:1=1:=rfl
theorem tw12905492822083825922:1=1:=rfl
theorem tw7262099376474226090:1=1:=rfl
theorem tw12942185062147845228:1=1:=rfl
theorem tw10278571267518433892:1=1:=rfl
theorem tw18245279652127849822:1=1:=rfl
theorem tw8021003681121503660:1=1:=rfl
theorem tw6694059510065985186:1=1:=rfl
theorem tw8437322341014413391:1=1:=rfl
theorem tw14423477488550384115:1=1:=rfl
theorem tw3347458122694297419:1=1:=rfl
theorem tw3711540554606700209:1=1:=rfl
theorem tw1727116012934051401:1=1:=rfl
theorem tw8542256307120441583:1=1:=rfl
theorem tw9385971465044552450:1=1:=rfl
theorem tw16710596619614177144:1=1:=rfl
theorem tw1880072256976244513:1=1:=rfl
theorem tw11687978458759482798:1=1:=rfl
theorem tw4363288480310169040:1=1:=rfl
theorem tw10312365304814692789:1=1:=rfl
theorem tw4544340180260977935:1=1:=rfl
theorem tw17205353302382947197:1=1:=rfl
theorem tw5089649908232656232:1=1:=rfl
theorem tw15018890786757628590:1=1:=rfl
theorem tw1987973256203823338:1=1:=rfl
theorem tw3103411496597192628:1=1:=rfl
theorem tw10156128575850019217:1=1:=rfl
theorem tw4503194432779564453:1=1:=rfl
theorem tw3572827077550625025:1=1:=rfl
theorem tw10325129400981079311:1=1:=rfl
theorem tw9617989208952206992:1=1:=rfl
theorem tw4410457522662378993:1=1:=rfl
theorem tw11957098265101936338:1=1:=rfl
theorem tw3793888402841872434:1=1:=rfl
theorem tw10490896333621312771:1=1:=rfl
theorem tw9678909824052648021:1=1:=rfl
theorem tw2175364267101329948:1=1:=rfl
theorem tw2636750577385833508:1=1:=rfl
theorem tw9692356257205717156:1=1:=rfl
theorem tw10407958984778889059:1=1:=rfl
theorem tw16413348560724499517:1=1:=rfl
theorem tw376555805187650205:1=1:=rfl
theorem tw6942952102418139013:1=1:=rfl
theorem tw218688217489833178:1=1:=rfl
theorem tw4883143786576752890:1=1:=rfl
theorem tw7743205757315780369:1=1:=rfl
theorem tw15717906980005525840:1=1:=rfl
theorem tw7101727053681505244:1=1:=rfl
theorem tw1049032373237613150:1=1:=rfl
theorem tw11616635855735693347:1=1:=rfl
theorem tw10810882467134160874:1=1:=rfl
theorem tw14644458587899033698:1=1:=rfl
theorem tw8827413902742264580:1=1:=rfl
theorem tw1326125467566448821:1=1:=rfl
theorem tw11567151766496229408:1=1:=rfl
theorem tw18339840102461193558:1=1:=rfl
theorem tw10709788844825209219:1=1:=rfl
theorem tw677723883467881447:1=1:=rfl
theorem tw10541255197999019242:1=1:=rfl
theorem tw13385617266775420288:1=1:=rfl
theorem tw3832926803906827367:1=1:=rfl
theorem tw15478312414449973257:1=1:=rfl
theorem tw1286027903960772274:1=1:=rfl
theorem tw14796500295374105580:1=1:=rfl
theorem tw7217188301856393873:1=1:=rfl
theorem tw14029657394826152098:1=1:=rfl
theorem tw17202088403510157362:1=1:=rfl
theorem tw11600152336638428362:1=1:=rfl
theorem tw4235125063612871813:1=1:=rfl
theorem tw15511146689353365775:1=1:=rfl
theorem tw112245748471197545:1=1:=rfl
theorem tw15315119564961639221:1=1:=rfl
theorem tw3024740049814207118:1=1:=rfl
theorem tw16144799474505830433:1=1:=rfl
theorem tw5047580099081243203:1=1:=rfl
theorem tw7305894053594177958:1=1:=rfl
theorem tw14228512868036980565:1=1:=rfl
theorem tw9105364928521732992:1=1:=rfl
theorem tw526270296189816113:1=1:=rfl
theorem tw7201780743114237362:1=1:=rfl
theorem tw18201386222440600827:1=1:=rfl
theorem tw17081633890859857731:1=1:=rfl
theorem tw11050903504225921066:1=1:=rfl
theorem tw18131153532294852230:1=1:=rfl
theorem tw18274534983851482996:1=1:=rfl
theorem tw4527264535227623298:1=1:=rfl
theorem tw2657944695138926870:1=1:=rfl
theorem tw9083195610359402422:1=1:=rfl
theorem tw18077051132808367003:1=1:=rfl
theorem tw5938800103073425550:1=1:=rfl
theorem tw2652344343341517525:1=1:=rfl
theorem tw12496837948844508188:1=1:=rfl
theorem tw12587870605836906612:1=1:=rfl
theorem tw244775265250818607:1=1:=rfl
theorem tw8673551344877608213:1=1:=rfl
theorem tw17452174768702886732:1=1:=rfl
theorem tw1964302972184623734:1=1:=rfl
theorem tw7963258575370512639:1=1:=rfl
theorem tw12202244499370798362:1=1:=rfl
theorem tw1118615075506588396:1=1:=rfl
theorem tw13411920830046826554:1=1:=rfl
theorem tw12538887520392481188:1=1:=rfl
theorem tw13504156892209276826:1=1:=rfl
theorem tw16521672553677801649:1=1:=rfl
theorem tw6184842133666459299:1=1:=rfl
theorem tw7970735463695367075:1=1:=rfl
theorem tw303514839053421746:1=1:=rfl
theorem tw2969448268992965032:1=1:=rfl
theorem tw1504315648137256278:1=1:=rfl
theorem tw8531622928688155683:1=1:=rfl
theorem tw11418988395557408750:1=1:=rfl
theorem tw6563473993370700344:1=1:=rfl
theorem tw14161806383114839260:1=1:=rfl
theorem tw9818285859297004784:1=1:=rfl
theorem tw8371658487732210708:1=1:=rfl
theorem tw14228306610984280539:1=1:=rfl
theorem tw17901216210299685617:1=1:=rfl
theorem tw396432831714055211:1=1:=rfl
theorem tw2895900653543647637:1=1:=rfl
theorem tw16839561716116710888:1=1:=rfl
theorem tw1445182063086261923:1=1:=rfl
theorem tw4187927164304577533:1=1:=rfl
theorem tw6120491727058736702:1=1:=rfl
theorem tw13842278946261684370:1=1:=rfl
theorem tw12825329541608426276:1=1:=rfl
theorem tw8968608598013153808:1=1:=rfl
theorem tw17385493542205791279:1=1:=rfl
theorem tw11137796400068730315:1=1:=rfl
theorem tw16972471653444164632:1=1:=rfl
theorem tw16931990881924973059:1=1:=rfl
theorem tw11016943069220160212:1=1:=rfl
theorem tw15854705192411982403:1=1:=rfl
theorem tw9343331943738532640:1=1:=rfl
theorem tw4551565612803942853:1=1:=rfl
theorem tw8123790215497770458:1=1:=rfl
theorem tw6080343278417347125:1=1:=rfl
theorem tw12572538153738902745:1=1:=rfl
theorem tw7150702283458170309:1=1:=rfl
theorem tw18190471365071327658:1=1:=rfl
theorem tw11714518644500599270:1=1:=rfl
theorem tw1973426898111333938:1=1:=rfl
theorem tw4372419474839176975:1=1:=rfl
theorem tw18354257645589757801:1=1:=rfl
theorem tw13949173768578220541:1=1:=rfl
theorem tw11703628073578863378:1=1:=rfl
theorem tw7843081759434378601:1=1:=rfl
theorem tw13295983587361002779:1=1:=rfl
theorem tw2970497889442239216:1=1:=rfl
theorem tw17042240985784290296:1=1:=rfl
theorem tw15142646356525525076:1=1:=rfl
theorem tw15819635203865481481:1=1:=rfl
theorem tw230961097010826122:1=1:=rfl
theorem tw10140156381405099984:1=1:=rfl
theorem tw16191059134926234351:1=1:=rfl
theorem tw1363885979811317180:1=1:=rfl
theorem tw1874367263230697947:1=1:=rfl
theorem tw4542410841649622867:1=1:=rfl
theorem tw12035530226985990446:1=1:=rfl
theorem tw3718267306074132049:1=1:=rfl
theorem tw583631055732846488:1=1:=rfl
theorem tw2606658262345022078:1=1:=rfl
theorem tw1726875189672111019:1=1:=rfl
theorem tw8554736138282924697:1=1:=rfl
theorem tw17760129714786554253:1=1:=rfl
theorem tw7078995097649293713:1=1:=rfl
theorem tw5822090660396300406:1=1:=rfl
theorem tw10294075361613606559:1=1:=rfl
theorem tw1093142520526217923:1=1:=rfl
theorem tw2329725156043656945:1=1:=rfl
theorem tw4107314085517451297:1=1:=rfl
theorem tw14937640031900110503:1=1:=rfl
theorem tw3676816518885388175:1=1:=rfl
theorem tw3659887950977722086:1=1:=rfl
theorem tw16211788546945329941:1=1:=rfl
theorem tw37786437351622786:1=1:=rfl
theorem tw5880844147200132634:1=1:=rfl
theorem tw8381378217532735526:1=1:=rfl
theorem tw14730422190108662173:1=1:=rfl
theorem tw8262549587032064810:1=1:=rfl
theorem tw7286526419178521103:1=1:=rfl
theorem tw2075701830252252731:1=1:=rfl
theorem tw11413992640389058978:1=1:=rfl
theorem tw12469393480672639802:1=1:=rfl
theorem tw4720336508780431270:1=1:=rfl
theorem tw10721336610705978066:1=1:=rfl
theorem tw9812493488117381605:1=1:=rfl
theorem tw15065125146271176058:1=1:=rfl
theorem tw7096555898946867726:1=1:=rfl
theorem tw15255545708262950084:1=1:=rfl
theorem tw14413020067473713486:1=1:=rfl
theorem tw8024591714182593371:1=1:=rfl
theorem tw727911405550933258:1=1:=rfl
theorem tw16065930644177787546:1=1:=rfl
theorem tw12404990653057498835:1=1:=rfl
theorem tw8953765998012372019:1=1:=rfl
theorem tw17437844827911956696:1=1:=rfl
end PySem.W.Fast
set_option maxRecDepth 100000 in
set_option maxHeartbeats 0 in
theorem PySem.Challenge.cw_wholeglance_k24_whole_quiet_boxes_holds : PySem.Challenge.rw_wholeglance_k24_whole_quiet_boxes.Holds := by
  w_on; o_law; k_head; (case hw => w_witness2)
  k_fill
  refine K24.walk (l := PySem.Challenge.rw_wholeglance_k24_whole_quiet_boxes) rfl rfl rfl (fun w h Y => by exact ⟨PySem.W.km_in_of Y, PySem.W.km_tabs_of Y⟩) ?F
  case F =>
    intro w mg h KX G
    refine' ⟨_, _, _, (RI.bj.cons ?_ ?_ ?_ ?_ (RI.kU fun _ _=>rfl)
 (RI.bj.cons ?_ ?_ ?_ ?_ (RI.jR fun _=>rfl)
 (RI.bj.cons ?_ ?_ ?_ ?_ (RI.jR fun _=>rfl)
 (RI.bj.cons ?_ ?_ ?_ ?_ (RI.jR fun _=>rfl)
 (RI.bj.cons ?_ ?_ ?_ ?_ (RI.RU fun _ _ _ _ _=>rfl)
 (RI.bj.cons ?_ ?_ ?_ ?_ (RI.kU fun _ _=>rfl)
 (RI.bj.cons ?_ ?_ ?_ ?_ (RI.jR fun _=>rfl)
 (RI.bj.cons ?_ ?_ ?_ ?_ (RI.jR fun _=>rfl)
 (RI.bj.cons ?_ ?_ ?_ ?_ (RI.kU fun _ _=>rfl)
 (RI.bj.cons ?_ ?_ ?_ ?_ (RI.kU fun _ _=>rfl)
 (RI.bj.cons ?_ ?_ ?_ ?_ (RI.RT fun _ _ _ _=>rfl)
 (RI.bj.maker ?_ ?_ ?_ ?_ ?_ ?_ ?_ ?_ ?_ (RI.nu fun _ _ _=>rfl)
 (RI.bj.maker ?_ ?_ ?_ ?_ ?_ ?_ ?_ ?_ ?_ (RI.nu fun _ _ _=>rfl)
 (RI.bj.cons ?_ ?_ ?_ ?_ (RI.nu fun _ _ _=>rfl)
 (RI.bj.cons ?_ ?_ ?_ ?_ (RI.nu fun _ _ _=>rfl)
 (RI.bj.cons ?_ ?_ ?_ ?_ (RI.nu fun _ _ _=>rfl)
 (RI.bj.maker ?_ ?_ ?_ ?_ ?_ ?_ ?_ ?_ ?_ (RI.nu fun _ _ _=>rfl)
 (RI.bj.maker ?_ ?_ ?_ ?_ ?_ ?_ ?_ ?_ ?_ (RI.nu fun _ _ _=>rfl)
 (RI.bj.cons ?_ ?_ ?_ ?_ (RI.nu fun _ _ _=>rfl)
 (RI.bj.cons ?_ ?_ ?_ ?_ (RI.RU fun _ _ _ _ _=>rfl)
 (RI.bj.cons ?_ ?_ ?_ ?_ (RI.nu fun _ _ _=>rfl)
 (RI.bj.cons ?_ ?_ ?_ ?_ (RI.kU fun _ _=>rfl)
 (RI.bj.cons ?_ ?_ ?_ ?_ (RI.kU fun _ _=>rfl)
 (RI.bj.cons ?_ ?_ ?_ ?_ (RI.kU fun _ _=>rfl)
 (RI.bj.cons ?_ ?_ ?_ ?_ (RI.kU fun _ _=>rfl)
 (RI.bj.cons ?_ ?_ ?_ ?_ (RI.jR fun _=>rfl)
 (RI.bj.cons ?_ ?_ ?_ ?_ (RI.kU fun _ _=>rfl)
 (RI.bj.cons ?_ ?_ ?_ ?_ (RI.jR fun _=>rfl)
 (RI.bj.cons ?_ ?_ ?_ ?_ (RI.kU fun _ _=>rfl)
 (RI.bj.cons ?_ ?_ ?_ ?_ (RI.nu fun _ _ _=>rfl)
 (RI.bj.cons ?_ ?_ ?_ ?_ (RI.kU fun _ _=>rfl)
 (RI.bj.cons ?_ ?_ ?_ ?_ (RI.kU fun _ _=>rfl)
 (RI.bj.cons ?_ ?_ ?_ ?_ (RI.jR fun _=>rfl)
 (RI.bj.cons ?_ ?_ ?_ ?_ (RI.jR fun _=>rfl)
 (RI.bj.lam (fun _ _ _ _ => (RI.jR fun _=>rfl)) (RI.bj.lam (fun _ _ _ _ => (RI.jR fun _=>rfl)) (RI.bj.lam (fun _ _ _ _ => (RI.jR fun _=>rfl)) (RI.bj.lam (fun _ _ _ _ => (RI.jR fun _=>rfl)) RI.bj.nil)))))))))))))))))))))))))))))))))))))), ?_,
 (RI.bc ?z_len (RI.bc ?z_min (RI.bc ?z_int (RI.bc ?z_tuple (RI.bc ?z_sorted (RI.bc ?z_dict (RI.bc ?z_set (RI.bc ?z_range (RI.bc ?z_enumerate (RI.bc ?z_zip RI.bn)))))))))),
    RI.RV, (RI.cc (K24.xj ?qn_NUMBERS ?ql_NUMBERS ?qv_NUMBERS_0 ?qv_NUMBERS_1 ?qv_NUMBERS_2 ?qv_NUMBERS_3 ?qv_NUMBERS_4 ?qv_NUMBERS_5 ?qs_NUMBERS) RI.RV)⟩
    all_goals try first | k_is | rfl | kernel_rfl | k_mem
